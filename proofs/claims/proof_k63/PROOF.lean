import PyProof.Rows.All
import Wide.All
import OpenK.AllK
import Wide.FinOn
import Lean
import PyProof.EqAt
import PyProof.EqKinds
import PyProof.TupleCall
import PyProof.NeData
import PyProof.P3In
import PyProof.ZipIter
import PyProof.EnumIter
import PyProof.EnumFor
import PyProof.EnumMake
import PyProof.TupleIter
import KE.KRevIter
import PyProof.ListRange
import PyProof.ConsumeWalk
import PyProof.WalkInts
import PyProof.SeqI3
import PyProof.P3Eq
import PyProof.TupleKey
import PyProof.DictRoadsH
import PyProof.FactsAll.NoneType_1
import PyProof.Rows.RowHeap
import PyProof.DictIter
import PyProof.DictWalks
import PyProof.Rows.TupDisplay
import PyProof.DictKinds
import PyProof.TupleOfSeq
import PyProof.Rows.RuleN_abs
import KE.KLam
import KE.KNestM
import PyProof.StationsW
import PyProof.ExcClass2
import PyProof.Rows.Own
import PyProof.Rows.OwnQ
import PyProof.RulesAs
import KE.KIsAll
import PyProof.ExcArgsOwn
import PyProof.ExcAttrAll.ValueError
import KE.KRevSl
import PyProof.Rows.SetFrom
import PyProof.FactsAll.set_1
import PyProof.SetRoads
import PyProof.RaisesDict
import PyProof.MeetsDictList
import PyProof.FactsAll.tuple_2
import KE.KDictList
import PyProof.Rows.SortShell
import PySem.Challenge.RW_roundfall_k63_whole_open_is_one_class
set_option Elab.async false
set_option linter.all false
set_option maxRecDepth 100000
local macro_rules|`(tactic|nofun)=>`(tactic|decide +kernel)
open Option renaming some->Ga,none->Gb
theorem Gc{p:Prop}[Decidable p](h:p):decide p=true:=decide_eq_true h
theorem Gd{p:Prop}[Decidable p](h:¬p):decide p=false:=decide_eq_false h
theorem Ge{c:Prop}{h:Decidable c}(k:c){α}{t e:α}:ite c t e=t:=if_pos k
theorem Gf{c:Prop}{h:Decidable c}(k:¬c){α}{t e:α}:ite c t e=e:=if_neg k
open PySem renaming wpAny_bind->eN,wpAny_pure->eO
open PySem renaming Value->Gg,Shared->Gh,FuncData->Gi,Addr->Gj
open PySem.W renaming Frag->ja,mg_none_of->j9,nsIn->ku,keepIn->kG,fnOf->kU,kla_obj->kY,kmHook->ud,kas_ask->uT,envX->u7,codeIn->vE,kas_sort->vO,kla_fn->qd,methodObj->qh,codeHdIn->qA,cellsFrom_some->qC,instObj->qI,OpenLaw->qL,lookIn->qV,tabObj->Ja,codeHd_of_K->Jf,WalkO->Jg,mg_of->Ji,callWith_K->Jn,kitx_dict->Jw,kat_kind->JH,kat_one->JL,KatTups->JM,kas_asc->JN,KatLex->JP,kat_lt->JQ,notCls->JU,KasT->JW
open List renaming range->jb,length_map->jd,mem_cons_self->jf,getElem?_eq_getElem->jh,getElem?_eq_some_iff->ji,mem_cons_of_mem->jj,getD_eq_getElem?_getD->jl,mem_range->jm,size_toArray->jn,mem_singleton->jp,mem_map->jq,getElem?_map->jw,mem_cons->jx,mem_filter->jA,map_cons->jB,length_append->jC,mem_append_right->jH,getElem?_set_ne->jI,nodup_cons->jJ,length_range->jK,length_cons->jL,mem_of_getElem?->jM,getElem?_set_self->jN,all_eq_true->jO,replicate->jP,map_map->jT,append_nil->j4,nodup_nil->j7,toArray->j8,map_congr_left->ka,mem_append->kc,filter_cons_of_pos->kg,filter_cons_of_neg->kh,lookup_cons->kj,getElem?_eq_none->kq,contains_iff_mem->kr,getElem?_append_left->ky,find?_cons_of_pos->kB,find?_cons_of_neg->kC,getElem?_append_right->kH,filter_append->kI,map_append->kJ,replicate_succ->kQ,getElem?_range->kX,length_filter_le->k0,not_mem_nil->k9,range'->uc,getElem?_replicate->ue,flatten_cons->ug,filter_nil->uk,filter_sublist->ul,find?_eq_none->uz,mem_append_left->uC,nodup_append->uE,getElem_mem->uJ,any_eq_true->uK,getElem?_cons_zero->uL,length_pos_of_mem->uP,find?_cons->uS,length_replicate->uV,length_singleton->uW,append_assoc->uX,range_eq_range'->u5,getElem?_eq_none_iff->u9,drop_eq_getElem_cons->vb,length_reverse->vd,length_set->vi,filter_map->vj,mem_filterMap->vm,getElem?_cons_succ->vy,map_nil->vG,reverse_cons->vH,drop_eq_nil_of_le->vI,filter_eq_nil_iff->vK,filter_congr->vM,cons_append->vN,range'_succ->vQ,nodup_range->vS,any_cons->vV,exists_mem_of_length_pos->vZ,filterMap_cons->v6,getElem_of_mem->v7,mem_of_find?_eq_some->qg,length->qi,length_erase_of_mem->qr,length_take->qx,length_tail->qz,of_mem_zip->qJ,foldl_cons->qK,forIn_cons->qM,find?_some->qN,range_succ->qO,getElem?_reverse->qR,getElem?_toArray->qS,sum_cons->Jl,zip_nil_right->Js,zip_cons_cons->Jt,zip_nil_left->JA,getElem_inj->JB,length_drop->JD,mem_flatMap->JJ,filter_cons->JK,foldl->JO
open PySem.PyData renaming int->jc,canLayAll0->jE,depthAll->jF,eqv->jW,bool->j3,tuple->kW,eqvAll->ub,list->vB,none->vX,depth->qD,canLay0->qY,keyHash->JV
open Option renaming bind_some->je,map_eq_some_iff->ur,map_some->uU,bind_eq_some_iff->vz,map_eq_none_iff->vJ,isSome_iff_exists->qk,none->qX,isSome_map->Jv,getD_none->JE
open PySem.Heap renaming get?_push_of_some->jg,lt_size->ju,get?_push_size->jD,get?_update_self->kF,get?_update_other->kK,SameBut->uO,size_push->qZ,get?_update_ne->Je,get?_push_ne->Jy,size_update->JG
open PySem renaming Spec->jk,mem_of_lookup->kE,Fin->vv,evalArgs_none->Jd,call->Jo,getD_mem->JS,mem_getD->JT
open Bool renaming and_eq_true->jo,false_ne_true->jv,eq_iff_iff->jV,or_eq_true->j5,false_eq_true->kA,not_eq_true->ua,not_eq_true'->ui,and_false->uy,or_false->vU,not_true->ql,false_and->qU,and_eq_true_iff->Jc,false_or->Jh,true_and->Jj
open Nat renaming le_refl->jr,lt_of_lt_of_le->jz,ne_of_lt->jG,zero_le->jX,le_trans->j6,lt_irrefl->ko,zero_add->uq,succ->uv,le_of_lt->uN,lt_succ_of_lt->uY,add_lt_add_iff_right->vh,strongRecOn->vk,le_succ->vt,ne_of_gt->vC,lt_succ_self->vP,add_assoc->vW,not_lt_zero->v5,le_succ_of_le->qj,sub_self->qH,lt_of_le_of_lt->Jp,le_of_eq->Ju,min_self->Jx,sub_zero->Jz,min_le_right->JC
open Option.some renaming inj->jy
open Array renaming length_toList->jQ,getElem?_toList->kZ,toArray_toList->uD,mem_toList_iff->u4,append_assoc->Jm,forIn_toList->Jq,toList_map->JF
open Int renaming toNat_natCast->jR,le_refl->vx,zero_add->qE,le_trans->qF,not_lt->JR
open PySem.Obj renaming mapSeq->jS,data_mapDictKeys->Jb,data_mapFields->Jr
open Classical renaming choose_spec->jU,byContradiction->kP,propDecidable->uh,choose->u8
open PySem.NameKind renaming free->jY,cell->vg
open Or renaming inr->jZ,inl->kw
open PySem.Builtin.List renaming listExtendWith->kb,listLengthHint->kS,listTooLong->uG,listSameRef->uH,listItems->uQ,listUpdate->qy
open PySem.Value renaming none->kf,ref->kD,bool->uM,type->uZ,int->v8,isInt->qT
open PySem.Heap.SameBut renaming update->ki
open PySem.Builtin.Tuple renaming tupleHashOf->kN,tupleExact->uF,tupleItemsOf->qc
open PySem.Builtin.Int renaming intBits->kR
open Ne renaming symm->kT
open PySem.F renaming slot_dict_setdefault->uj,args_tuple_add_2->vf,entry_tuple_add->vn,plainAttrs_list->vo,plainAttrs_dict->vA,slot_tuple_add->vF,args_dict_setdefault_3->vR,entry_dict_setdefault->vY,type_dict_setdefault->v4,slot_list_append->qm,type_list_append->qo,slot_list_extend->qp,slot_dict_values->qq
open PySem.Calls renaming callWith_builtin->um,spliced_cons->uu,evalArgs_plain->uR,spliced_nil->vD,Name_function_global->v9,call_function_entry->qf
open PySem.PyData.int renaming inj->uA
open PySem.Builtin.Slice renaming slicePlaces->uB,sliceAdjust->va,sliceApplied->qa
open PySem.Builtin renaming bitAnd->uI,bitOr->vT
open PySem.Str renaming ofString->u6
open PySem.Builtin.Dict_items renaming ownsTuple->v0
open List.Nodup renaming sublist->qe
open PySem.Builtin.Range renaming rangeSize->qw
open PySem.PyData.tuple renaming inj->qB
open Nat.succ renaming inj->qG
open PySem.Builtin.Dict renaming showsAll->qP
open PySem.W.Looks renaming of_pure->qQ
open PySem.Around renaming frames_deeper->qW
open List.cons renaming inj->Jk
namespace L2
end L2
namespace T3
end T3
namespace L2
open PySem PySem.Spec PyProof.Rows
def lj (s:Stmt):Arguments:=match s with
 | .FunctionDef _ a _ _ _ _ _ _ _ _=>a
 | _=>{ posonlyargs:=[],args:=[],vararg:=Gb,kwonlyargs:=[],kw_defaults:=[],kwarg:=Gb,defaults:=[] }
end L2
namespace L2
open PySem PySem.Spec PyProof.Rows
def gE (s:Stmt):List Stmt:=match s with
 | .FunctionDef _ _ b _ _ _ _ _ _ _=>b
 | _=>[]
end L2
namespace L2
open PySem PySem.Spec PyProof.Rows
def eP (s:Stmt):Scope:=match s with
 | .FunctionDef _ _ _ _ _ _ sc _ _ _=>sc
 | _=>{ kind:=.function,names:=[],isGenerator:=false,isCoroutine:=false }
end L2
namespace Law
noncomputable section
open PySem PySem.Spec PyProof.Rows L2 T3
def gH (i:Nat):Stmt:=PySem.Challenge.pw_roundfall_k63_whole_open_is_one_class.main.body.getD i (.Pass ⟨0,0,0,0⟩)
noncomputable section
open PySem PySem.W PySem.Spec PyProof.Rows L2
def gh (i:Nat)(x:Str)(d:Gg)(m:Str)(t:Nat)(c:Gj):Obj:=⟨.type "function",Gb,.func (fnOf x x (lj (gH i)) (gE (gH i)) (eP (gH i)) .none .none d (.str m t) Gb (.ref c) .none),#[]⟩
def rV:Nat->Gg
 | 0=>.none
 | n+1=>.ref (n+1)
def gi (x:Str)(t1 t2 t3:Nat)(i1 i2 i3 i4 i5:Int)(r1:Gj)(i6:Int)(r2 r3 r4 r5:Gj)(i7 i8:Int)(t4:Nat):Obj:=⟨.type "code",Gb,.fields #[.str x t1,.str x t2,.str "/claim/cut.py" t3,.int i1 0,.int i2 0,.int i3 0,.int i4 0,.int i5 0,rV r1,.bool true,.int i6 0,rV r2,.none,rV r3,rV r4,rV r5,.int i7 0,.int i8 0,.str "/claim/cut.py" t4],#[]⟩
def eV (P:Params)(x:Str)(t:Nat)(v:Gg):DictEntry:=⟨JV P x,.str x t,v⟩
def eR (P:Params)(x:Str)(t:Nat)(a:Gj):DictEntry:=⟨JV P x,.str x t,.ref a⟩
def bO:Obj:=⟨.type "module",Ga 0,.plain,#[]⟩
def Ut (P:Params):List DictEntry:=[eV P "__name__" 165 (.str ("law_roundfall_k63_whole_open_is_one_class") 588),eV P "__doc__" 166 (.none),eV P "__package__" 167 (.none),eV P "__loader__" 168 (.builtin "__main__.__loader__#opaque"),eV P "__spec__" 169 (.none),eR P "__annotations__" 170 6,eR P "__builtins__" 171 4,eV P "__file__" 173 (.str ("/claim/cut.py") 172),eV P "__cached__" 174 (.none),eR P "is_whole" 195 21,eR P "bit_of" 204 28,eR P "has_hand" 212 35]
def QY (P:Params):List DictEntry:=[eR P "mask_of" 221 42,eR P "hands_in" 227 47,eR P "RoundError" 247 57,eR P "NoBound" 263 70,eV P "LAST_ROUND" 267 (.int 5 266),eR P "many_hands" 274 79,eR P "fall_of" 283 86,eR P "is_up" 293 93,eR P "who_is_up" 299 98,eR P "comes" 310 105,eR P "keeps" 318 112,eR P "view_behind" 326 117]
def VZ (P:Params):List DictEntry:=[eR P "views_behind" 332 122,eR P "views_of" 338 127,eR P "own_part" 345 134,eR P "rounds_of" 353 141,eR P "own_past" 362 148,eR P "parts_of" 372 155,eR P "layers_of" 381 162,eR P "known" 388 169,eR P "least_known" 394 174,eR P "missing_in" 400 179,eR P "lacking" 411 186,eR P "first_of" 421 193]
def QN (P:Params):List DictEntry:=[eR P "unite" 432 200,eR P "joined" 444 207,eR P "classes" 455 214,eR P "choice_by" 467 221,eR P "last_rounds" 477 228,eR P "last_view" 486 235,eR P "choices" 492 240,eR P "waste_seen" 500 245,eR P "is_behind_bound" 508 252,eR P "least_where" 516 259,eR P "together" 524 266,eR P "all_heard" 532 271]
def eL4 (P:Params):List DictEntry:=[eR P "is_found_out" 541 278,eR P "found_out" 547 283,eR P "waste_of" 553 288,eR P "closing_round" 561 295,eR P "all_numbers" 569 300,eR P "falls_of_hand" 575 305,eR P "all_falls" 581 310,eR P "worlds" 587 315,eR P "_law_cell_at" 597 322,eR P "_law_numbers" 606 329,eR P "_law_told" 612 334,eR P "law" 618 339]
def mO (P:Params):Obj:=⟨.type "dict",Gb,.dict (j8 (Ut P++QY P++VZ P++QN P++eL4 P)) 60,#[]⟩
def Su:List Obj:=[bO,gi "is_whole" 189 190 191 2 1 0 0 3 15 181 16 17 18 19 193 2 194,gh 1 "is_whole" (.none) "roundfall.masks" 187 20,gi "bit_of" 196 197 198 4 1 0 0 3 22 181 23 24 25 26 202 4 203,gh 2 "bit_of" (.none) "roundfall.masks" 187 27,gi "has_hand" 205 206 207 9 2 0 0 3 29 181 30 31 32 33 210 9 211,gh 3 "has_hand" (.none) "roundfall.masks" 187 34,gi "mask_of" 213 214 215 11 1 0 0 3 36 181 37 38 39 40 219 11 220,gh 4 "mask_of" (.none) "roundfall.masks" 187 41,gi "hands_in" 222 223 224 16 1 0 0 3 43 181 44 0 0 45 225 16 226,gh 5 "hands_in" (.none) "roundfall.masks" 187 46,gi "many_hands" 268 269 270 25 1 0 0 3 73 181 74 75 76 77 272 25 273]
def Wk:List Obj:=[gh 11 "many_hands" (.none) "roundfall.runs" 264 78,gi "fall_of" 275 276 277 27 2 0 0 3 80 181 81 82 83 84 281 27 282,gh 12 "fall_of" (.none) "roundfall.runs" 264 85,gi "is_up" 284 285 286 32 3 0 0 3 87 181 88 89 90 91 291 32 292,gh 13 "is_up" (.none) "roundfall.runs" 264 92,gi "who_is_up" 294 295 296 35 2 0 0 3 94 181 95 0 0 96 297 35 298,gh 14 "who_is_up" (.none) "roundfall.runs" 264 97,gi "comes" 300 301 302 37 4 0 0 3 99 181 100 101 102 103 308 37 309,gh 15 "comes" (.none) "roundfall.runs" 264 104,gi "keeps" 311 312 313 44 2 0 0 3 106 181 107 108 109 110 316 44 317,gh 16 "keeps" (.none) "roundfall.runs" 264 111,gi "view_behind" 321 322 323 49 4 0 0 3 113 181 114 0 0 115 324 49 325]
def oL2:List Obj:=[gh 18 "view_behind" (.none) "roundfall.views" 319 116,gi "views_behind" 327 328 329 52 3 0 0 3 118 181 119 0 0 120 330 52 331,gh 19 "views_behind" (.none) "roundfall.views" 319 121,gi "views_of" 333 334 335 55 2 0 0 3 123 181 124 0 0 125 336 55 337,gh 20 "views_of" (.none) "roundfall.views" 319 126,gi "own_part" 339 340 341 60 1 0 0 3 128 181 129 130 131 132 343 60 344,gh 21 "own_part" (.none) "roundfall.views" 319 133,gi "rounds_of" 346 347 348 62 1 0 0 3 135 181 136 137 138 139 351 62 352,gh 22 "rounds_of" (.none) "roundfall.views" 319 140,gi "own_past" 354 355 356 68 2 0 0 3 142 181 143 144 145 146 360 68 361,gh 23 "own_past" (.none) "roundfall.views" 319 147,gi "parts_of" 363 364 365 72 1 0 0 3 149 181 150 151 152 153 370 72 371]
def WO:List Obj:=[gh 24 "parts_of" (.none) "roundfall.views" 319 154,gi "layers_of" 373 374 375 79 1 0 0 3 156 181 157 158 159 160 379 79 380,gh 25 "layers_of" (.none) "roundfall.views" 319 161,gi "known" 382 383 384 84 1 0 0 3 163 181 164 165 166 167 386 84 387,gh 26 "known" (.none) "roundfall.views" 319 168,gi "least_known" 389 390 391 86 1 0 0 3 170 181 171 0 0 172 392 86 393,gh 27 "least_known" (.none) "roundfall.views" 319 173,gi "missing_in" 395 396 397 88 1 0 0 3 175 181 176 0 0 177 398 88 399,gh 28 "missing_in" (.none) "roundfall.views" 319 178,gi "lacking" 401 402 403 91 2 0 0 3 180 181 181 182 183 184 409 91 410,gh 29 "lacking" (.none) "roundfall.views" 319 185,gi "first_of" 414 415 416 98 2 0 0 3 187 181 188 189 190 191 419 98 420]
def Wo:List Obj:=[gh 31 "first_of" (.none) "roundfall.classes" 412 192,gi "unite" 422 423 424 103 3 0 0 3 194 181 195 196 197 198 430 103 431,gh 32 "unite" (.none) "roundfall.classes" 412 199,gi "joined" 433 434 435 107 2 0 0 3 201 181 202 203 204 205 442 107 443,gh 33 "joined" (.none) "roundfall.classes" 412 206,gi "classes" 445 446 447 115 2 0 0 3 208 181 209 210 211 212 453 115 454,gh 34 "classes" (.none) "roundfall.classes" 412 213,gi "choice_by" 458 459 460 122 2 0 0 3 215 181 216 217 218 219 465 122 466,gh 36 "choice_by" (.none) "roundfall.plays" 456 220,gi "last_rounds" 468 469 470 128 3 0 0 3 222 181 223 224 225 226 475 128 476,gh 37 "last_rounds" (.none) "roundfall.plays" 456 227,gi "last_view" 478 479 480 131 3 0 0 3 229 181 230 231 232 233 484 131 485]
def ZI:List Obj:=[gh 38 "last_view" (.none) "roundfall.plays" 456 234,gi "choices" 487 488 489 133 3 0 0 3 236 181 237 0 0 238 490 133 491,gh 39 "choices" (.none) "roundfall.plays" 456 239,gi "waste_seen" 495 496 497 136 1 0 0 3 241 181 242 0 0 243 498 136 499,gh 41 "waste_seen" (.none) "roundfall.rules" 493 244,gi "is_behind_bound" 501 502 503 138 2 0 0 3 246 181 247 248 249 250 506 138 507,gh 42 "is_behind_bound" (.none) "roundfall.rules" 493 251,gi "least_where" 509 510 511 140 2 0 0 3 253 181 254 255 256 257 514 140 515,gh 43 "least_where" (.none) "roundfall.rules" 493 258,gi "together" 517 518 519 142 2 0 0 3 260 181 261 262 263 264 522 142 523,gh 44 "together" (.none) "roundfall.rules" 493 265,gi "all_heard" 527 528 529 145 2 0 0 3 267 181 268 0 0 269 530 145 531]
def oL6:List Obj:=[gh 46 "all_heard" (.none) "roundfall.waste" 525 270,gi "is_found_out" 533 534 535 147 3 0 0 3 272 181 273 274 275 276 539 147 540,gh 47 "is_found_out" (.none) "roundfall.waste" 525 277,gi "found_out" 542 543 544 149 2 0 0 3 279 181 280 0 0 281 545 149 546,gh 48 "found_out" (.none) "roundfall.waste" 525 282,gi "waste_of" 548 549 550 154 1 0 0 3 284 181 285 0 0 286 551 154 552,gh 49 "waste_of" (.none) "roundfall.waste" 525 287,gi "closing_round" 554 555 556 156 2 0 0 3 289 181 290 291 292 293 559 156 560,gh 50 "closing_round" (.none) "roundfall.waste" 525 294,gi "all_numbers" 564 565 566 161 2 0 0 3 296 181 297 0 0 298 567 161 568,gh 52 "all_numbers" (.none) "roundfall.worlds" 562 299,gi "falls_of_hand" 570 571 572 169 3 0 0 3 301 181 302 0 0 303 573 169 574]
def QW:List Obj:=[gh 53 "falls_of_hand" (.none) "roundfall.worlds" 562 304,gi "all_falls" 576 577 578 175 3 0 0 3 306 181 307 0 0 308 579 175 580,gh 54 "all_falls" (.none) "roundfall.worlds" 562 309,gi "worlds" 582 583 584 185 4 0 0 3 311 181 312 0 0 313 585 185 586,gh 55 "worlds" (.none) "roundfall.worlds" 562 314,gi "_law_cell_at" 590 591 592 192 2 0 0 3 316 181 317 318 319 320 595 192 596,gh 57 "_law_cell_at" (.none) "law_roundfall_k63_whole_open_is_one_class" 588 321,gi "_law_numbers" 598 599 600 196 1 0 0 3 323 181 324 325 326 327 604 196 605,gh 58 "_law_numbers" (.none) "law_roundfall_k63_whole_open_is_one_class" 588 328,gi "_law_told" 607 608 609 201 4 0 0 3 330 181 331 0 0 332 610 201 611,gh 59 "_law_told" (.none) "law_roundfall_k63_whole_open_is_one_class" 588 333,gi "law" 613 614 615 213 1 0 0 3 335 181 336 0 0 337 616 213 617]
def TD:List Obj:=[gh 60 "law" (.none) "law_roundfall_k63_whole_open_is_one_class" 588 338]
def oA:List (List Obj):=[Su,Wk,oL2,WO,Wo,ZI,oL6,QW,TD]
def kO (i j:Nat):Obj:=(oA.getD i []).getD j ⟨.none,Gb,.plain,#[]⟩
def KK:Params->Frag:=λP=>(nat_lit 3,mO P)::(nat_lit 4,kO 0 0)::(nat_lit 20,kO 0 1)::(nat_lit 21,kO 0 2)::(nat_lit 27,kO 0 3)::(nat_lit 28,kO 0 4)::(nat_lit 34,kO 0 5)::(nat_lit 35,kO 0 6)::(nat_lit 41,kO 0 7)::(nat_lit 42,kO 0 8)::(nat_lit 46,kO 0 9)::(nat_lit 47,kO 0 10)::(nat_lit 78,kO 0 11)::(nat_lit 79,kO 1 0)::(nat_lit 85,kO 1 1)::(nat_lit 86,kO 1 2)::(nat_lit 92,kO 1 3)::(nat_lit 93,kO 1 4)::(nat_lit 97,kO 1 5)::(nat_lit 98,kO 1 6)::(nat_lit 104,kO 1 7)::(nat_lit 105,kO 1 8)::(nat_lit 111,kO 1 9)::(nat_lit 112,kO 1 10)::(nat_lit 116,kO 1 11)::(nat_lit 117,kO 2 0)::(nat_lit 121,kO 2 1)::(nat_lit 122,kO 2 2)::(nat_lit 126,kO 2 3)::(nat_lit 127,kO 2 4)::(nat_lit 133,kO 2 5)::(nat_lit 134,kO 2 6)::(nat_lit 140,kO 2 7)::(nat_lit 141,kO 2 8)::(nat_lit 147,kO 2 9)::(nat_lit 148,kO 2 10)::(nat_lit 154,kO 2 11)::(nat_lit 155,kO 3 0)::(nat_lit 161,kO 3 1)::(nat_lit 162,kO 3 2)::(nat_lit 168,kO 3 3)::(nat_lit 169,kO 3 4)::(nat_lit 173,kO 3 5)::(nat_lit 174,kO 3 6)::(nat_lit 178,kO 3 7)::(nat_lit 179,kO 3 8)::(nat_lit 185,kO 3 9)::(nat_lit 186,kO 3 10)::(nat_lit 192,kO 3 11)::(nat_lit 193,kO 4 0)::(nat_lit 199,kO 4 1)::(nat_lit 200,kO 4 2)::(nat_lit 206,kO 4 3)::(nat_lit 207,kO 4 4)::(nat_lit 213,kO 4 5)::(nat_lit 214,kO 4 6)::(nat_lit 220,kO 4 7)::(nat_lit 221,kO 4 8)::(nat_lit 227,kO 4 9)::(nat_lit 228,kO 4 10)::(nat_lit 234,kO 4 11)::(nat_lit 235,kO 5 0)::(nat_lit 239,kO 5 1)::(nat_lit 240,kO 5 2)::(nat_lit 244,kO 5 3)::(nat_lit 245,kO 5 4)::(nat_lit 251,kO 5 5)::(nat_lit 252,kO 5 6)::(nat_lit 258,kO 5 7)::(nat_lit 259,kO 5 8)::(nat_lit 265,kO 5 9)::(nat_lit 266,kO 5 10)::(nat_lit 270,kO 5 11)::(nat_lit 271,kO 6 0)::(nat_lit 277,kO 6 1)::(nat_lit 278,kO 6 2)::(nat_lit 282,kO 6 3)::(nat_lit 283,kO 6 4)::(nat_lit 287,kO 6 5)::(nat_lit 288,kO 6 6)::(nat_lit 294,kO 6 7)::(nat_lit 295,kO 6 8)::(nat_lit 299,kO 6 9)::(nat_lit 300,kO 6 10)::(nat_lit 304,kO 6 11)::(nat_lit 305,kO 7 0)::(nat_lit 309,kO 7 1)::(nat_lit 310,kO 7 2)::(nat_lit 314,kO 7 3)::(nat_lit 315,kO 7 4)::(nat_lit 321,kO 7 5)::(nat_lit 322,kO 7 6)::(nat_lit 328,kO 7 7)::(nat_lit 329,kO 7 8)::(nat_lit 333,kO 7 9)::(nat_lit 334,kO 7 10)::(nat_lit 338,kO 7 11)::(nat_lit 339,kO 8 0)::[]
def KA:List Gj:=nat_lit 3::nat_lit 4::nat_lit 20::nat_lit 21::nat_lit 27::nat_lit 28::nat_lit 34::nat_lit 35::nat_lit 41::nat_lit 42::nat_lit 46::nat_lit 47::nat_lit 78::nat_lit 79::nat_lit 85::nat_lit 86::nat_lit 92::nat_lit 93::nat_lit 97::nat_lit 98::nat_lit 104::nat_lit 105::nat_lit 111::nat_lit 112::nat_lit 116::nat_lit 117::nat_lit 121::nat_lit 122::nat_lit 126::nat_lit 127::nat_lit 133::nat_lit 134::nat_lit 140::nat_lit 141::nat_lit 147::nat_lit 148::nat_lit 154::nat_lit 155::nat_lit 161::nat_lit 162::nat_lit 168::nat_lit 169::nat_lit 173::nat_lit 174::nat_lit 178::nat_lit 179::nat_lit 185::nat_lit 186::nat_lit 192::nat_lit 193::nat_lit 199::nat_lit 200::nat_lit 206::nat_lit 207::nat_lit 213::nat_lit 214::nat_lit 220::nat_lit 221::nat_lit 227::nat_lit 228::nat_lit 234::nat_lit 235::nat_lit 239::nat_lit 240::nat_lit 244::nat_lit 245::nat_lit 251::nat_lit 252::nat_lit 258::nat_lit 259::nat_lit 265::nat_lit 266::nat_lit 270::nat_lit 271::nat_lit 277::nat_lit 278::nat_lit 282::nat_lit 283::nat_lit 287::nat_lit 288::nat_lit 294::nat_lit 295::nat_lit 299::nat_lit 300::nat_lit 304::nat_lit 305::nat_lit 309::nat_lit 310::nat_lit 314::nat_lit 315::nat_lit 321::nat_lit 322::nat_lit 328::nat_lit 329::nat_lit 333::nat_lit 334::nat_lit 338::nat_lit 339::[]
theorem zBT (P:Params):(KK P).lookup 331=Gb:=by kernel_rfl
theorem zBd (P:Params):codeHdIn (KK P) 333 331=true:=by kernel_rfl
end
open PySem PySem.W PySem.Spec PyProof.Rows L2 T3
abbrev nz:Program:=PySem.Challenge.pw_roundfall_k63_whole_open_is_one_class
def qv0:Program:=view nz (jb 199)
theorem zk7 (P:Params):KA=(KK P).map (·.1):=by kernel_rfl
abbrev xt0 (s:Gh):Bool:=xlAt qv0 [] s&&recOk [] s
abbrev oS (p q:Program)(Xt:Gh->Bool)(s:Gh):=openSeen q [] (importedModules p.main.body) Xt true s
abbrev oE (p:Program)(w:World):=openEnds treeTable p w 9000
theorem zBU {p q:Program}{Xt:Gh->Bool}{α:Type}{Yf:Gh->α}{Ya:World->α}
  (h1:∀ w,(oE p w).map (λs=>(oS p q Xt s).1)=Ga (expectedOf q)) (h2:∀ w,(oE p w).map (λs=>((oS p q Xt s).2.1,(oS p q Xt s).2.2.2.2.2.2.2.1))=Ga (bltViewBooted,wideGood q))
  (h3:∀ w,(oE p w).map (λs=>(oS p q Xt s).2.2.1)=Ga true) (h4:∀ w,(oE p w).map (λs=>(oS p q Xt s).2.2.2.2.2.1)=Ga (plainGoodE q (looseW q []))) (h6:∀ w,(oE p w).map (λs=>((oS p q Xt s).2.2.2.1,(oS p q Xt s).2.2.2.2.1,(oS p q Xt s).2.2.2.2.2.2.1,(oS p q Xt s).2.2.2.2.2.2.2.2))=Ga (true,pinGoodD (drecsOf q),plainGoodD q [],clsGoodW q [])) (h5:∀ w,(oE p w).map Yf=Ga (Ya w)):LeftO p q [] Xt Yf Ya 9000:=λw=>by
 have a1:=h1 w;have a2:=h2 w;have a3:=h3 w;have a4:=h4 w;have a5:=h5 w;have a6:=h6 w;clear h1 h2 h3 h4 h5 h6;unfold oE at *;generalize openEnds treeTable p w 9000=E at *;cases E with
 | none=>cases a1
 | some s =>
  obtain⟨b1,b2⟩:=Prod.mk.inj (jy a2);obtain⟨c1,c2⟩:=Prod.mk.inj (jy a6);obtain⟨c2,c3⟩:=Prod.mk.inj c2;obtain⟨c3,c4⟩:=Prod.mk.inj c3;have e:oS p q Xt s=openGood q []:=Prod.ext (jy a1) (Prod.ext b1 (Prod.ext (jy a3) (Prod.ext c1 (Prod.ext c2 (Prod.ext (jy a4) (Prod.ext c3 (Prod.ext b2 c4)))))));show Ga (oS p q Xt s,Yf s)=Ga (openGood q [],Ya w);rw[e,show Yf s=Ya w from jy a5]
set_option maxHeartbeats 0 in
theorem PP:∀ w:World,(oE nz w).map (λs=>(oS nz qv0 xt0 s).1)=Ga (expectedOf qv0):=by
 intro w;unfold oE oS openEnds fencedOpening topFrom;rw[Fast.te14364793385576792824,Fast.te14082659384304107361,Fast.te10274390034422433532,Fast.te4187177175401517315]
 kernel_rfl
set_option maxHeartbeats 0 in
theorem Qm:∀ w:World,(oE nz w).map (λs=>((oS nz qv0 xt0 s).2.1,(oS nz qv0 xt0 s).2.2.2.2.2.2.2.1))=Ga (bltViewBooted,wideGood qv0):=by
 intro w;unfold oE oS openEnds fencedOpening topFrom;rw[Fast.te14364793385576792824,Fast.te14082659384304107361,Fast.te10274390034422433532,Fast.te4187177175401517315]
 kernel_rfl
set_option maxHeartbeats 0 in
theorem PY:∀ w:World,(oE nz w).map (λs=>(oS nz qv0 xt0 s).2.2.1)=Ga true:=by
 intro w;unfold oE oS openEnds fencedOpening topFrom;rw[Fast.te14364793385576792824,Fast.te14082659384304107361,Fast.te10274390034422433532,Fast.te4187177175401517315]
 kernel_rfl
set_option maxHeartbeats 0 in
theorem PX:∀ w:World,(oE nz w).map (λs=>(oS nz qv0 xt0 s).2.2.2.2.2.1)=Ga (plainGoodE qv0 (looseW qv0 [])):=by
 intro w;unfold oE oS openEnds fencedOpening topFrom;rw[Fast.te14364793385576792824,Fast.te14082659384304107361,Fast.te10274390034422433532,Fast.te4187177175401517315]
 kernel_rfl
set_option maxHeartbeats 0 in
theorem Qb:∀ w:World,(oE nz w).map (λs=>((oS nz qv0 xt0 s).2.2.2.1,(oS nz qv0 xt0 s).2.2.2.2.1,(oS nz qv0 xt0 s).2.2.2.2.2.2.1,(oS nz qv0 xt0 s).2.2.2.2.2.2.2.2))=Ga (true,pinGoodD (drecsOf qv0),plainGoodD qv0 [],clsGoodW qv0 []):=by
 intro w;unfold oE oS openEnds fencedOpening topFrom;rw[Fast.te14364793385576792824,Fast.te14082659384304107361,Fast.te10274390034422433532,Fast.te4187177175401517315]
 kernel_rfl
set_option maxHeartbeats 0 in
theorem Qe:∀ w:World,(oE nz w).map (Hook.obs (ud Law.KK Law.KA Law.zk7 [331]))=Ga (Hook.val (ud Law.KK Law.KA Law.zk7 [331]) w):=by
 intro w;unfold oE openEnds fencedOpening topFrom;rw[Fast.te14364793385576792824,Fast.te14082659384304107361,Fast.te10274390034422433532]
 kernel_rfl
theorem lf0:LeftO nz qv0 [] xt0 (Hook.obs (ud Law.KK Law.KA Law.zk7 [331])) (Hook.val (ud Law.KK Law.KA Law.zk7 [331])) 9000:=zBU PP Qm PY PX Qb Qe
set_option maxHeartbeats 0 in
theorem ws0:PySem.Challenge.rw_roundfall_k63_whole_open_is_one_class.wellSaid=true:=by
 rw[Fast.te9446332074065402090]
 kernel_rfl
end
end Law
noncomputable section
namespace L2
open PySem PySem.Spec PyProof.Rows
abbrev gZ:=Sum Int Str
def CT:gZ->Gg->Bool
 | .inl k,v=>qT k v
 | .inr x,v=>Value.isStrOf x v
def PF (w:World):gZ->Int
 | .inl k=>hashInt k
 | .inr x=>hashStr w x
theorem iu:∀ {k:gZ} {v:Gg},CT k v=true->(∃ i t,k=Sum.inl i/\v=v8 i t)\/(∃ x t,k=Sum.inr x/\v=Value.str x t)
 | .inl i,v,h=>by
  obtain⟨t,e⟩:=Value.isInt_shape (k:=i) (v:=v) h;exact .inl ⟨i,t,rfl,e⟩
 | .inr x,v,h=>by
  obtain⟨t,e⟩:=Value.isStrOf_shape (x:=x) (v:=v) h;exact .inr ⟨x,t,rfl,e⟩
theorem Io (a b:Int):decide ((Sum.inl a:gZ)=Sum.inl b)=(a==b):=by
 by_cases e:a=b
 .subst e;simp
 .have h:¬(Sum.inl a:gZ)=Sum.inl b:=λq=>e (Sum.inl.inj q);rw[Gd h];exact(beq_eq_false_iff_ne.mpr e).symm
theorem DS (a b:Str):decide ((Sum.inr a:gZ)=Sum.inr b)=decide (a=b):=by
 by_cases e:a=b
 .subst e;simp
 .have h:¬(Sum.inr a:gZ)=Sum.inr b:=λq=>e (Sum.inr.inj q);rw[Gd h,Gd e]
theorem HE (a:Int)(b:Str):decide ((Sum.inl a:gZ)=Sum.inr b)=false:=Gd (λq=>nomatch q)
theorem GQ (a:Str)(b:Int):decide ((Sum.inr a:gZ)=Sum.inl b)=false:=Gd (λq=>nomatch q)
def wm (prog:Program)(w:World):PySem.KeyKind prog w gZ where
 is:=CT
 hash:=PF w
 inj:=λv a b ha hb=>by
  rcases iu ha with ⟨i,t,rfl,rfl⟩|⟨x,t,rfl,rfl⟩
  .rcases iu hb with ⟨j,u,rfl,e⟩|⟨y,u,rfl,e⟩
   .injection e with e1 _;rw[e1]
   .exact nomatch e
  .rcases iu hb with ⟨j,u,rfl,e⟩|⟨y,u,rfl,e⟩
   .exact nomatch e
   .injection e with e1 _;rw[e1]
 byValue:=λk v h=>by
  rcases iu h with ⟨i,t,rfl,rfl⟩|⟨x,t,rfl,rfl⟩<;>rfl
 pyHash:=λhv h=>by
  rcases iu hv with ⟨i,t,rfl,rfl⟩|⟨x,t,rfl,rfl⟩
  .exact wpAny_pyHash_int h
  .exact wpAny_pyHash_str h
 eqBool:=λhu hv h=>by
  rcases iu hu with ⟨i,t,rfl,rfl⟩|⟨x,t,rfl,rfl⟩
  .rcases iu hv with ⟨j,u,rfl,rfl⟩|⟨y,u,rfl,rfl⟩
   .rw[Io] at h;exact wpAny_eqBool_int h
   .rw[HE] at h;exact SeqAt.EqAt.int_str i t y u _ _ _ _ h
  .rcases iu hv with ⟨j,u,rfl,rfl⟩|⟨y,u,rfl,rfl⟩
   .rw[GQ] at h;exact SeqAt.EqAt.str_int x t j u _ _ _ _ h
   .rw[DS] at h;exact wpAny_eqBool_str h
 «strs»:=λk x t v h=>by
  rcases iu h with ⟨i,u,rfl,e⟩|⟨y,u,rfl,e⟩
  .exact nomatch e
  .injection e with e1 _
   subst e1;cases v<;>rfl
inductive V where
 | non|bl (b:Bool)|int (i:Int)|str (x:Str)|byt (b:Array UInt8)|flt (b:UInt64)|ref (a:Gj)|ty (n:String)
 deriving DecidableEq
def fC:V->Gg->Prop
 | .non,u=>u=kf
 | .bl b,u=>u=uM b
 | .int i,u=>∃ t,u=v8 i t
 | .str x,u=>∃ t,u=Value.str x t
 | .byt b,u=>∃ t,u=Value.bytes b t
 | .flt b,u=>∃ t,u=Value.float b t
 | .ref a,u=>u=kD a
 | .ty n,u=>u=uZ n
abbrev fw:List V->List Gg->Prop:=Paired fC
theorem fw.length {xs:List V}{us:List Gg}(r:fw xs us):xs.length=us.length:=Paired.length r
theorem fw.get:∀ {xs:List V} {us:List Gg} {i:Nat} {x:V},fw xs us->xs[i]?=Ga x->∃ u,us[i]?=Ga u/\fC x u
 | _,_,_,_,.nil,e=>by simp at e
 | _,_,0,_,.cons r _,e=>by simp at e;subst e;exact⟨_,rfl,r⟩
 | _,_,i+1,x,.cons _ t,e=>by
  obtain⟨u,h1,h2⟩:=fw.get (i:=i) (x:=x) t (by simpa using e);exact⟨u,by simpa using h1,h2⟩
theorem fw.set {x:V}{u:Gg}(r:fC x u):∀ {xs:List V} {us:List Gg} (i:Nat),fw xs us->fw (xs.set i x) (us.set i u)
 | _,_,_,.nil=>.nil
 | _,_,0,.cons _ t=>.cons r t
 | _,_,i+1,.cons q t=>.cons q (fw.set r i t)
theorem fw.append:∀ {xs ys:List V} {us ws:List Gg},fw xs us->fw ys ws->fw (xs++ys) (us++ws)
 | _,_,_,_,.nil,s=>s
 | _,_,_,_,.cons r t,s=>.cons r (fw.append t s)
theorem fw.take:∀ {xs:List V} {us:List Gg} (n:Nat),fw xs us->fw (xs.take n) (us.take n)
 | _,_,0,_=>.nil
 | _,_,_+1,.nil=>.nil
 | _,_,n+1,.cons r t=>.cons r (fw.take n t)
theorem fw.drop:∀ {xs:List V} {us:List Gg} (n:Nat),fw xs us->fw (xs.drop n) (us.drop n)
 | _,_,0,r=>r
 | _,_,_+1,.nil=>.nil
 | _,_,n+1,.cons _ t=>fw.drop n t
theorem fw.none_of:∀ {xs:List V} {us:List Gg} {i:Nat},fw xs us->xs[i]?=Gb->us[i]?=Gb:=λ{xs us i} r e=>by
 have h1:=r.length;have h2:xs.length<=i:=u9.mp e;exact u9.mpr (by omega)
def rq:Option V->Option Gg->Prop
 | some v,Ga u=>fC v u
 | none,Gb=>True
 | _,_=>False
def KV {κ:Type}:List (κ×V)->List (κ×Gg)->Prop:=Paired λ(p:κ×V) (q:κ×Gg)=>p.1=q.1/\fC p.2 q.2
def kV:gZ->V
 | .inl i=>.int i
 | .inr x=>.str x
inductive HO where
 | lst (xs:List V)
 | tup (xs:List V)
 | dK (kvs:List (gZ×V))|dT (kvs:List (List gZ×V))
 | set (S:Int->Bool) (n:Nat)
 | ins (C dx:Gj) (fs:List (Str×V))
 | own (x:Gj)
 | xd (fs:List (Str×V))
 | met (f x:Gj)
 | rng (lo hi:Int)
 | frz (o:Obj) (u:HO)
 | tbl (ps:Array Gg)
 | ext (φ:Heap->Prop)
abbrev Hp:=Gj->Option HO
def upd (H:Hp)(a:Gj)(o:HO):Hp:=λb=>if b=a then Ga o else H b
theorem eZ {H:Hp}{a:Gj}{o:HO}:upd H a o a=Ga o:=by unfold upd;rw[Ge rfl]
theorem eQ {H:Hp}{a b:Gj}{o:HO}(h:b≠a):upd H a o b=H b:=by unfold upd;rw[Gf h]
theorem gQ {H:Hp}{a b:Gj}{o:HO}(h:H a=Ga o)(h':H b=Gb):a≠b:=by
 intro e;subst e;rw[h] at h';cases h'
section
variable (P:Program)(w:World)
def hZ (H:Hp)(h:Heap)(a:Gj):HO->Prop
 | .lst xs=>xs.length<=sizeLine/\∃ (its:List Gg) (n:Nat),fw xs its/\h.get? a=Ga { cls:=.type "list",data:=.seq its.toArray n }
 | .tup xs=>xs.length<=sizeLine/\∃ its:List Gg,fw xs its/\IsTup h a its.toArray
 | .dK kvs=>kvs.length<=sizeLine/\(a==sysModules)=false/\∃ vs,KV kvs vs/\h.DictOf (wm P w) a vs
 | .dT kvs=>kvs.length<=sizeLine/\(a==sysModules)=false/\∃ xs:List (List gZ×Gj×Gg),
   Paired (λ(p:List gZ×V) (q:List gZ×Gj×Gg)=>p.1=q.1/\H q.2.1=Ga (.tup (p.1.map kV))/\fC p.2 q.2.2) kvs xs /\
   ∃ o es ep,h.get? a=Ga o/\o.ExactDict/\o.data=.dict es ep/\es.toList=xs.map (entryOfKey (tupleKind (wm P w)))/\(xs.map (·.1)).Nodup
 | .set S n=>h.SetOf (intKind P w) a S n
 | .ins C dx fs=>H dx=Ga (.own a)/\fs.length<=1000/\dx≠a/\h.get? a=Ga (qI C dx) /\
   ∃ mA,h.Ns1 dx mA/\(∀ f,rq (fs.lookup f) (mA f))/\PySem.Within mA (fs.map (·.1))
 | .own _=>∃ o,h.get? a=Ga o
 | .xd fs=>∃ mA,h.Ns1 a mA/\∀ f,rq (fs.lookup f) (mA f)
 | .rng lo hi=>∃ t u v,h.get? a=Ga { cls:=.type "range",data:=.fields #[.int lo t,.int hi u,.int 1 v] }
 | .frz o u=>h.get? a=Ga o/\hZ H h a u
 | .tbl ps=>h.get? a=Ga { cls:=.none,data:=.fields ps }
 | .met f x=>h.get? a=Ga (qh (.ref f) (.ref x))
 | .ext φ=>φ h/\(∃ o,h.get? a=Ga o)/\∀ h1 h2:Heap,φ h1->(∀ o,h1.get? a=Ga o->h2.get? a=Ga o)->φ h2
def HOk (H:Hp)(h:Heap):Prop:=∀ a o,H a=Ga o->hZ P w H h a o
end
section
variable {P:Program}{w:World}{H H':Hp}{h h':Heap}{a:Gj}{o:HO}
theorem hZ.lt (x:hZ P w H h a o):a<h.objs.size:=by
 cases o with
 | lst xs=>obtain⟨_,_,_,_,e⟩:=x;exact ju e
 | tup xs=>obtain⟨_,_,_,p⟩:=x;exact p.lt
 | dK kvs=>obtain⟨_,_,_,_,o,_,_,e,_⟩:=x;exact ju e
 | dT kvs=>obtain⟨_,_,_,_,o,_,_,e,_⟩:=x;exact ju e
 | set S n=>obtain⟨o,_,_,_,e,_⟩:=x;exact ju e
 | ins C dx fs=>obtain⟨_,_,_,e,_⟩:=x;exact ju e
 | own y=>obtain⟨_,e⟩:=x;exact ju e
 | xd fs=>obtain⟨_,⟨_,_,_,e,_⟩,_⟩:=x;exact ju e
 | rng lo hi=>obtain⟨_,_,_,e⟩:=x;exact ju e
 | frz ob u=>obtain⟨e,_⟩:=x;exact ju e
 | tbl ps=>exact ju (show h.get? a=Ga _ from x)
 | met f y=>exact ju (show h.get? a=Ga _ from x)
 | ext φ=>obtain⟨_,⟨_,e⟩,_⟩:=x;exact ju e
theorem Paired.mapP {α β:Type}{F G:α->β->Prop}:∀ {l₁:List α} {l₂:List β},Paired F l₁ l₂->(∀ a b,F a b->G a b)->Paired G l₁ l₂
 | _,_,.nil,_=>.nil
 | _,_,.cons r t,f=>.cons (f _ _ r) (Paired.mapP t f)
theorem hZ.stay (x:hZ P w H h a o)(k:∀ b u,(b=a\/H b=Ga (.own a))->h.get? b=Ga u->h'.get? b=Ga u)
  (ho:∀ b,H b=Ga (.own a)->H' b=Ga (.own a)) (ht:∀ b xs,H b=Ga (.tup xs)->H' b=Ga (.tup xs)):hZ P w H' h' a o:=by
 induction o with
 | lst xs=>obtain⟨z,its,n,r,e⟩:=x;exact⟨z,its,n,r,k _ _ (.inl rfl) e⟩
 | tup xs=>obtain⟨z,its,r,ob,e,c⟩:=x;exact⟨z,its,r,ob,k _ _ (.inl rfl) e,c⟩
 | dK kvs=>obtain⟨z,y,vs,r,ob,es,ep,e,c⟩:=x;exact⟨z,y,vs,r,ob,es,ep,k _ _ (.inl rfl) e,c⟩
 | dT kvs =>
  obtain⟨z,y,xs,r,ob,es,ep,e,c⟩:=x;exact⟨z,y,xs,Paired.mapP r λp q z=>⟨z.1,ht _ _ z.2.1,z.2.2⟩,ob,es,ep,k _ _ (.inl rfl) e,c⟩
 | set S n=>obtain⟨ob,es,ep,t,e,c⟩:=x;exact⟨ob,es,ep,t,k _ _ (.inl rfl) e,c⟩
 | ins C dx fs =>
  obtain⟨d,z,ne,e,mA,⟨od,es,ep,e2,c⟩,r⟩:=x;exact⟨ho _ d,z,ne,k _ _ (.inl rfl) e,mA,⟨od,es,ep,k _ _ (.inr d) e2,c⟩,r⟩
 | own y=>obtain⟨ob,e⟩:=x;exact⟨ob,k _ _ (.inl rfl) e⟩
 | xd fs=>obtain⟨mA,⟨od,es,ep,e,c⟩,r⟩:=x;exact⟨mA,⟨od,es,ep,k _ _ (.inl rfl) e,c⟩,r⟩
 | rng lo hi=>obtain⟨t,u,v,e⟩:=x;exact⟨t,u,v,k _ _ (.inl rfl) e⟩
 | frz ob u ih=>obtain⟨e,q⟩:=x;exact⟨k _ _ (.inl rfl) e,ih q⟩
 | tbl ps =>
  have e:h.get? a=Ga { cls:=.none,data:=.fields ps }:=x;show h'.get? a=Ga { cls:=.none,data:=.fields ps };exact k a _ (.inl rfl) e
 | met f y =>
  have e:h.get? a=Ga (qh (.ref f) (.ref y)):=x;show h'.get? a=Ga (qh (.ref f) (.ref y));exact k a _ (.inl rfl) e
 | ext φ=>obtain⟨p,⟨o,e⟩,st⟩:=x;exact⟨st _ _ p λo q=>k _ _ (.inl rfl) q,⟨o,k _ _ (.inl rfl) e⟩,st⟩
theorem HOk.lt (x:HOk P w H h)(e:H a=Ga o):a<h.objs.size:=(x a o e).lt
theorem HOk.fresh (x:HOk P w H h)(e:h.objs.size<=a):H a=Gb:=by
 cases q:H a with
 | none=>rfl
 | some u=>exact absurd (jz (x.lt q) e) (ko _)
theorem HOk.kept (x:HOk P w H h)(k:∀ b u,h.get? b=Ga u->h'.get? b=Ga u):HOk P w H h':=λa o e =>
 (x a o e).stay (λb u _ q=>k b u q) (λ_ q=>q) λ_ _ q=>q
theorem HOk.laid (x:HOk P w H h)(k:∀ b u,h.get? b=Ga u->h'.get? b=Ga u)(hp:h.objs.size<=a)(new:hZ P w (upd H a o) h' a o):HOk P w (upd H a o) h':=λb u e=>by
 have hn:=x.fresh hp;by_cases hb:b=a
 .subst hb;rw[eZ] at e;cases e;exact new
 .rw[eQ hb] at e;exact(x b u e).stay (λc v _ q=>k c v q) (λc q=>by rw[eQ (gQ q hn)];exact q) λc xs q=>by rw[eQ (gQ q hn)];exact q
end
def Rd (H:Hp)(a:Gj)(u:HO):Prop:=H a=Ga u\/∃ o,H a=Ga (.frz o u)
theorem Rd.of {H:Hp}{a:Gj}{u:HO}(h:H a=Ga u):Rd H a u:=.inl h
theorem Rd.ok {P:Program}{w:World}{H:Hp}{h:Heap}{a:Gj}{u:HO}(r:Rd H a u)(x:HOk P w H h):hZ P w H h a u:=by
 rcases r with r|⟨o,r⟩
 .exact x a u r
 .obtain⟨_,q⟩:=x a _ r;exact q
def Ax:Option HO->Prop
 | some (.lst _)=>True
 | some (.dK _)=>True
 | some (.dT _)=>True
 | some (.set _ _)=>True
 | some (.ins _ _ _)=>True
 | some (.ext _)=>True
 | _=>False
section
variable {P:Program}{w:World}{H:Hp}{h h':Heap}{x e:Gj}{o':HO}
theorem HOk.write (ok:HOk P w H h)(mu:Ax (H x))(he:e=x\/H e=Ga (.own x))(k:∀ b u,b≠e->h.get? b=Ga u->h'.get? b=Ga u)(heo:∃ u,h'.get? e=Ga u)
  (new:hZ P w (upd H x o') h' x o'):HOk P w (upd H x o') h':=λb u q=>by
 have nown:∀ c y,H c=Ga (.own y)->c≠x:=λc y r z=>by subst z;rw[r] at mu;exact mu
 have ntup:∀ c xs,H c=Ga (.tup xs)->c≠x:=λc xs r z=>by subst z;rw[r] at mu;exact mu
 by_cases hb:b=x
 .subst hb;rw[eZ] at q;cases q;exact new
 .rw[eQ hb] at q;by_cases hbe:b=e
  .have q':H b=Ga (.own x):=by
    rcases he with z|z
    .exact absurd (hbe.trans z) hb
    .rw[hbe];exact z
   rw[q] at q';cases q';obtain⟨v,hv⟩:=heo;exact⟨v,by rw[hbe];exact hv⟩
  .refine(ok b u q).stay (λc v hc r=>k c v ?_ r) (λc r=>by rw[eQ (nown c b r)];exact r) λc xs r=>by rw[eQ (ntup c xs r)];exact r
   rcases hc with rfl|hc
   .exact hbe
   .rintro rfl;rcases he with z|z
    .exact nown c b hc z
    .rw[hc] at z;cases z;exact hb rfl
end
structure Un (fs ex:List Gj)(H H':Hp)(h h':Heap):Prop where
 keep:∀ b o,h.get? b=Ga o->H b=Gb->b∉fs->b∉ex->h'.get? b=Ga o
 slot:∀ b o,h.get? b=Ga o->H b=Gb->b∈fs->b∉ex->∃ sl,h'.get? b=Ga { o with slots:=sl }
 free:∀ b o,h.get? b=Ga o->H b=Gb->b∉ex->H' b=Gb
 there:∀ b o,h.get? b=Ga o->b∉ex->∃ o',h'.get? b=Ga o'
 tups:∀ b xs,H b=Ga (.tup xs)->H' b=Ga (.tup xs)
 frzs:∀ b o u,H b=Ga (.frz o u)->H' b=Ga (.frz o u)
 tbls:∀ b ps,H b=Ga (.tbl ps)->∃ more,H' b=Ga (.tbl (ps++more))
section
variable {fs fs' ex ex':List Gj}{H H1 H2:Hp}{h h1 h2 h':Heap}{a x e:Gj}{o:HO}
theorem Un.any (u:Un fs ex H H1 h h1){b:Gj}{ob:Obj}(q:h.get? b=Ga ob)(n:H b=Gb)(hx:b∉ex):∃ sl,h1.get? b=Ga { ob with slots:=sl }:=by
 by_cases hb:b∈fs
 .exact u.slot b ob q n hb hx
 .exact⟨ob.slots,u.keep b ob q n hb hx⟩
theorem Un.trans (a:Un fs ex H H1 h h1)(b:Un fs ex H1 H2 h1 h2):Un fs ex H H2 h h2 where
 keep:=λc ob q n hc hx=>b.keep c ob (a.keep c ob q n hc hx) (a.free c ob q n hx) hc hx
 slot:=λc ob q n hc hx=>by
  obtain⟨sl,e1⟩:=a.slot c ob q n hc hx;obtain⟨sl',e2⟩:=b.slot c _ e1 (a.free c ob q n hx) hc hx;exact⟨sl',e2⟩
 free:=λc ob q n hx=>by
  obtain⟨o',e1⟩:=a.there c ob q hx;exact b.free c o' e1 (a.free c ob q n hx) hx
 there:=λc ob q hx=>by
  obtain⟨o',e1⟩:=a.there c ob q hx;exact b.there c o' e1 hx
 tups:=λc xs q=>b.tups c xs (a.tups c xs q)
 frzs:=λc ob xs q=>b.frzs c ob xs (a.frzs c ob xs q)
 tbls:=λc ps q=>by
  obtain⟨m1,e1⟩:=a.tbls c ps q;obtain⟨m2,e2⟩:=b.tbls c _ e1;exact⟨m1++m2,by rw[e2,Jm]⟩
theorem Un.kept (k:∀ b u,h.get? b=Ga u->h'.get? b=Ga u):Un fs ex H H h h' :=
 ⟨λb ob q _ _ _=>k b ob q,λb ob q _ _ _=>⟨ob.slots,k b ob q⟩,λ_ _ _ n _=>n,λb ob q _=>⟨ob,k b ob q⟩,λ_ _ q=>q,λ_ _ _ q=>q,λ_ ps q=>⟨#[],by rw[q];simp⟩⟩
theorem Un.refl:Un fs ex H H h h:=Un.kept λ_ _ q=>q
theorem Un.laid (k:∀ b u,h.get? b=Ga u->h'.get? b=Ga u)(hp:h.objs.size<=a)(hn:H a=Gb):Un fs ex H (upd H a o) h h' where
 keep:=λb u q _ _ _=>k b u q
 slot:=λb u q _ _ _=>⟨u.slots,k b u q⟩
 free:=λb u q n _=>by rw[eQ (jG (jz (ju q) hp))];exact n
 there:=λb u q _=>⟨u,k b u q⟩
 tups:=λb xs q=>by rw[eQ (gQ q hn)];exact q
 frzs:=λb u xs q=>by rw[eQ (gQ q hn)];exact q
 tbls:=λb ps q=>⟨#[],by rw[eQ (gQ q hn),q];simp⟩
theorem Un.write (mu:Ax (H x))(he:e=x\/H e=Ga (.own x))(k:∀ b u,b≠e->h.get? b=Ga u->h'.get? b=Ga u)(heo:∃ u,h'.get? e=Ga u):Un fs ex H (upd H x o) h h':=by
 have hx:∀ b,H b=Gb->b≠x:=λb n z=>by subst z;rw[n] at mu;exact mu
 have hb:∀ b,H b=Gb->b≠e:=λb n z=>by
  subst z;rcases he with r|r
  .exact hx b n r
  .rw[n] at r;cases r
 have hm:∀ b u,H b=Ga u->¬Ax (Ga u)->b≠x:=λb u q nm z=>by subst z;rw[q] at mu;exact nm mu
 refine⟨λb u q n _ _=>k b u (hb b n) q,λb u q n _ _=>⟨u.slots,k b u (hb b n) q⟩,λb u q n _=>by rw[eQ (hx b n)];exact n,λb u q _=>?_,
  λb xs q=>by rw[eQ (hm b _ q λz=>z)];exact q,λb u xs q=>by rw[eQ (hm b _ q λz=>z)];exact q,λb ps q=>⟨#[],by rw[eQ (hm b _ q λz=>z),q];simp⟩⟩
 by_cases hbe:b=e
 .subst hbe;exact heo
 .exact⟨u,k b u hbe q⟩
theorem Un.mono (u:Un fs ex H H1 h h1)(hs:∀ b∈fs,b∈fs')(hx:∀ b∈ex,b∈ex'):Un fs' ex' H H1 h h1 :=
 ⟨λb ob q n hb he=>u.keep b ob q n (λz=>hb (hs b z)) λz=>he (hx b z),λ_ _ q n _ he=>u.any q n λz=>he (hx _ z),λb ob q n he=>u.free b ob q n λz=>he (hx b z),λb ob q he=>u.there b ob q λz=>he (hx b z),u.tups,u.frzs,u.tbls⟩
end
def CK (h:Heap)(H:Hp):List Gj:=(jb h.objs.size).filter λa=>(H a).isSome
def mR (h:Heap)(H:Hp):Heap:=PySem.W.hideAll h (CK h H)
theorem wO (h:Heap)(H:Hp):(mR h H).objs.size=h.objs.size:=PySem.W.hideAll_size _ _
theorem yb {h:Heap}{H:Hp}{b:Gj}{o:Obj}(e:h.get? b=Ga o)(n:H b=Gb):(mR h H).get? b=Ga o :=
 PySem.W.hideAll_get _ e λhm=>by
  have q:(H b).isSome=true:=(jA.mp hm).2;rw[n] at q;simp at q
theorem yL {h:Heap}{H:Hp}{b:Gj}{o:Obj}(e:(mR h H).get? b=Ga o):h.get? b=Ga o/\H b=Gb:=by
 have e':h.get? b=Ga o:=PySem.W.of_hideAll (CK h H) e;refine⟨e',?_⟩;cases q:H b with
 | none=>rfl
 | some x =>
  have hm:b∈CK h H:=jA.mpr ⟨jm.mpr (ju e'),by simp[q]⟩;have z:(mR h H).get? b=Gb:=PySem.W.hideAll_none (CK h H) hm;rw[z] at e;cases e
def DF (g h:Heap)(L:Gj):List (Gj×Obj):=(jb h.objs.size).filterMap λa=>if a=L\/(g.get? a).isSome=true then Gb else(h.get? a).map λo=>(a,o)
def rest (g h:Heap)(L d:Gj):List (Gj×Obj):=(DF g h L).filter λp=>decide (p.1≠d)
structure Mod (K:ja)(mg:Str->Option Gg)(base:Heap):Prop where
 kin:K.In base
 glob:base.Ns mainGlobals mg
 blt:∃ mb,base.Ns builtinsNs mb/\∀ x:Str,x≠"__name__"->mb x=bootBuiltins x
 nolimit:base.NoLimit
structure Cx where
 prog:Program
 w:World
 K:ja
 mg:Str->Option Gg
 base:Heap
 A:Around
 N:List Str
 s₀:Gh
 H₀:Hp
 env:Env
 outer:List Env
 stack:List Env
 ex:List Gj
 fn:Str->Bool
 calm:Bool
 pn:List (Gj×Obj)
 xe:Gg->Gh->Prop
def mL (l:List Env):List Gj:=l.filterMap (·.frame)
abbrev Cx.fs (X:Cx):List Gj:=mL X.outer
def mq (sc:Scope)(x:Str):Prop:=sc.names.lookup x=Ga .local\/sc.names.lookup x=Ga .cell\/sc.names.lookup x=Ga .free
def oZ (sc:Scope)(x:Str):Prop:=sc.names.lookup x=Ga .local\/sc.names.lookup x=Ga .cell
def Qj (ψ:Env)(h:Heap)(m:Str->Option Gg)(x:Str)(u:Gg):Prop :=
 (ψ.kindOf x=Ga .local/\m x=Ga u)\/((ψ.kindOf x=Ga .cell\/ψ.kindOf x=Ga .free)/\∃ c,ψ.cells.lookup x=Ga c/\h.IsCell c (Ga u))
structure Cx.Ok (X:Cx):Prop where
 mod:Mod X.K X.mg X.base
 kind:X.env.scope.kind=.function
 glob:X.env.globals=mainGlobals
 blt:X.env.builtins=builtinsNs
 above:X.s₀.heap.objs.size<=X.env.locals
 inj:∀ x y c,X.env.cells.lookup x=Ga c->X.env.cells.lookup y=Ga c->x=y
 has:∀ x,(X.env.kindOf x=Ga .cell\/X.env.kindOf x=Ga .free)->∃ c,X.env.cells.lookup x=Ga c
 cab:∀ x c,X.fn x=true->X.env.cells.lookup x=Ga c->X.s₀.heap.objs.size<=c
 hd:X.calm=true->X.A.handled=Gb
 frames:X.A.frames=Ga X.stack
 stk:X.stack=X.outer\/(X.stack=X.env::X.outer/\X.env.frame=Ga X.env.locals)
 exf:∀ b∈X.ex,b≠X.env.locals/\∀ x c,X.env.cells.lookup x=Ga c->c≠b
 bs:∀ b o,X.base.get? b=Ga o->X.s₀.heap.get? b=Ga o/\X.H₀ b=Gb
 bsz:X.base.objs.size<=X.s₀.heap.objs.size
 noex:∀ b o,X.base.get? b=Ga o->b∉X.ex
 exfs:∀ b∈X.ex,b∉X.fs
 funs:X.s₀.heap.FunFrames X.base X.outer
 frf:∀ b∈X.fs,X.H₀ b=Gb
structure eS (X:Cx)(ω:List (Gj×Obj))(σ:List (Option V))(H:Hp)(s:Gh):Prop where
 ok:X.Ok
 os:s.os=X.s₀.os
 bare:AllBare s.gens
 base:Un X.fs X.ex X.H₀ H X.s₀.heap s.heap
 loc:∃ m,s.heap.Ns X.env.locals m/\∀ (i:Nat) (x:Str) (v:V),X.N[i]?=Ga x->σ[i]?=Ga (Ga v)->mq X.env.scope x->∃ u,fC v u/\Qj X.env s.heap m x u
 cell:∀ x c,X.env.cells.lookup x=Ga c->∃ v,s.heap.IsCell c v
 free:H X.env.locals=Gb
 freeC:∀ x c,X.env.cells.lookup x=Ga c->H c=Gb
 pin:∀ p∈X.pn++ω,s.heap.get? p.1=Ga p.2/\H p.1=Gb/\p.1≠X.env.locals/\p.1∉X.fs/\∀ v,p.2.data≠.cell v
 hok:HOk X.prog X.w H s.heap
 len:σ.length=X.N.length
section
variable {X:Cx}{ω:List (Gj×Obj)}{σ:List (Option V)}{H H':Hp}{s:Gh}{h':Heap}
theorem Cx.Ok.nofr (ok:X.Ok){b:Gj}{o:Obj}(e:X.base.get? b=Ga o):b∉X.fs:=λhb=>by
 have:=(ok.funs.mem hb).1;rw[e] at this;cases this
theorem eS.bs (I:eS X ω σ H s):∀ b o,X.base.get? b=Ga o->s.heap.get? b=Ga o/\H b=Gb:=λb o e =>
 ⟨I.base.keep b o (I.ok.bs b o e).1 (I.ok.bs b o e).2 (I.ok.nofr e) (I.ok.noex b o e),I.base.free b o (I.ok.bs b o e).1 (I.ok.bs b o e).2 (I.ok.noex b o e)⟩
theorem eS.bk (I:eS X ω σ H s):∀ b o,X.base.get? b=Ga o->s.heap.get? b=Ga o:=λb o e=>(I.bs b o e).1
theorem eS.mod (I:eS X ω σ H s):Mod X.K X.mg X.base:=I.ok.mod
theorem eS.kIn (I:eS X ω σ H s):X.K.In s.heap:=I.ok.mod.kin.keeps I.bk
theorem eS.nolimit (I:eS X ω σ H s):s.heap.NoLimit:=I.ok.mod.nolimit.keeps I.bk
theorem eS.fr (I:eS X ω σ H s):∃ m,Fr X.base X.env.locals s.heap m :=
 let ⟨m,hn,_⟩:=I.loc
 ⟨m,hn,I.bk,j6 I.ok.bsz I.ok.above⟩
theorem eS.lt (I:eS X ω σ H s):X.env.locals<s.heap.objs.size:=let ⟨_,hn,_⟩:=I.loc;hn.lt
theorem eS.sz (I:eS X ω σ H s):X.s₀.heap.objs.size<=s.heap.objs.size:=j6 I.ok.above (uN I.lt)
theorem eS.nofs (I:eS X ω σ H s){a:Gj}(h:s.heap.objs.size<=a):a∉X.fs:=λhb=>by
 obtain⟨_,o,ho,_⟩:=I.ok.funs.mem hb;exact absurd (jz (ju ho) (j6 I.sz h)) (ko _)
theorem eS.cne (I:eS X ω σ H s):∀ x c,X.env.cells.lookup x=Ga c->c≠X.env.locals:=λx c e z=>by
 obtain⟨v,o,ho,hd⟩:=I.cell x c e;obtain⟨m,⟨o',es,ep,ho',hd',_⟩,_⟩:=I.loc;rw[z,ho'] at ho;cases ho;rw[hd'] at hd;cases hd
theorem eS.funs (I:eS X ω σ H s):s.heap.FunFrames X.base X.outer:=by
 have all:∀ (l:List Env),(∀ b∈mL l,b∈X.fs)->X.s₀.heap.FunFrames X.base l->s.heap.FunFrames X.base l:=by
  intro l;induction l with
  | nil=>intro _ _;trivial
  | cons ψ r ih =>
   intro hs hl;obtain⟨hk,⟨L,o,hf,hn,ho,hd⟩,hr⟩:=hl;have hL:L∈X.fs:=hs L (by unfold mL;rw[v6,hf];exact jf);obtain⟨sl,e⟩:=I.base.slot L o ho (I.ok.frf L hL) hL λz=>I.ok.exfs L z hL;exact⟨hk,⟨L,_,hf,hn,e,hd⟩,ih (λb hb=>hs b (by unfold mL;rw[v6,hf];exact jj _ hb)) hr⟩
 exact all X.outer (λ_ hb=>hb) I.ok.funs
theorem eS.stack (I:eS X ω σ H s):s.heap.FunFrames X.base X.stack:=by
 rcases I.ok.stk with e|⟨e,hf⟩
 .rw[e];exact I.funs
 .rw[e];obtain⟨m,hn,_⟩:=I.loc;refine .cons (by rw[I.ok.kind];decide) hf hn ?_ I.funs;exact Heap.get?_none_of_le (j6 I.ok.bsz I.ok.above)
theorem eS.stkSub (I:eS X ω σ H s):∀ b∈mL X.stack,b∈X.env.locals::X.fs:=λb hb=>by
 rcases I.ok.stk with e|⟨e,hf⟩
 .rw[e] at hb;exact jj _ hb
 .rw[e] at hb;unfold mL at hb;rw[v6,hf] at hb;exact hb
theorem eS.stkFree (I:eS X ω σ H s):∀ b∈mL X.stack,H b=Gb:=λb hb=>by
 rcases jx.mp (I.stkSub b hb) with e|hb
 .rw[e];exact I.free
 .obtain⟨_,o,ho,_⟩:=I.ok.funs.mem hb;exact I.base.free b o ho (I.ok.frf b hb) λz=>I.ok.exfs b z hb
theorem eS.step {g':Array GenState}{t':Nat}{d':Drawn}{ch:List Gj}(I:eS X ω σ H s)
  (hch:∀ b∈ch,(b∈X.ex\/X.s₀.heap.objs.size<=b)/\b≠X.env.locals/\(∀ x c,X.env.cells.lookup x=Ga c->c≠b)/\∀ p∈X.pn++ω,p.1≠b)
  (keep:∀ b o,b≠X.env.locals->b∉X.fs->b∉ch->s.heap.get? b=Ga o->H b=Gb->h'.get? b=Ga o)
  (slot:∀ b o,b≠X.env.locals->b∈X.fs->b∉ch->s.heap.get? b=Ga o->H b=Gb->∃ sl,h'.get? b=Ga { o with slots:=sl }) (free:∀ b o,b∉ch->s.heap.get? b=Ga o->H b=Gb->H' b=Gb)
  (there:∀ b o,b∉ch->s.heap.get? b=Ga o->∃ o',h'.get? b=Ga o')
  (tups:∀ b xs,H b=Ga (.tup xs)->H' b=Ga (.tup xs)) (frzs:∀ b o u,H b=Ga (.frz o u)->H' b=Ga (.frz o u)) (tbls:∀ b ps,H b=Ga (.tbl ps)->∃ more,H' b=Ga (.tbl (ps++more)))
  (ns:∀ m,s.heap.Ns X.env.locals m->h'.Ns X.env.locals m) (hok:HOk X.prog X.w H' h') (hg:AllBare g') :
  eS X ω σ H' { s with heap:=h',gens:=g',drawn:=d',toks:=t' }:=by
 have neL:∀ b o,X.s₀.heap.get? b=Ga o->b≠X.env.locals:=λb o e=>jG (jz (ju e) I.ok.above);have neC:∀ b o,X.s₀.heap.get? b=Ga o->b∉X.ex->b∉ch:=λb o e hx hb=>by
  rcases(hch b hb).1 with z|z
  .exact hx z
  .exact absurd (jz (ju e) z) (ko _)
 have cellK:∀ x c,X.env.cells.lookup x=Ga c->∀ v,s.heap.IsCell c v->h'.IsCell c v:=λx c e v ⟨o,ho,hd⟩=>by
  have nch:c∉ch:=λz=>(hch c z).2.2.1 x c e rfl;by_cases hc:c∈X.fs
  .obtain⟨sl,q⟩:=slot c o (I.cne x c e) hc nch ho (I.freeC x c e);exact⟨_,q,hd⟩
  .exact⟨o,keep c o (I.cne x c e) hc nch ho (I.freeC x c e),hd⟩
 refine⟨I.ok,I.os,hg,⟨λb o e n hb hx=>?_,λb o e n hb hx=>?_,λb o e n hx=>?_,λb o e hx=>?_,λb xs e=>tups b xs (I.base.tups b xs e),λb o xs e=>frzs b o xs (I.base.frzs b o xs e),λb ps e=>?_⟩,?_,λx c e=>?_,?_,λx c e=>?_,λp hp=>?_,hok,I.len⟩
 .exact keep b o (neL b o e) hb (neC b o e hx) (I.base.keep b o e n hb hx) (I.base.free b o e n hx)
 .obtain⟨sl,e1⟩:=I.base.slot b o e n hb hx;obtain⟨sl',e2⟩:=slot b _ (neL b o e) hb (neC b o e hx) e1 (I.base.free b o e n hx);exact⟨sl',e2⟩
 .obtain⟨o',e1⟩:=I.base.there b o e hx;exact free b o' (neC b o e hx) e1 (I.base.free b o e n hx)
 .obtain⟨o',e1⟩:=I.base.there b o e hx;exact there b o' (neC b o e hx) e1
 .obtain⟨m1,e1⟩:=I.base.tbls b ps e;obtain⟨m2,e2⟩:=tbls b _ e1;exact⟨m1++m2,by rw[e2,Jm]⟩
 .obtain⟨m,hn,hl⟩:=I.loc;refine⟨m,ns m hn,λi x v e1 e2 e3=>?_⟩;obtain⟨u,r,l⟩:=hl i x v e1 e2 e3;refine⟨u,r,?_⟩;rcases l with l|⟨k,c,e,z⟩
  .exact .inl l
  .exact .inr ⟨k,c,e,cellK x c e _ z⟩
 .obtain⟨v,z⟩:=I.cell x c e;exact⟨v,cellK x c e v z⟩
 .obtain⟨m,⟨o,_,_,ho,_⟩,_⟩:=I.loc;exact free _ o (λz=>(hch _ z).2.1 rfl) ho I.free
 .obtain⟨v,o,ho,hd⟩:=I.cell x c e;exact free c o (λz=>(hch c z).2.2.1 x c e rfl) ho (I.freeC x c e)
 .obtain⟨e,n,ne,nf,d⟩:=I.pin p hp;have nch:p.1∉ch:=λz=>(hch p.1 z).2.2.2 p hp rfl;exact⟨keep p.1 p.2 ne nf nch e n,free p.1 p.2 nch e n,ne,nf,d⟩
theorem eS.un {t':Nat}(I:eS X ω σ H s)(u:Un X.fs [] H H' s.heap h')(hok:HOk X.prog X.w H' h'):eS X ω σ H' { s with heap:=h',toks:=t' }:=by
 obtain⟨m,⟨o,es,ep,ho,r⟩,_⟩:=id I.loc;obtain⟨sl,hL⟩:=u.any ho I.free (by simp);exact I.step (g':=s.gens) (d':=s.drawn) (ch:=[]) (λ_ z=>nomatch z) (λb o _ hb _ e n=>u.keep b o e n hb (by simp)) (λb o _ hb _ e n=>u.slot b o e n hb (by simp)) (λb o _ e n=>u.free b o e n (by simp)) (λb o _ e=>u.there b o e (by simp)) u.tups u.frzs u.tbls (λm' hm=>by
  obtain⟨o',es',ep',ho',r'⟩:=hm;rw[ho] at ho';cases ho';exact⟨_,es',ep',hL,r'⟩) hok I.bare
theorem eS.call {g':Array GenState}{t':Nat}{d':Drawn}{ch:List Gj}(I:eS X ω σ H s)(u:Un (mL X.stack) ch H H' s.heap h')(hok:HOk X.prog X.w H' h')(hg:AllBare g')
  (hch:∀ b∈ch,(b∈X.ex\/X.s₀.heap.objs.size<=b)/\b≠X.env.locals/\(∀ x c,X.env.cells.lookup x=Ga c->c≠b)/\∀ p∈X.pn++ω,p.1≠b) :
  eS X ω σ H' { s with heap:=h',gens:=g',drawn:=d',toks:=t' }:=by
 obtain⟨m,⟨o,es,ep,ho,r⟩,_⟩:=id I.loc;obtain⟨sl,hL⟩:=u.any ho I.free λz=>(hch _ z).2.1 rfl;exact I.step (ch:=ch) hch (λb o hL hb hc e n=>u.keep b o e n (λz=>(jx.mp (I.stkSub b z)).elim hL hb) hc) (λb o _ _ hc e n=>u.any e n hc) (λb o hc e n=>u.free b o e n hc) (λb o hc e=>u.there b o e hc) u.tups u.frzs u.tbls (λm' hm=>by
  obtain⟨o',es',ep',ho',r'⟩:=hm;rw[ho] at ho';cases ho';exact⟨_,es',ep',hL,r'⟩) hok hg
theorem eS.turned {t':Nat}{it:Gj}(I:eS X ω σ H s)(k:∀ b o,b≠it->s.heap.get? b=Ga o->h'.get? b=Ga o)(hn:H it=Gb)(hL:it≠X.env.locals)
  (h1:it∈X.ex\/X.s₀.heap.objs.size<=it) (h2:∀ x c,X.env.cells.lookup x=Ga c->c≠it) (h3:∀ p∈X.pn++ω,p.1≠it):eS X ω σ H { s with heap:=h',toks:=t' }:=by
 have nit:∀ b u,H b=Ga u->b≠it:=λb u e z=>by rw[z,hn] at e;cases e
 refine I.step (g':=s.gens) (d':=s.drawn) (ch:=[it]) (λb hb=>?_) (λb o _ _ hc e _=>k b o (λz=>hc (by simp[z])) e) (λb o _ _ hc e _=>⟨o.slots,k b o (λz=>hc (by simp[z])) e⟩) (λ_ _ _ _ n=>n)
  (λb o hc e=>⟨o,k b o (λz=>hc (by simp[z])) e⟩) (λ_ _ e=>e) (λ_ _ _ e=>e) (λb ps e=>⟨#[],by rw[e];simp⟩) (λm hm=>?_) (λb u e=>?_) I.bare
 .have e:b=it:=by simpa using hb
  subst e;exact⟨h1,hL,h2,h3⟩
 .obtain⟨o,es,ep,ho,r⟩:=hm;exact⟨o,es,ep,k _ o (kT hL) ho,r⟩
 .refine(I.hok b u e).stay (λc v hc q=>k c v ?_ q) (λ_ q=>q) λ_ _ q=>q;rcases hc with z|z
  .rw[z];exact nit b u e
  .exact nit c _ z
theorem eS.tok (I:eS X ω σ H s)(t:Nat):eS X ω σ H { s with toks:=t }:=I.un (h':=s.heap) (t':=t) Un.refl I.hok
theorem eS.kept {t':Nat}(I:eS X ω σ H s)(k:∀ b u,s.heap.get? b=Ga u->h'.get? b=Ga u):eS X ω σ H { s with heap:=h',toks:=t' }:=I.un (Un.kept k) (I.hok.kept k)
theorem eS.laid {a:Gj}{o:HO}{t':Nat}(I:eS X ω σ H s)(k:∀ b u,s.heap.get? b=Ga u->h'.get? b=Ga u)(hp:s.heap.objs.size<=a)(new:hZ X.prog X.w (upd H a o) h' a o) :
  eS X ω σ (upd H a o) { s with heap:=h',toks:=t' }:=I.un (Un.laid k hp (I.hok.fresh hp)) (I.hok.laid k hp new)
theorem eS.write {x e:Gj}{o:HO}{t':Nat}(I:eS X ω σ H s)(mu:Ax (H x))(he:e=x\/H e=Ga (.own x))(k:∀ b u,b≠e->s.heap.get? b=Ga u->h'.get? b=Ga u)(heo:∃ u,h'.get? e=Ga u)
  (new:hZ X.prog X.w (upd H x o) h' x o):eS X ω σ (upd H x o) { s with heap:=h',toks:=t' }:=I.un (Un.write mu he k heo) (I.hok.write mu he k heo new)
theorem eS.pins_of {pins':List (Gj×Obj)}(I:eS X ω σ H s)(h:∀ p∈pins',s.heap.get? p.1=Ga p.2/\H p.1=Gb/\p.1≠X.env.locals/\p.1∉X.fs/\∀ v,p.2.data≠.cell v):eS X pins' σ H s :=
 ⟨I.ok,I.os,I.bare,I.base,I.loc,I.cell,I.free,I.freeC,λp hp=>(kc.mp hp).elim (λz=>I.pin p (uC _ z)) (h p),I.hok,I.len⟩
theorem xQ {N:List Str}(hN:N.Nodup){i j:Nat}{x:Str}(a:N[i]?=Ga x)(b:N[j]?=Ga x):i=j:=by
 obtain⟨h1,e1⟩:=ji.mp a;obtain⟨h2,e2⟩:=ji.mp b;exact(JB hN).mp (e1.trans e2.symm)
theorem wq {M:Model}{A:Around}{E:Gg->Gh->Prop}{i:Nat}{x:Str}{v:V}{u:Gg}{Q:Unit->Gh->Prop}(I:eS X ω σ H s)(hN:X.N.Nodup)(hi:X.N[i]?=Ga x)(hx:oZ X.env.scope x)(r:fC v u)
  (h:∀ s',eS X ω (σ.set i (Ga v)) H s'->(∃ a,uO a s.heap s'.heap/\(a=X.env.locals\/X.env.cells.lookup x=Ga a))->Q () s') (hf:X.fn x=true\/X.env.scope.names.lookup x=Ga .local:=by first|exact .inl rfl|exact .inr rfl|assumption):wpAny M A (storeName X.env x u) Q E s:=by
 obtain⟨m,hn,hl⟩:=id I.loc;have hcls:(X.env.scope.kind==.class||(X.env.scope.kind==.module&&X.env.locals !=X.env.globals))=false:=by rw[I.ok.kind];rfl
 have hiσ:i<σ.length:=by rw[I.len];exact(ji.mp hi).1
 have cne:=I.cne;have tracked:∀ {a:Gj} {h':Heap},(∃ o,s.heap.get? a=Ga o/\H a=Gb)->uO a s.heap h'->HOk X.prog X.w H h':=λ{a h'} ha hs b ob e=>by
  obtain⟨_,_,hfree⟩:=ha;refine(I.hok b ob e).stay (λc w' hc q=>(hs.2 c ?_).trans q) (λ_ q=>q) λ_ _ q=>q;rintro rfl;rcases hc with rfl|hc
  .rw[hfree] at e;cases e
  .rw[hfree] at hc;cases hc
 rcases hx with hk|hk
 .refine wpAny_storeName_local hk hn (λh' hn' hs=>?_) hcls;obtain⟨oL,_,_,hoL,_⟩:=id hn;refine h _ ⟨I.ok,I.os,I.bare,⟨λb o e n hb hx=>?_,λb o e n hb hx=>?_,I.base.free,λb o e hx=>?_,I.base.tups,I.base.frzs,I.base.tbls⟩,⟨_,hn',λj y v' e1 e2 e3=>?_⟩,λy c e=>?_,I.free,I.freeC,λp hp=>?_,tracked ⟨oL,hoL,I.free⟩ hs,by simpa using I.len⟩ ⟨_,hs,.inl rfl⟩
  .exact(hs.2 b (jG (jz (ju e) I.ok.above))).trans (I.base.keep b o e n hb hx)
  .obtain⟨sl,e1⟩:=I.base.slot b o e n hb hx;exact⟨sl,(hs.2 b (jG (jz (ju e) I.ok.above))).trans e1⟩
  .obtain⟨o',e1⟩:=I.base.there b o e hx;exact⟨o',(hs.2 b (jG (jz (ju e) I.ok.above))).trans e1⟩
  .by_cases hj:j=i
   .subst hj;rw[hi] at e1;cases e1;rw[jN hiσ] at e2;cases e2;exact⟨u,r,.inl ⟨hk,by simp⟩⟩
   .rw[jI (kT hj)] at e2;obtain⟨u',r',q⟩:=hl j y v' e1 e2 e3;refine⟨u',r',?_⟩;rcases q with ⟨k,e⟩|⟨k,c,e,z⟩
    .refine .inl ⟨k,?_⟩;have:y≠x:=λe=>hj (xQ hN e1 (e▸hi));simp[this,e]
    .exact .inr ⟨k,c,e,z.sameBut hs (cne y c e)⟩
  .obtain⟨w',z⟩:=I.cell y c e;exact⟨w',z.sameBut hs (cne y c e)⟩
  .obtain⟨e,n,ne,nf,d⟩:=I.pin p hp;exact⟨(hs.2 p.1 ne).trans e,n,ne,nf,d⟩
 .have hfn:X.fn x=true:=by
   rcases hf with z|z
   .exact z
   .rw[z] at hk;cases hk
  obtain⟨c,hc⟩:=I.ok.has x (.inl hk);obtain⟨w',z⟩:=I.cell x c hc;refine wpAny_storeName_cell I.ok.kind hk hc z (λh' hc' hs=>?_);obtain⟨oc,hoc,hocd⟩:=id z;refine h { s with heap:=h' } ⟨I.ok,I.os,I.bare,⟨λb o e n hb hx=>?_,λb o e n hb hx=>?_,I.base.free,λb o e hx=>?_,I.base.tups,I.base.frzs,I.base.tbls⟩,⟨m,hn.sameBut hs (kT (cne x c hc)),λj y v' e1 e2 e3=>?_⟩,λy c' e=>?_,I.free,I.freeC,λp hp=>?_,tracked ⟨oc,hoc,I.freeC x c hc⟩ hs,by simpa using I.len⟩ ⟨c,hs,.inr hc⟩
  .exact(hs.2 b (jG (jz (ju e) (I.ok.cab x c hfn hc)))).trans (I.base.keep b o e n hb hx)
  .obtain⟨sl,e1⟩:=I.base.slot b o e n hb hx;exact⟨sl,(hs.2 b (jG (jz (ju e) (I.ok.cab x c hfn hc)))).trans e1⟩
  .obtain⟨o',e1⟩:=I.base.there b o e hx;exact⟨o',(hs.2 b (jG (jz (ju e) (I.ok.cab x c hfn hc)))).trans e1⟩
  .by_cases hj:j=i
   .subst hj;rw[hi] at e1;cases e1;rw[jN hiσ] at e2;cases e2;exact⟨u,r,.inr ⟨.inl hk,c,hc,hc'⟩⟩
   .rw[jI (kT hj)] at e2;obtain⟨u',r',q⟩:=hl j y v' e1 e2 e3;refine⟨u',r',?_⟩;rcases q with q|⟨k,c',e,z'⟩
    .exact .inl q
    .refine .inr ⟨k,c',e,z'.sameBut hs ?_⟩;rintro rfl;exact hj (xQ hN e1 (I.ok.inj _ _ _ e hc▸hi))
  .by_cases hcc:c'=c
   .subst hcc;exact⟨_,hc'⟩
   .obtain⟨w2,z2⟩:=I.cell y c' e;exact⟨w2,z2.sameBut hs hcc⟩
  .obtain⟨e,n,ne,nf,d⟩:=I.pin p hp;refine⟨(hs.2 p.1 ?_).trans e,n,ne,nf,d⟩;intro q;rw[q,hoc] at e;have q':oc=p.2:=jy e;exact d w' (by rw[<- q'];exact hocd)
theorem xO {M:Model}{A:Around}{E:Gg->Gh->Prop}{i:Nat}{x:Str}{v:V}{u:Gg}{Q:Unit->Gh->Prop}(I:eS X ω σ H s)(hN:X.N.Nodup)(hi:X.N[i]?=Ga x)(hx:oZ X.env.scope x)(r:fC v u)
  (h:∀ s',eS X ω (σ.set i (Ga v)) H s'->Q () s') (hf:X.fn x=true\/X.env.scope.names.lookup x=Ga .local:=by first|exact .inl rfl|exact .inr rfl|assumption):wpAny M A (storeName X.env x u) Q E s :=
 wq I hN hi hx r (λs' I' _=>h s' I') hf
theorem eS.call' {s':Gh}{ch:List Gj}(I:eS X ω σ H s)(ho:s'.os=s.os)(u:Un (mL X.stack) ch H H' s.heap s'.heap)(hok:HOk X.prog X.w H' s'.heap)(hg:AllBare s'.gens)
  (hch:∀ b∈ch,(b∈X.ex\/X.s₀.heap.objs.size<=b)/\b≠X.env.locals/\(∀ x c,X.env.cells.lookup x=Ga c->c≠b)/\∀ p∈X.pn++ω,p.1≠b):eS X ω σ H' s':=by
 obtain⟨h',g',d',t',o'⟩:=s';have e:o'=s.os:=ho;subst e;exact I.call (g':=g') (t':=t') (d':=d') u hok hg hch
end
abbrev XK:=Gg->Option Gj->Hp->Prop
abbrev St:=List (Option V)
abbrev VK:=V->Hp->Prop
abbrev TE:=St->Hp->VK->Prop
abbrev TT:=St->Hp->(Bool->Hp->Prop)->Prop
abbrev TA:=St->Hp->(List V->Hp->Prop)->Prop
structure sn where
 nx:St->Hp->Prop
 rt:VK
 bk:St->Hp->Prop:=λ_ _=>False
 ct:St->Hp->Prop:=λ_ _=>False
abbrev TS:=sn->St->Hp->Prop
def EP (X:Cx)(ω:List (Gj×Obj))(σ:St)(Q:VK)(u:Gg)(s':Gh):Prop:=∃ v H',eS X ω σ H' s'/\fC v u/\Q v H'
def TP (X:Cx)(ω:List (Gj×Obj))(σ:St)(Q:Bool->Hp->Prop)(b:Bool)(s':Gh):Prop:=∃ H',eS X ω σ H' s'/\Q b H'
def AP (X:Cx)(ω:List (Gj×Obj))(σ:St)(Q:List V->Hp->Prop)(us:List Gg)(s':Gh):Prop:=∃ vs H',eS X ω σ H' s'/\fw vs us/\Q vs H'
def SP (X:Cx)(ω:List (Gj×Obj))(D:sn)(f:Flow)(s':Gh):Prop :=
 match f with
 | .next=>∃ σ' H',eS X ω σ' H' s'/\D.nx σ' H'
 | .brk=>∃ σ' H',eS X ω σ' H' s'/\D.bk σ' H'
 | .cont=>∃ σ' H',eS X ω σ' H' s'/\D.ct σ' H'
 | .ret u=>∃ v σ' H',eS X ω σ' H' s'/\fC v u/\D.rt v H'
def PE (X:Cx)(e:Expr)(t:TE):Prop :=
 ∀ (ω:List (Gj×Obj)) (s:Gh) (σ:St) (H:Hp) (Q:VK),eS X ω σ H s->t σ H Q->wpAny (model X.prog X.w) X.A (eval e X.env) (EP X ω σ Q) X.xe s
def PT (X:Cx)(e:Expr)(t:TT):Prop :=
 ∀ (ω:List (Gj×Obj)) (s:Gh) (σ:St) (H:Hp) (Q:Bool->Hp->Prop),eS X ω σ H s->t σ H Q->wpAny (model X.prog X.w) X.A (isTrue e X.env (eval e X.env)) (TP X ω σ Q) X.xe s
def PW (X:Cx)(e:Expr)(t:TT):Prop :=
 ∀ (whole:Sem Gg) (ω:List (Gj×Obj)) (s:Gh) (σ:St) (H:Hp) (Q:Bool->Hp->Prop),eS X ω σ H s->t σ H Q->wpAny (model X.prog X.w) X.A (isTrue e X.env whole) (TP X ω σ Q) X.xe s
theorem PW.pt {X:Cx}{e:Expr}{t:TT}(h:PW X e t):PT X e t:=h _
def PA (X:Cx)(es:List Expr)(t:TA):Prop :=
 ∀ (pos:Pos) (ω:List (Gj×Obj)) (s:Gh) (σ:St) (H:Hp) (Q:List V->Hp->Prop),eS X ω σ H s->t σ H Q->wpAny (model X.prog X.w) X.A (spliced (backTo pos (starEach es X.env))) (AP X ω σ Q) X.xe s
def PS (X:Cx)(st:Stmt)(t:TS):Prop :=
 ∀ (ω:List (Gj×Obj)) (s:Gh) (σ:St) (H:Hp) (D:sn),eS X ω σ H s->t D σ H->wpAny (model X.prog X.w) X.A (exec st X.env) (SP X ω D) X.xe s
def nQ (X:Cx)(st:List Stmt)(t:TS):Prop :=
 ∀ (ω:List (Gj×Obj)) (s:Gh) (σ:St) (H:Hp) (D:sn),eS X ω σ H s->t D σ H->wpAny (model X.prog X.w) X.A (execs st X.env) (SP X ω D) X.xe s
theorem fW {α:Type}{t:Sem α}{Q Q':α->Gh->Prop}{M:Model}{A:Around}{E:Gg->Gh->Prop}{s:Gh}(h:wpAny M A t Q E s)(hQ:∀ a s,Q a s->Q' a s):wpAny M A t Q' E s:=wpAny_mono h hQ λ_ _ x=>x
section
variable {X:Cx}
theorem fu {a b:Expr}{ta tb:TE}(ha:PE X a ta)(hb:PE X b tb){ω:List (Gj×Obj)}{s:Gh}{σ:St}{H:Hp}{R:V->V->Hp->Prop}(I:eS X ω σ H s)(h:ta σ H λx H1=>tb σ H1 λy H2=>R x y H2)
  {α:Type} {Q:α->Gh->Prop} {f:Gg->Gg->Sem α}
  (hf:∀ v u s2 x y H2,eS X ω σ H2 s2->fC x v->fC y u->R x y H2->wpAny (model X.prog X.w) X.A (f v u) Q X.xe s2) :
  wpAny (model X.prog X.w) X.A (eval a X.env) (λv s₁=>wpAny (model X.prog X.w) X.A (eval b X.env) (λu s₂=>wpAny (model X.prog X.w) X.A (f v u) Q X.xe s₂) X.xe s₁) X.xe s:=by
 refine fW (ha ω s σ H _ I h) λv s1 ⟨x,H1,I1,r1,q1⟩=>?_;refine fW (hb ω s1 σ H1 _ I1 q1) λu s2 ⟨y,H2,I2,r2,q2⟩=>?_;exact hf v u s2 x y H2 I2 r1 r2 q2
def Qo (i:Nat):TE:=λσ H Q=>∃ v,σ[i]?=Ga (Ga v)/\Q v H
def tC (v:V):TE:=λ_ H Q=>Q v H
theorem iJ {i:Nat}{x:Str}{pos:Pos}(hN:X.N[i]?=Ga x)(hv:mq X.env.scope x)(hd:(x==("__debug__":Str))=false:=by decide)(hcd:(x==("__classdict__":Str))=false:=by decide):PE X (.Name x pos) (Qo i):=by
 intro ω s σ H Q I h;obtain⟨v,e,h⟩:=h;obtain⟨m,hn,hl⟩:=I.loc;obtain⟨u,r,l⟩:=hl i x v hN e hv;have fin:EP X ω σ Q u s:=⟨v,H,I,r,h⟩;rcases l with ⟨hk,hm⟩|⟨hk,c,hc,hcell⟩
 .exact wpAny_Name (wpAny_loadName_local I.ok.kind hk hn hm fin) hd
 .rcases hk with hk|hk
  .exact wpAny_Name (wpAny_loadName_cell I.ok.kind hk hc hcell fin) hd
  .exact wpAny_Name (wpAny_loadName_free I.ok.kind hk hc hcell fin hcd) hd
theorem Gv {i j pos}:PE X (.Constant (.int i) j pos) (tC (.int i)):=λ_ _ _ H _ I h=>wpAny_Constant_int ⟨.int i,H,I.tok _,⟨_,rfl⟩,h⟩
theorem Ci {b j pos}:PE X (.Constant (.bool b) j pos) (tC (.bl b)):=λ_ _ _ H _ I h=>Constant_bool ⟨.bl b,H,I,rfl,h⟩
theorem Iy {j pos}:PE X (.Constant .none j pos) (tC .non):=λ_ _ _ H _ I h=>Constant_none ⟨.non,H,I,rfl,h⟩
def Gl (X:Cx)(x:Str):Prop:=X.env.kindOf x=Ga .globalImplicit
theorem wn {E:Gg->Gh->Prop}{ω:List (Gj×Obj)}{s:Gh}{σ:St}{H:Hp}{x:Str}{u:Gg}{pos:Pos}{Q:Gg->Gh->Prop}(I:eS X ω σ H s)(hg:Gl X x)(hm:X.mg x=Ga u)(h:Q u s)
  (hd:(x==("__debug__":Str))=false:=by decide):wpAny (model X.prog X.w) X.A (eval (.Name x pos) X.env) Q E s :=
 v9 I.ok.kind hg (Calls.loadGlobal_global (by rw[I.ok.glob];exact I.mod.glob.keeps I.bk) hm h) hd
theorem nG {E:Gg->Gh->Prop}{ω:List (Gj×Obj)}{s:Gh}{σ:St}{H:Hp}{x:Str}{u:Gg}{pos:Pos}{Q:Gg->Gh->Prop}(I:eS X ω σ H s)(hg:Gl X x)(hm:X.mg x=Gb)(hv:bootBuiltins x=Ga u)(h:Q u s)
  (hn:x≠"__name__":=by decide) (hd:(x==("__debug__":Str))=false:=by decide):wpAny (model X.prog X.w) X.A (eval (.Name x pos) X.env) Q E s:=by
 obtain⟨mb,h1,h2⟩:=I.mod.blt;exact v9 I.ok.kind hg (Calls.loadGlobal_builtin (by rw[I.ok.glob];exact I.mod.glob.keeps I.bk) hm (by rw[I.ok.blt];exact h1.keeps I.bk) ((h2 x hn).trans hv) h) hd
theorem DE {x:Str}{v:V}{u:Gg}{pos:Pos}(hg:Gl X x)(hm:X.mg x=Ga u)(r:fC v u)(hd:(x==("__debug__":Str))=false:=by decide):PE X (.Name x pos) (tC v) :=
 λ_ _ _ H _ I h=>wn I hg hm ⟨v,H,I,r,h⟩ hd
variable {a b:Expr}{ta tb:TE}{pos:Pos}
variable {tA tB':TT}{rest:List Expr}
def Qg (t u:TT):TT:=λσ H Q=>t σ H λc H1=>if c=true then u σ H1 Q else Q false H1
def UG (t u:TT):TT:=λσ H Q=>t σ H λc H1=>if c=true then Q true H1 else u σ H1 Q
def Qc (t:TT):TT:=λσ H Q=>t σ H λc H1=>Q (!c) H1
theorem Dy (ha:PT X a tA):PW X (.BoolOp .And [a] pos) tA:=by
 intro wh ω s σ H Q I h;refine isTrue_and (fW (ha ω s σ H Q I h) λc s1 e=>?_);cases c with
 | true=>exact isTrue_and_nil e
 | false=>exact e
theorem Fe (ha:PT X a tA):PW X (.BoolOp .Or [a] pos) tA:=by
 intro wh ω s σ H Q I h;refine isTrue_or (fW (ha ω s σ H Q I h) λc s1 e=>?_);cases c with
 | false=>exact isTrue_or_nil e
 | true=>exact e
theorem EE (ha:PT X a tA)(hb:PW X (.BoolOp .And (b::rest) pos) tB'):PW X (.BoolOp .And (a::b::rest) pos) (Qg tA tB'):=by
 intro wh ω s σ H Q I h;refine isTrue_and (fW (ha ω s σ H _ I h) λc s1 ⟨H1,I1,q1⟩=>?_);cases c with
 | true=>exact hb wh ω s1 σ H1 Q I1 q1
 | false=>exact⟨H1,I1,q1⟩
theorem Kg (ha:PT X a tA)(hb:PW X (.BoolOp .Or (b::rest) pos) tB'):PW X (.BoolOp .Or (a::b::rest) pos) (UG tA tB'):=by
 intro wh ω s σ H Q I h;refine isTrue_or (fW (ha ω s σ H _ I h) λc s1 ⟨H1,I1,q1⟩=>?_);cases c with
 | true=>exact⟨H1,I1,q1⟩
 | false=>exact hb wh ω s1 σ H1 Q I1 q1
theorem EN (ha:PT X a tA):PT X (.UnaryOp .Not a pos) (Qc tA):=by
 intro ω s σ H Q I h;exact isTrue_not (ha ω s σ H (λc H1=>Q (!c) H1) I h)
def Ki (ta tb:TE):TE:=λσ H Q=>ta σ H λx H1=>∃ c,x=.bl c/\if c=true then tb σ H1 Q else Q (.bl false) H1
def PK (ta tb:TE):TE:=λσ H Q=>ta σ H λx H1=>∃ c,x=.bl c/\if c=true then Q (.bl true) H1 else tb σ H1 Q
def JX (ta:TE):TE:=λσ H Q=>ta σ H λx H1=>∃ c,x=.bl c/\Q (.bl (!c)) H1
theorem Iu {op}{t:TE}(h:PE X a t):PE X (.BoolOp op [a] pos) t:=λω s σ H Q I hw=>BoolOp_one (h ω s σ H Q I hw)
theorem Iv (ha:PE X a ta)(hb:PE X (.BoolOp .And (b::rest) pos) tb):PE X (.BoolOp .And (a::b::rest) pos) (Ki ta tb):=by
 intro ω s σ H Q I h;refine BoolOp_and (fW (ha ω s σ H _ I h) λv s1 ⟨x,H1,I1,r1,q1⟩=>?_);obtain⟨c,rfl,q1⟩:=q1;cases r1;refine wpAny_truthy_bool ?_;cases c with
 | true=>exact hb ω s1 σ H1 Q I1 q1
 | false=>exact⟨.bl false,H1,I1,rfl,q1⟩
theorem Ku (ha:PE X a ta)(hb:PE X (.BoolOp .Or (b::rest) pos) tb):PE X (.BoolOp .Or (a::b::rest) pos) (PK ta tb):=by
 intro ω s σ H Q I h;refine BoolOp_or (fW (ha ω s σ H _ I h) λv s1 ⟨x,H1,I1,r1,q1⟩=>?_);obtain⟨c,rfl,q1⟩:=q1;cases r1;refine wpAny_truthy_bool ?_;cases c with
 | false=>exact hb ω s1 σ H1 Q I1 q1
 | true=>exact⟨.bl true,H1,I1,rfl,q1⟩
theorem IE (ha:PE X a ta):PE X (.UnaryOp .Not a pos) (JX ta):=by
 intro ω s σ H Q I h;refine UnaryOp_ (fW (ha ω s σ H _ I h) λv s1 ⟨x,H1,I1,r1,q1⟩=>?_);obtain⟨c,rfl,q1⟩:=q1;cases r1;exact not_of (wpAny_truthy_bool ⟨.bl (!c),H1,I1,rfl,q1⟩)
def Zv (t:TT)(ta tb:TE):TE:=λσ H Q=>t σ H λc H1=>if c=true then ta σ H1 Q else tb σ H1 Q
theorem BP {c:Expr}(hc:PT X c tA)(ha:PE X a ta)(hb:PE X b tb):PE X (.IfExp c a b pos) (Zv tA ta tb):=by
 intro ω s σ H Q I h;refine wpAny_IfExp (fW (hc ω s σ H _ I h) λd s1 ⟨H1,I1,q1⟩=>?_);cases d with
 | true=>exact ha ω s1 σ H1 Q I1 q1
 | false=>exact hb ω s1 σ H1 Q I1 q1
end
def gp (K:ja)(H:Hp)(a:Gj)(xs:List V):Prop :=
 Rd H a (.lst xs) \/
  ∃ (o:Obj) (its:Array Gg) (n:Nat),K.lookup a=Ga o/\o.cls=.type "list"/\o.dict=Gb/\o.data=.seq its n/\its.size<=sizeLine/\fw xs its.toList
def iQ (K:ja)(H:Hp)(a:Gj)(xs:List V):Prop :=
 Rd H a (.tup xs) \/
  ∃ (o:Obj) (its:Array Gg) (n:Nat),K.lookup a=Ga o/\o.cls=.type "tuple"/\o.data=.seq its n/\its.size<=sizeLine/\fw xs its.toList
def Qs:Gg->Option V
 | .none=>Ga .non
 | .bool b=>Ga (.bl b)
 | .int i _=>Ga (.int i)
 | .str x _=>Ga (.str x)
 | .bytes b _=>Ga (.byt b)
 | .float b _=>Ga (.flt b)
 | .ref a=>Ga (.ref a)
 | .type n=>Ga (.ty n)
 | _=>Gb
theorem fC.abs {x:V}{u:Gg}(r:fC x u):Qs u=Ga x:=by
 cases x with
 | non=>cases r;rfl
 | bl _=>cases r;rfl
 | int _=>obtain⟨t,rfl⟩:=r;rfl
 | str _=>obtain⟨t,rfl⟩:=r;rfl
 | byt _=>obtain⟨t,rfl⟩:=r;rfl
 | flt _=>obtain⟨t,rfl⟩:=r;rfl
 | ref _=>cases r;rfl
 | ty _=>cases r;rfl
theorem fC.inj {x y:V}{u:Gg}(r:fC x u)(q:fC y u):x=y:=jy (r.abs.symm.trans q.abs)
theorem fw.inj:∀ {xs ys:List V} {us:List Gg},fw xs us->fw ys us->xs=ys
 | _,_,_,.nil,.nil=>rfl
 | _,_,_,.cons r t,.cons r' t'=>by rw[r.inj r',fw.inj t t']
section
variable {X:Cx}{ω:List (Gj×Obj)}{σ:St}{H:Hp}{s:Gh}{a:Gj}{xs ys:List V}
theorem gp.of {K:ja}(h:H a=Ga (.lst xs)):gp K H a xs:=.inl (.inl h)
theorem iQ.of {K:ja}(h:H a=Ga (.tup xs)):iQ K H a xs:=.inl (.inl h)
theorem eS.list (I:eS X ω σ H s)(h:gp X.K H a xs):∃ its:List Gg,fw xs its/\PlainL s.heap a its.toArray/\xs.length<=sizeLine:=by
 rcases h with h|⟨o,its,n,hk,hc,hd,hs,hz,r⟩
 .obtain⟨z,its,n,r,e⟩:=h.ok I.hok;exact⟨its,r,⟨_,n,e,rfl,rfl,rfl⟩,z⟩
 .refine⟨its.toList,r,⟨o,n,I.kIn a o hk,hc,hd,by simpa using hs⟩,?_⟩;have e:=r.length;simp only[jQ] at e;omega
theorem eS.tuple (I:eS X ω σ H s)(h:iQ X.K H a xs):∃ its:List Gg,fw xs its/\IsTup s.heap a its.toArray/\xs.length<=sizeLine:=by
 rcases h with h|⟨o,its,n,hk,hc,hs,hz,r⟩
 .obtain⟨z,its,r,p⟩:=h.ok I.hok;exact⟨its,r,p,z⟩
 .refine⟨its.toList,r,⟨o,I.kIn a o hk,hc,n,by simpa using hs⟩,?_⟩;have e:=r.length;simp only[jQ] at e;omega
theorem eS.list_inj (I:eS X ω σ H s)(h:gp X.K H a xs)(h':gp X.K H a ys):xs=ys:=by
 obtain⟨its,r,⟨o,n,e,_,_,d⟩,_⟩:=I.list h;obtain⟨its',r',⟨o',n',e',_,_,d'⟩,_⟩:=I.list h';rw[e] at e';cases e';rw[d] at d'
 injection d' with d1 _
 have:its=its':=by simpa using congrArg Array.toList d1
 subst this;exact r.inj r'
theorem eS.tuple_inj (I:eS X ω σ H s)(h:iQ X.K H a xs)(h':iQ X.K H a ys):xs=ys:=by
 obtain⟨its,r,⟨o,e,_,n,d⟩,_⟩:=I.tuple h;obtain⟨its',r',⟨o',e',_,n',d'⟩,_⟩:=I.tuple h';rw[e] at e';cases e';rw[d] at d'
 injection d' with d1 _
 have:its=its':=by simpa using congrArg Array.toList d1
 subst this;exact r.inj r'
end
abbrev Cx.wish (X:Cx)(E:Gg->Gh->Prop):Cx:={ X with xe:=E }
abbrev Cx.nox (X:Cx):Cx:=X.wish λ_ _=>False
theorem Cx.Ok.wish {X:Cx}(ok:X.Ok)(E:Gg->Gh->Prop):(X.wish E).Ok :=
 ⟨ok.mod,ok.kind,ok.glob,ok.blt,ok.above,ok.inj,ok.has,ok.cab,ok.hd,ok.frames,ok.stk,ok.exf,ok.bs,ok.bsz,ok.noex,ok.exfs,ok.funs,ok.frf⟩
theorem Cx.Ok.unwish {X:Cx}{E:Gg->Gh->Prop}(ok:(X.wish E).Ok):X.Ok :=
 ⟨ok.mod,ok.kind,ok.glob,ok.blt,ok.above,ok.inj,ok.has,ok.cab,ok.hd,ok.frames,ok.stk,ok.exf,ok.bs,ok.bsz,ok.noex,ok.exfs,ok.funs,ok.frf⟩
section
variable {X:Cx}{ω:List (Gj×Obj)}{σ:St}{H:Hp}{s:Gh}{E:Gg->Gh->Prop}
theorem eS.wish (I:eS X ω σ H s)(E:Gg->Gh->Prop):eS (X.wish E) ω σ H s:=⟨I.ok.wish E,I.os,I.bare,I.base,I.loc,I.cell,I.free,I.freeC,I.pin,I.hok,I.len⟩
theorem eS.unwish (I:eS (X.wish E) ω σ H s):eS X ω σ H s:=⟨I.ok.unwish,I.os,I.bare,I.base,I.loc,I.cell,I.free,I.freeC,I.pin,I.hok,I.len⟩
theorem SP.unwish {D:sn}{f:Flow}{s':Gh}(h:SP (X.wish E) ω D f s'):SP X ω D f s':=by
 cases f with
 | next=>obtain⟨σ',H',I,q⟩:=h;exact⟨σ',H',I.unwish,q⟩
 | brk=>obtain⟨σ',H',I,q⟩:=h;exact⟨σ',H',I.unwish,q⟩
 | cont=>obtain⟨σ',H',I,q⟩:=h;exact⟨σ',H',I.unwish,q⟩
 | ret u=>obtain⟨v,σ',H',I,r,q⟩:=h;exact⟨v,σ',H',I.unwish,r,q⟩
theorem PE.nox {e:Expr}{t:TE}(h:PE X.nox e t):PE X e t:=λω s σ H Q I hw =>
 wpAny_mono (h ω s σ H Q (I.wish _) hw) (λ_ _ ⟨v,H',I',r,q⟩=>⟨v,H',I'.unwish,r,q⟩) λ_ _ z=>False.elim z
theorem PT.nox {e:Expr}{t:TT}(h:PT X.nox e t):PT X e t:=λω s σ H Q I hw =>
 wpAny_mono (h ω s σ H Q (I.wish _) hw) (λ_ _ ⟨H',I',q⟩=>⟨H',I'.unwish,q⟩) λ_ _ z=>False.elim z
theorem nQ.nox {st:List Stmt}{t:TS}(h:nQ X.nox st t):nQ X st t:=λω s σ H D I hw =>
 wpAny_mono (h ω s σ H D (I.wish _) hw) (λ_ _ q=>q.unwish) λ_ _ z=>False.elim z
end
section
variable {X:Cx}{st:Stmt}{rest:List Stmt}{t u:TS}{e:Expr}{te:TE}{pos:Pos}
def Ko:TS:=λD σ H=>D.nx σ H
def PR (t u:TS):TS:=λD σ H=>t { D with nx:=u D } σ H
theorem DB:nQ X [] Ko:=λ_ _ σ H _ I h=>wpAny_execs_nil ⟨σ,H,I,h⟩
theorem sD (h1:PS X st t)(h2:nQ X rest u):nQ X (st::rest) (PR t u):=by
 intro ω s σ H D I h;refine wpAny_execs_cons (fW (h1 ω s σ H { D with nx:=u D } I h) λf s1 q=>?_);cases f with
 | next =>
  obtain⟨σ',H',I',q⟩:=q;exact h2 ω s1 σ' H' D I' q
 | ret v=>exact q
 | brk=>exact q
 | cont=>exact q
theorem wl (h1:PS X st t):nQ X [st] t:=by
 intro ω s σ H D I h;refine wpAny_execs_cons (fW (h1 ω s σ H D I h) λf s1 q=>?_);cases f with
 | next=>exact wpAny_execs_nil q
 | ret v=>exact q
 | brk=>exact q
 | cont=>exact q
theorem eS.quiet {ω:List (Gj×Obj)}{σ:St}{H:Hp}{s:Gh}(I:eS X ω σ H s):interactive X.env=false:=by simp[interactive,I.ok.kind]
def Kq (te:TE):TS:=λD σ H=>te σ H λ_ H1=>D.nx σ H1
theorem rN (he:PE X e te)(hs:swapsWith e Gb pos.line X.env=pure false:=by rfl):PS X (.Expr e pos) (Kq te):=by
 intro ω s σ H D I h;exact wpAny_Expr_any (fW (he ω s σ H _ I h) λv s1 ⟨x,H1,I1,r1,q1⟩=>⟨σ,H1,I1,q1⟩) I.quiet hs
def Qy (te:TE):TS:=λD σ H=>te σ H D.rt
theorem rz (he:PE X e te):PS X (.Return (Ga e) pos) (Qy te):=by
 intro ω s σ H D I h;exact wpAny_Return_some (fW (he ω s σ H _ I h) λv s1 ⟨x,H1,I1,r1,q1⟩=>⟨x,σ,H1,I1,r1,q1⟩)
def Qh (c:TT)(t u:TS):TS:=λD σ H=>c σ H λb H1=>if b=true then t D σ H1 else u D σ H1
theorem Km {c:Expr}{a b:List Stmt}{tc:TT}(hc:PT X c tc)(ha:nQ X a t)(hb:nQ X b u):PS X (.If c a b pos) (Qh tc t u):=by
 intro ω s σ H D I h;refine wpAny_If (fW (hc ω s σ H _ I h) λd s1 ⟨H1,I1,q1⟩=>?_);cases d with
 | true=>exact ha ω s1 σ H1 D I1 q1
 | false=>exact hb ω s1 σ H1 D I1 q1
end
abbrev TG:=V->St->Hp->(St->Hp->Prop)->Prop
abbrev tR:=List V->St->Hp->(St->Hp->Prop)->Prop
def PG (X:Cx)(target:Expr)(t:TG):Prop :=
 ∀ (ω:List (Gj×Obj)) (s:Gh) (σ:St) (H:Hp) (v:V) (u:Gg) (Q:St->Hp->Prop),eS X ω σ H s->fC v u->t v σ H Q ->
  wpAny (model X.prog X.w) X.A (assign target X.env u) (λ_ s'=>∃ σ' H',eS X ω σ' H' s'/\Q σ' H') X.xe s
def ye (X:Cx)(ts:List Expr)(t:tR):Prop :=
 ∀ (ω:List (Gj×Obj)) (s:Gh) (σ:St) (H:Hp) (vs:List V) (us:List Gg) (Q:St->Hp->Prop),eS X ω σ H s->fw vs us->t vs σ H Q ->
  wpAny (model X.prog X.w) X.A (assignInOrder ((assignEach ts X.env).map (·.2)) us) (λ_ s'=>∃ σ' H',eS X ω σ' H' s'/\Q σ' H') X.xe s
abbrev zP:=V->V->V->Hp->(Hp->Prop)->Prop
def BH (X:Cx)(t:zP):Prop :=
 ∀ (ω:List (Gj×Obj)) (s:Gh) (σ:St) (H:Hp) (o i v:V) (ov iv u:Gg) (Q:Hp->Prop),eS X ω σ H s->fC o ov->fC i iv->fC v u->t o i v H Q ->
  wpAny (model X.prog X.w) X.A (setItem ov iv u) (λ_ s'=>∃ H',eS X ω σ H' s'/\Q H') X.xe s
section
variable {X:Cx}{pos:Pos}
def Dm (i:Nat):TG:=λv σ H Q=>Q (σ.set i (Ga v)) H
theorem yn {i:Nat}{x:Str}(hN:X.N.Nodup)(hi:X.N[i]?=Ga x)(hx:oZ X.env.scope x)(hf:X.fn x=true\/X.env.scope.names.lookup x=Ga .local:=by first|exact .inl rfl|exact .inr rfl|assumption):PG X (.Name x pos) (Dm i):=by
 intro ω s σ H v u Q I r h;exact wpAny_assign_Name (xO I hN hi hx r (λs' I'=>⟨_,H,I',h⟩) hf)
def Qx:tR:=λvs σ H Q=>vs=[]/\Q σ H
def Kr (t:TG)(u:tR):tR:=λvs σ H Q=>∃ v r,vs=v::r/\t v σ H λσ' H'=>u r σ' H' Q
theorem Du:ye X [] Qx:=by
 intro ω s σ H vs us Q I r h;obtain⟨e,h⟩:=h;subst e;cases r;exact assignInOrder_nil ⟨σ,H,I,h⟩
theorem BC {e:Expr}{es:List Expr}{t:TG}{u:tR}(h1:PG X e t)(h2:ye X es u)
  (hs:(assignEach (e::es) X.env).map (·.2)=assign e X.env::(assignEach es X.env).map (·.2):=by rfl):ye X (e::es) (Kr t u):=by
 intro ω s σ H vs us Q I r h;obtain⟨v,vr,e1,h⟩:=h;subst e1;cases r with
 | cons r rr =>
  rw[hs];refine assignInOrder_cons (fW (h1 ω s σ H _ _ _ I r h) λ_ s1 ⟨σ1,H1,I1,q1⟩=>?_);exact h2 ω s1 σ1 H1 _ _ Q I1 rr q1
def PU (K:ja)(n:Nat)(t:tR):TG:=λv σ H Q=>∃ a xs,v=.ref a/\iQ K H a xs/\xs.length=n/\t xs σ H Q
theorem EY {es:List Expr}{k:Nat}{t:tR}{n:Nat}(hc:X.calm=true)(h:ye X es t)
  (hn:(assignEach es X.env).length=n:=by rfl) (hst:(assignEach es X.env).findIdx? (·.1)=Gb:=by rfl):PG X (.Tuple es k pos) (PU X.K n t):=by
 intro ω s σ H v u Q I r hw;obtain⟨a,xs,e1,hq,hl,hw⟩:=hw;subst e1;cases r;obtain⟨its,rv,ht,hz⟩:=I.tuple hq;refine assign_Tuple_tuple (I.ok.hd hc) ht (by simp[hn,<- hl,rv.length]) hst λh' hx=>?_;have I1:eS X ω σ H { s with heap:=h' }:=I.kept (t':=s.toks) λb o e=>hx b o (jG (ju e)) e;exact h ω _ σ H xs _ Q I1 (by simpa using rv) hw
def Px (to ti:TE)(t:zP):TG:=λv σ H Q=>to σ H λo H1=>ti σ H1 λi H2=>t o i v H2 λH3=>Q σ H3
theorem Bf {o i:Expr}{to ti:TE}{t:zP}(ho:PE X o to)(hi:PE X i ti)(hs:BH X t)
  (ha:∀ v,assign (.Subscript o i pos) X.env v=(do
   let ov <- holding [v] (eval o X.env)
   let iv <- holding [v,ov] (eval i X.env)
   standAt pos
   holding [v,ov,iv] (setItem ov iv v)
   release [v,ov,iv] []):=by intro _;rfl):PG X (.Subscript o i pos) (Px to ti t):=by
 intro ω s σ H v u Q I r h;rw[ha];refine eN (wpAny_holding (fW (ho ω s σ H _ I h) λov s1 ⟨x,H1,I1,r1,q1⟩=>?_));refine eN (wpAny_holding (fW (hi ω s1 σ H1 _ I1 q1) λiv s2 ⟨y,H2,I2,r2,q2⟩=>?_));refine eN (wpAny_standAt (eN (wpAny_holding (fW (hs ω s2 σ H2 x y v ov iv u _ I2 r1 r2 r q2) λ_ s3 ⟨H3,I3,q3⟩=>?_))));exact wpAny_release ⟨σ,H3,I3,q3⟩
def Hh (te:TE)(g:TG):TS:=λD σ H=>te σ H λx H1=>g x σ H1 D.nx
theorem Br {tg e:Expr}{te:TE}{g:TG}(he:PE X e te)(hg:PG X tg g)(hs:swapsWithSole [tg] e pos.line X.env=pure false:=by rfl)(hw:swappedStores [tg] e X.env=pure Gb:=by rfl)
  (h1:(assignEach [tg] X.env).map (·.2)=[assign tg X.env]:=by rfl):PS X (.Assign [tg] e pos) (Hh te g):=by
 intro ω s σ H D I h;refine wpAny_Assign_stores (fW (he ω s σ H _ I h) λv s1 ⟨x,H1,I1,r1,q1⟩=>?_) hs hw;rw[h1];exact fW (hg ω s1 σ H1 x v _ I1 r1 q1) λ_ s2 q=>q
theorem pj {i:Nat}{x:Str}{e:Expr}{te:TE}{pos':Pos}(hN:X.N.Nodup)(hi:X.N[i]?=Ga x)(hx:oZ X.env.scope x)(he:PE X e te)(hs:swapsWith e (Ga (.Name x pos')) pos.line X.env=pure false:=by rfl)(hf:X.fn x=true\/X.env.scope.names.lookup x=Ga .local:=by first|exact .inl rfl|exact .inr rfl|assumption) :
  PS X (.Assign [.Name x pos'] e pos) (Hh te (Dm i)):=by
 intro ω s σ H D I h;refine wpAny_Assign_Name (fW (he ω s σ H _ I h) λv s1 ⟨y,H1,I1,r1,q1⟩=>?_) hs;exact xO I1 hN hi hx r1 (λs2 I2=>⟨_,H1,I2,q1⟩) hf
end
section
variable {X:Cx}{pos:Pos}
def HY (c:TT)(tb:TS):TS:=λD σ H=>∃ W:Nat->St->Hp->Prop,(∃ m,W m σ H)/\∀ m σ H,W m σ H ->
 c σ H λb H1=>if b=true then ∃ N:St->Hp->Prop,(∀ σ' H',N σ' H'->∃ m',m'<m/\W m' σ' H')/\tb { D with nx:=N,ct:=N,bk:=D.nx } σ H1 else D.nx σ H1
theorem BV {c:Expr}{body:List Stmt}{tc:TT}{tb:TS}(hp:PassesOwn (model X.prog X.w) X.A X.env X.xe)(hc:PT X c tc)(hb:nQ X body tb):PS X (.While c body [] pos) (HY tc tb):=by
 intro ω s σ H D I h;obtain⟨W,⟨m0,w0⟩,turn⟩:=h;refine wpAny_While (codeAny_whileLoop (λn s'=>∃ σ' H',eS X ω σ' H' s'/\W n σ' H') ?_ m0 ⟨σ,H,I,w0⟩);rintro n s1 ⟨σ1,H1,I1,w1⟩;refine wpAny_passesOwn hp (fW (hc ω s1 σ1 H1 _ I1 (turn n σ1 H1 w1)) λb s2 ⟨H2,I2,q2⟩=>?_);cases b with
 | true =>
  obtain⟨N,hN,q2⟩:=q2;rw[Ge rfl];refine wpAny_passesOwn hp (fW (hb ω s2 σ1 H2 _ I2 q2) λf s3 q3=>?_);cases f with
  | next =>
   obtain⟨σ3,H3,I3,n3⟩:=q3;obtain⟨m',hm,w3⟩:=hN σ3 H3 n3;exact⟨m',hm,σ3,H3,I3,w3⟩
  | cont =>
   obtain⟨σ3,H3,I3,n3⟩:=q3;obtain⟨m',hm,w3⟩:=hN σ3 H3 n3;exact⟨m',hm,σ3,H3,I3,w3⟩
  | brk=>exact q3
  | ret v=>exact q3
 | false =>
  rw[Gf jv];exact wpAny_execs_nil ⟨σ1,H2,I2,q2⟩
end
structure It where
 go:Nat->Hp->Prop
 yld:Nat->Hp->V->Hp->Prop
 stop:Nat->Hp->Prop
def ot (X:Cx)(ω:List (Gj×Obj))(H:Hp)(b:Gj):Prop :=
 H b=Gb/\b≠X.env.locals/\b∉X.fs/\(b∈X.ex\/X.s₀.heap.objs.size<=b)/\(∀ x c,X.env.cells.lookup x=Ga c->c≠b)/\∀ p∈X.pn++ω,p.1≠b
theorem eS.fpOk {X:Cx}{ω:List (Gj×Obj)}{σ:St}{H H':Hp}{s:Gh}{b:Gj}(I:eS X ω σ H s)(hb:s.heap.objs.size<=b)(hn:H' b=Gb):ot X ω H' b:=by
 refine⟨hn,vC (jz I.lt hb),I.nofs hb,.inr (j6 I.sz hb),λx c e z=>?_,λp hp z=>?_⟩
 .obtain⟨v,q⟩:=I.cell x c e;exact absurd (jz q.lt (by rw[z];exact hb)) (ko _)
 .exact absurd (jz (ju (I.pin p hp).1) (by rw[z];exact hb)) (ko _)
structure tY (P:Program)(w:World)(K:ja)(tg:Expr)(J:It)(fp:List Gj)(it:Gj)(tn:Nat->Heap->Prop):Prop where
 mem:it∈fp
 obj:∀ i h,tn i h->∀ b∈fp,∃ o,h.get? b=Ga o/\∀ v,o.data≠.cell v
 keep:∀ i h h',tn i h->(∀ b∈fp,∀ o,h.get? b=Ga o->h'.get? b=Ga o)->tn i h'
 item:∀ (X:Cx),X.prog=P->X.w=w->X.K=K->X.calm=true->∀ (i:Nat) (ω:List (Gj×Obj)) (s:Gh) (σ:St) (H:Hp) (E:Gg->Gh->Prop),eS X ω σ H s->(∀ b∈fp,ot X ω H b)->tn i s.heap->J.go i H ->
  wpAny (model P w) X.A (pyNext (.ref it)) (λr s1=>∃ u,r=Ga u /\
   wpAny (model P w) X.A (letOwnedTupleGo tg (.ref it) u) (λ_ s2=>∃ x H',eS X ω σ H' s2/\fC x u/\J.yld i H x H'/\tn (i+1) s2.heap/\∀ b∈fp,H' b=Gb) E s1) E s
 done:∀ (X:Cx),X.prog=P->X.w=w->X.K=K->X.calm=true->∀ (i:Nat) (ω:List (Gj×Obj)) (s:Gh) (σ:St) (H:Hp) (E:Gg->Gh->Prop),eS X ω σ H s->(∀ b∈fp,ot X ω H b)->tn i s.heap->J.stop i H ->
  wpAny (model P w) X.A (pyNext (.ref it)) (λr s1=>r=Gb/\eS X ω σ H s1) E s
 self:∀ (A:Around) (i:Nat) (s:Gh) (Q:Gg->Gh->Prop) (E:Gg->Gh->Prop),tn i s.heap->Q (.ref it) s->wpAny (model P w) A (pyIter (.ref it)) Q E s
abbrev TI:=St->Hp->(It->Hp->Prop)->Prop
def KY (X:Cx)(ω:List (Gj×Obj))(σ:St)(tg:Expr)(R:It->Hp->Prop)(itv:Gg)(s2:Gh):Prop :=
 ∃ (it:Gj) (fp:List Gj) (tn:Nat->Heap->Prop) (J:It) (H':Hp),itv=.ref it/\eS X ω σ H' s2/\tY X.prog X.w X.K tg J fp it tn/\tn 0 s2.heap/\(∀ b∈fp,ot X ω H' b)/\R J H'
def PI (X:Cx)(tg iter:Expr)(wi:TI):Prop :=
 ∀ (ω:List (Gj×Obj)) (s:Gh) (σ:St) (H:Hp) (R:It->Hp->Prop),eS X ω σ H s->wi σ H R ->
  wpAny (model X.prog X.w) X.A (eval iter X.env) (λv s1=>wpAny (model X.prog X.w) X.A (pyIter v) (KY X ω σ tg R) X.xe s1) X.xe s
theorem ze {M:Model}{A:Around}{E:Gg->Gh->Prop}{s:Gh}{tg:Expr}{it:Gj}{u:Gg}{o:Obj}{n:String}{vs:Array Gg}{Q:Unit->Gh->Prop}(ho:s.heap.get? it=Ga o)(hc:o.cls=.type n)(hd:o.data=.fields vs)
  (hn:["enumerate","zip","dict_itemiterator","dict_reverseitemiterator","odict_iterator","itertools.zip_longest","itertools.pairwise"].contains n=false) (hQ:Q () s):wpAny M A (letOwnedTupleGo tg (.ref it) u) Q E s:=by
 unfold letOwnedTupleGo;cases tg<;>first
  | exact eO hQ
  | (cases u<;>first
    | exact eO hQ
    | (refine eN (wpAny_load ho ?_)
       rw[hc,hd];show wpAny M A (if (["enumerate","zip","dict_itemiterator","dict_reverseitemiterator","odict_iterator","itertools.zip_longest","itertools.pairwise"].contains n&&vs[0]?==Ga (rawInt _))=true then _ else _) Q E s;rw[Gf (by intro h;rw[hn,qU] at h;cases h)];exact eO hQ))
def HX (K:ja)(a:Gj):It :=
 ⟨λi H=>∃ xs x,gp K H a xs/\xs[i]?=Ga x,λi H x H'=>H'=H/\∀ xs,gp K H a xs->xs[i]?=Ga x,λi H=>∃ xs,gp K H a xs/\xs.length<=i⟩
def GN (K:ja)(a:Gj):It :=
 ⟨λi H=>∃ xs x,iQ K H a xs/\xs[i]?=Ga x,λi H x H'=>H'=H/\∀ xs,iQ K H a xs->xs[i]?=Ga x,λi H=>∃ xs,iQ K H a xs/\xs.length<=i⟩
def AG (lo:Int)(n:Nat):It:=⟨λi _=>i<n,λi H x H'=>H'=H/\x=.int (lo+i),λi _=>n<=i⟩
theorem AR {P:Program}{w:World}{K:ja}{tg:Expr}(a it:Gj):tY P w K tg (HX K a) [it] it (λi h=>h.IsListIter it a i) where
 mem:=by simp
 obj:=λi h st b hb=>by
  have e:b=it:=by simpa using hb
  subst e;obtain⟨o,e,c,d⟩:=st;exact⟨o,e,λv z=>by rw[d] at z;cases z⟩
 keep:=λi h h' st k=>st.at λo e=>k it (by simp) o e
 item:=by
  intro X hP hw hK hc i ω s σ H E I hf st hg;subst hP hw hK;obtain⟨xs,x,hq,hx⟩:=hg;obtain⟨its,rv,p,hz⟩:=I.list hq;obtain⟨u,hu,ru⟩:=rv.get hx;obtain⟨f0,f1,f2,f3,f4,f5⟩:=hf it (by simp);refine wpAny_pyNext_list_item st p.isList (x:=u) (by simpa using hu) λh' st' sb=>?_;have I1:eS X ω σ H { s with heap:=h' }:=I.turned (t':=s.toks) (λb o hb e=>(sb.2 b hb).trans e) f0 f1 f3 f4 f5;obtain⟨o,e,c,d⟩:=id st';exact⟨u,rfl,ze (s:={ s with heap:=h' }) e c d (by decide) ⟨x,H,I1,ru,⟨rfl,λys hy=>by rw[I.list_inj hy hq];exact hx⟩,st',λb hb=>(hf b hb).1⟩⟩
 done:=by
  intro X hP hw hK hc i ω s σ H E I hf st hg;subst hP hw hK;obtain⟨xs,hq,hx⟩:=hg;obtain⟨its,rv,p,hz⟩:=I.list hq;obtain⟨f0,f1,f2,f3,f4,f5⟩:=hf it (by simp);have hl:=rv.length;exact wpAny_pyNext_list_end (I.ok.hd hc) st p.isList (by simp;omega) λh' eb=>⟨rfl,I.turned (t':=s.toks) (λb o hb e=>eb b o hb e) f0 f1 f3 f4 f5⟩
 self:=λ_ _ _ _ _ st h=>wpAny_pyIter_listiter st h
theorem zo {P:Program}{w:World}{K:ja}{tg:Expr}(a it:Gj):tY P w K tg (GN K a) [it] it (λi h=>h.IsTupleIter it a i) where
 mem:=by simp
 obj:=λi h st b hb=>by
  have e:b=it:=by simpa using hb
  subst e;obtain⟨o,e,c,d⟩:=st;exact⟨o,e,λv z=>by rw[d] at z;cases z⟩
 keep:=λi h h' st k=>st.at λo e=>k it (by simp) o e
 item:=by
  intro X hP hw hK hc i ω s σ H E I hf st hg;subst hP hw hK;obtain⟨xs,x,hq,hx⟩:=hg;obtain⟨its,rv,p,hz⟩:=I.tuple hq;obtain⟨u,hu,ru⟩:=rv.get hx;obtain⟨f0,f1,f2,f3,f4,f5⟩:=hf it (by simp);refine wpAny_pyNext_tuple_item st (show s.heap.IsTuple a its.toArray from p) (x:=u) (by simpa using hu) λh' st' sb=>?_;have I1:eS X ω σ H { s with heap:=h' }:=I.turned (t':=s.toks) (λb o hb e=>(sb.2 b hb).trans e) f0 f1 f3 f4 f5;obtain⟨o,e,c,d⟩:=id st';exact⟨u,rfl,ze (s:={ s with heap:=h' }) e c d (by decide) ⟨x,H,I1,ru,⟨rfl,λys hy=>by rw[I.tuple_inj hy hq];exact hx⟩,st',λb hb=>(hf b hb).1⟩⟩
 done:=by
  intro X hP hw hK hc i ω s σ H E I hf st hg;subst hP hw hK;obtain⟨xs,hq,hx⟩:=hg;obtain⟨its,rv,p,hz⟩:=I.tuple hq;obtain⟨f0,f1,f2,f3,f4,f5⟩:=hf it (by simp);have hl:=rv.length;exact wpAny_pyNext_tuple_end (I.ok.hd hc) st (show s.heap.IsTuple a its.toArray from p) (by simp;omega) λh' eb=>⟨rfl,I.turned (t':=s.toks) (λb o hb e=>eb b o hb e) f0 f1 f3 f4 f5⟩
 self:=λ_ _ _ _ _ st h=>wpAny_pyIter_tupleiter st h
theorem zK {P:Program}{w:World}{K:ja}{tg:Expr}(it:Gj)(lo:Int)(n:Nat):tY P w K tg (AG lo n) [it] it (λi h=>IsRangeIter h it (lo+(i:Nat)*1) ((n:Int)-(i:Nat)) 1) where
 mem:=by simp
 obj:=λi h st b hb=>by
  have e:b=it:=by simpa using hb
  subst e;exact⟨_,st,λv z=>by
   have z':Data.fields _=Data.cell v:=z;cases z'⟩
 keep:=λi h h' st k=>k it (by simp) _ st
 item:=by
  intro X hP hw hK hc i ω s σ H E I hf st hg;subst hP hw hK;obtain⟨f0,f1,f2,f3,f4,f5⟩:=hf it (by simp);have W:=Walks.range (prog:=X.prog) (w:=X.w) (I.ok.hd hc) it lo 1 n;refine W.item i s _ _ hg st λv h' tk hv st' kk=>?_;obtain⟨t,rfl⟩:=hv;have I1:eS X ω σ H { s with heap:=h',toks:=tk }:=I.turned (λb o hb e=>kk b o (by simpa using hb) e) f0 f1 f3 f4 f5;refine⟨_,rfl,ze (s:={ s with heap:=h',toks:=tk }) (n:="range_iterator") st' rfl rfl (by decide) ⟨.int (lo+i),H,I1,⟨t,?_⟩,⟨rfl,rfl⟩,st',λb hb=>(hf b hb).1⟩⟩;rw[Int.mul_one]
 done:=by
  intro X hP hw hK hc i ω s σ H E I hf st hg;subst hP hw hK;obtain⟨f0,f1,f2,f3,f4,f5⟩:=hf it (by simp);exact wpAny_pyNext_range_end (I.ok.hd hc) st (by have:n<=i:=hg;omega) λh' eb=>⟨rfl,I.turned (t':=s.toks) (λb o hb e=>eb b o hb e) f0 f1 f3 f4 f5⟩
 self:=λ_ _ _ _ _ st h=>wpAny_pyIter_rangeiter st h
section
variable {X:Cx}{tg:Expr}
theorem wY {ω:List (Gj×Obj)}{σ:St}{H:Hp}{s:Gh}{R:It->Hp->Prop}{E:Gg->Gh->Prop}{lo hi:Int}{t u v:Tok}{tk:Nat}(I:eS X ω σ H s)(h1:-(2^62)<=lo)(h2:lo<2^62)(h3:-(2^62)<=hi)(h4:hi<2^62)
  (q:R (AG lo (hi-lo).toNat) H):wpAny (model X.prog X.w) X.A (pyIter (.ref s.heap.objs.size)) (KY X ω σ tg R) E { s with heap:=s.heap.push { cls:=.type "range",data:=.fields #[.int lo t,.int hi u,.int 1 v] },toks:=tk }:=by
 refine wpAny_pyIter_range (IsRange.new ..) (small_one h1 h2 h3 h4) ?_;have I1:eS X ω σ H { s with heap:=s.heap.push { cls:=.type "range",data:=.fields #[.int lo t,.int hi u,.int 1 v] },toks:=tk }:=I.kept λb o e=>jg _ e;refine⟨(s.heap.push { cls:=.type "range",data:=.fields #[.int lo t,.int hi u,.int 1 v] }).objs.size,[(s.heap.push { cls:=.type "range",data:=.fields #[.int lo t,.int hi u,.int 1 v] }).objs.size],_,_,H,rfl,
  I1.kept (t':=tk) λb o e=>jg _ e,zK _ lo (hi-lo).toNat,?_,λb hb=>?_,q⟩
 .have e1:lo+((0:Nat):Int)*1=lo:=by simp
  have e2:(((hi-lo).toNat:Nat):Int)-((0:Nat):Int)=qw lo hi 1:=by rw[rangeSize_one];split<;>omega
  show IsRangeIter _ _ (lo+((0:Nat):Int)*1) ((((hi-lo).toNat:Nat):Int)-((0:Nat):Int)) 1;rw[e1,e2];exact jD _ rfl
 .have e:b=(s.heap.push { cls:=.type "range",data:=.fields #[.int lo t,.int hi u,.int 1 v] }).objs.size:=by simpa using hb
  subst e;exact I1.fpOk (jr _) (I1.hok.fresh (jr _))
def IX (ta:TA):TI:=λσ H R=>ta σ H λvs H1=>∃ j:Int,vs=[.int j]/\-(2^62)<=j/\j<2^62/\R (AG 0 j.toNat) H1
def Kk (ta:TA):TI:=λσ H R=>ta σ H λvs H1=>∃ i j:Int,vs=[.int i,.int j]/\(-(2^62)<=i/\i<2^62/\-(2^62)<=j/\j<2^62)/\R (AG i (j-i).toNat) H1
theorem zT {a:Expr}{ta:TA}{p pos:Pos}(hg:Gl X "range")(hm:X.mg "range"=Gb)(ha:PA X [a] ta)(hs:starEach [a] X.env=[(false,eval a X.env)]:=by rfl):PI X tg (.Call (.Name "range" p) [a] [] pos) (IX ta):=by
 intro ω s σ H R I h;refine Call_ (nG I hg hm boot_range (PyProof.Rows.callWith_type1 (fW (ha pos ω s σ H _ I h) λus s1 ⟨vs,H1,I1,r1,q1⟩=>?_) hs rfl));obtain⟨j,e,q1,q2,q⟩:=q1;subst e;cases r1 with
 | cons r rr =>
  cases rr;obtain⟨t,rfl⟩:=r;exact call_range_1 (wY I1 (by omega) (by omega) q1 q2 (by simpa using q))
theorem Bk {a b:Expr}{ta:TA}{p pos:Pos}(hg:Gl X "range")(hm:X.mg "range"=Gb)(ha:PA X [a,b] ta)(hs:starEach [a,b] X.env=[(false,eval a X.env),(false,eval b X.env)]:=by rfl)(hs2:starEach [b] X.env=[(false,eval b X.env)]:=by rfl) :
  PI X tg (.Call (.Name "range" p) [a,b] [] pos) (Kk ta):=by
 intro ω s σ H R I h;refine Call_ (nG I hg hm boot_range (PyProof.Rows.callWith_type1 (fW (ha pos ω s σ H _ I h) λus s1 ⟨vs,H1,I1,r1,q1⟩=>?_) (by rw[hs,hs2]) (by rw[hs2];rfl)));obtain⟨i,j,e,⟨q1,q2,q3,q4⟩,q⟩:=q1;subst e;cases r1 with
 | cons r rr =>
  cases rr with
  | cons r' rr =>
   cases rr;obtain⟨t,rfl⟩:=r;obtain⟨t',rfl⟩:=r';exact call_range_2 (wY I1 q1 q2 q3 q4 q)
def Pz (wi:TI)(g:TG)(tb:TS):TS:=λD σ H=>wi σ H λJ H1=>∃ W:Nat->Nat->St->Hp->Prop,(∃ m,W 0 m σ H1)/\∀ i m σ H,W i m σ H ->
 (J.stop i H/\D.nx σ H)\/(J.go i H/\∃ N:St->Hp->Prop,(∀ σ' H',N σ' H'->∃ m',m'<m/\W (i+1) m' σ' H')/\∀ x H',J.yld i H x H'->g x σ H' λσ2 H2=>tb { D with nx:=N,ct:=N,bk:=D.nx } σ2 H2)
def po (fp:List Gj)(h:Heap):List (Gj×Obj):=fp.filterMap λb=>(h.get? b).map λo=>(b,o)
theorem nY {fp:List Gj}{h:Heap}{b:Gj}{o:Obj}(hb:b∈fp)(e:h.get? b=Ga o):(b,o)∈po fp h:=vm.mpr ⟨b,hb,by rw[e];rfl⟩
theorem Ag {fp:List Gj}{h:Heap}{p:Gj×Obj}(hp:p∈po fp h):p.1∈fp/\h.get? p.1=Ga p.2:=by
 obtain⟨b,hb,e⟩:=vm.mp hp;cases q:h.get? b with
 | none=>rw[q] at e;cases e
 | some o =>
  rw[q] at e;have e':(b,o)=p:=jy e;subst e';exact⟨hb,q⟩
theorem eS.pinned {ω:List (Gj×Obj)}{σ:St}{H:Hp}{s:Gh}{fp:List Gj}(I:eS X ω σ H s)(hf:∀ b∈fp,ot X ω H b)(ho:∀ b∈fp,∃ o,s.heap.get? b=Ga o/\∀ v,o.data≠.cell v):eS X (ω++po fp s.heap) σ H s :=
 I.pins_of λp hp=>(kc.mp hp).elim (λz=>I.pin p (jH _ z)) λz=>by
  obtain⟨hb,e⟩:=Ag z;obtain⟨f0,f1,f2,_⟩:=hf p.1 hb;obtain⟨o,e',d⟩:=ho p.1 hb;rw[e] at e';cases e';exact⟨e,f0,f1,f2,d⟩
theorem eS.unpinned {ω pl:List (Gj×Obj)}{σ:St}{H:Hp}{s:Gh}(I:eS X (ω++pl) σ H s):eS X ω σ H s:=I.pins_of λp hp=>I.pin p (jH _ (uC _ hp))
theorem Aa {iter:Expr}{body:List Stmt}{wi:TI}{g:TG}{tb:TS}{pos:Pos}(hp:PassesOwn (model X.prog X.w) X.A X.env X.xe)(hc:X.calm=true)(hi:PI X tg iter wi)(hg:PG X tg g)(hb:nQ X body tb)
  (hs:∀ x,foldedSetIterable iter X.env x=pure x:=by intro _;rfl):PS X (.For tg iter body [] pos) (Pz wi g tb):=by
 intro ω s σ H D I h;refine wpAny_For (fW (hi ω s σ H _ I h) λv s1 h1=>fW h1 λitv s2 h2=>?_) hs;obtain⟨it,fp,tn,J,H2,e,I2,T,st2,f2,W,⟨m0,w0⟩,turn⟩:=h2;subst e;have stat:∀ {H':Hp},(∀ b∈fp,H' b=Gb)->∀ b∈fp,ot X ω H' b:=λhn b hb=>⟨hn b hb,(f2 b hb).2⟩;refine codeAny_forLoop_any (λn s'=>∃ i σ' H',eS X ω σ' H' s'/\tn i s'.heap/\(∀ b∈fp,H' b=Gb)/\W i n σ' H') ?_ m0 ⟨0,σ,H2,I2,st2,λb hb=>(f2 b hb).1,w0⟩;rintro n s3 ⟨i,σ3,H3,I3,st3,fr3,w3⟩;rcases turn i n σ3 H3 w3 with ⟨stop,qn⟩|⟨go,N,hN,step⟩
 .refine wpAny_passesOwn hp (fW (T.done X rfl rfl rfl hc i ω s3 σ3 H3 X.xe I3 (stat fr3) st3 stop) λr s4 ⟨hr,I4⟩=>?_);subst hr;exact wpAny_execs_nil ⟨σ3,H3,I4,qn⟩
 .refine wpAny_passesOwn hp (fW (T.item X rfl rfl rfl hc i ω s3 σ3 H3 X.xe I3 (stat fr3) st3 go) λr s4 ⟨u,hr,h4⟩=>?_);subst hr;refine wpAny_passesOwn hp (fW h4 λ_ s5 ⟨x,H5,I5,r5,y5,st5,fr5⟩=>?_);have I5':=I5.pinned (stat fr5) (T.obj _ _ st5);refine wpAny_passesOwn hp (fW (hg _ s5 σ3 H5 x u _ I5' r5 (step x H5 y5)) λ_ s6 ⟨σ6,H6,I6,q6⟩=>?_);refine wpAny_passesOwn hp (fW (hb _ s6 σ6 H6 _ I6 q6) λf s7 q7=>?_);have again:∀ {σ7:St} {H7:Hp},eS X (ω++po fp s5.heap) σ7 H7 s7->N σ7 H7->∃ m,m<n/\∃ i σ' H',eS X ω σ' H' s7/\tn i s7.heap/\(∀ b∈fp,H' b=Gb)/\W i m σ' H':=λ{σ7 H7} I7 n7=>by
   obtain⟨m',hm,w7⟩:=hN σ7 H7 n7;refine⟨m',hm,i+1,σ7,H7,I7.unpinned,T.keep _ _ _ st5 λb hb o e=>(I7.pin (b,o) (jH _ (jH _ (nY hb e)))).1,λb hb=>?_,w7⟩;obtain⟨o,e,d⟩:=T.obj _ _ st5 b hb;exact(I7.pin (b,o) (jH _ (jH _ (nY hb e)))).2.1
  cases f with
  | next=>obtain⟨σ7,H7,I7,n7⟩:=q7;exact again I7 n7
  | cont=>obtain⟨σ7,H7,I7,n7⟩:=q7;exact again I7 n7
  | brk=>obtain⟨σ7,H7,I7,q7⟩:=q7;exact⟨σ7,H7,I7.unpinned,q7⟩
  | ret v=>obtain⟨x7,σ7,H7,I7,r7,q7⟩:=q7;exact⟨x7,σ7,H7,I7.unpinned,r7,q7⟩
end
abbrev R2:=V->V->Hp->VK->Prop
def ic (X:Cx)(f:Gg->Gg->Sem Gg)(r:R2):Prop :=
 ∀ (ω:List (Gj×Obj)) (s:Gh) (σ:St) (H:Hp) (x y:V) (v u:Gg) (Q:VK),eS X ω σ H s->fC x v->fC y u->r x y H Q ->
  wpAny (model X.prog X.w) X.A (f v u) (EP X ω σ Q) X.xe s
def FQ (X:Cx)(f:Gg->Sem Gg)(r:V->Hp->VK->Prop):Prop :=
 ∀ (ω:List (Gj×Obj)) (s:Gh) (σ:St) (H:Hp) (x:V) (v:Gg) (Q:VK),eS X ω σ H s->fC x v->r x H Q ->
  wpAny (model X.prog X.w) X.A (f v) (EP X ω σ Q) X.xe s
def hJ (X:Cx)(f:Gg)(r:List V->Hp->VK->Prop):Prop :=
 ∀ (ω:List (Gj×Obj)) (s:Gh) (σ:St) (H:Hp) (xs:List V) (us:List Gg) (Q:VK),eS X ω σ H s->fw xs us->r xs H Q ->
  wpAny (model X.prog X.w) X.A (call f us) (EP X ω σ Q) X.xe s
def Qi (X:Cx)(r:V->Hp->(Bool->Hp->Prop)->Prop):Prop :=
 ∀ (ω:List (Gj×Obj)) (s:Gh) (σ:St) (H:Hp) (x:V) (v:Gg) (Q:Bool->Hp->Prop),eS X ω σ H s->fC x v->r x H Q ->
  wpAny (model X.prog X.w) X.A (truthy v) (TP X ω σ Q) X.xe s
def AZ (r:R2)(ta tb:TE):TE:=λσ H Q=>ta σ H λx H1=>tb σ H1 λy H2=>r x y H2 Q
def WG (r:V->Hp->VK->Prop)(ta:TE):TE:=λσ H Q=>ta σ H λx H1=>r x H1 Q
def rI (C:Int->Int->Prop)(g:Int->Int->V):R2:=λx y H Q=>∃ i j,x=.int i/\y=.int j/\C i j/\Q (g i j) H
def pQ (g:Int->Int->V):R2:=λx y H Q=>∃ i j,x=.int i/\y=.int j/\Q (g i j) H
def rU (g:Int->V):V->Hp->VK->Prop:=λx H Q=>∃ i,x=.int i/\Q (g i) H
section
variable {X:Cx}{a b c:Expr}{ta tb tc:TE}{pos:Pos}
theorem Bt (ha:PE X a ta)(hb:PE X b tb){ω:List (Gj×Obj)}{s:Gh}{σ:St}{H:Hp}{R:V->V->Hp->Prop}(I:eS X ω σ H s)
  (h:ta σ H λx H1=>tb σ H1 λy H2=>R x y H2) {Q:Gg->Gh->Prop} {f:Gg->Gg->Sem Gg}
  (hf:∀ v u s2 x y H2,eS X ω σ H2 s2->fC x v->fC y u->R x y H2->wpAny (model X.prog X.w) X.A (f v u) Q X.xe s2) :
  wpAny (model X.prog X.w) X.A (eval a X.env) (λv s₁=>wpAny (model X.prog X.w) X.A (eval b X.env) (λu s₂=>wpAny (model X.prog X.w) X.A (f v u) Q X.xe s₂) X.xe s₁) X.xe s:=by
 refine fW (ha ω s σ H _ I h) λv s1 ⟨x,H1,I1,r1,q1⟩=>?_;refine fW (hb ω s1 σ H1 _ I1 q1) λu s2 ⟨y,H2,I2,r2,q2⟩=>?_;exact hf v u s2 x y H2 I2 r1 r2 q2
theorem BZ {op:Operator}{r:R2}(ho:ic X (binaryOp op) r)(ha:PE X a ta)(hb:PE X b tb):PE X (.BinOp a op b pos) (AZ r ta tb):=by
 intro ω s σ H Q I h;exact wpAny_BinOp (Bt ha hb I h λv u s2 x y H2 I2 rx ry q=>ho ω s2 σ H2 x y v u Q I2 rx ry q)
theorem Ka {op:UnaryOp}{r:V->Hp->VK->Prop}(ho:FQ X (unaryOp op) r)(ha:PE X a ta):PE X (.UnaryOp op a pos) (WG r ta):=by
 intro ω s σ H Q I h;exact UnaryOp_ (fW (ha ω s σ H _ I h) λv s1 ⟨x,H1,I1,r1,q1⟩=>ho ω s1 σ H1 x v Q I1 r1 q1)
theorem CA {f:Gg->Gg->Sem Gg}{C:Int->Int->Prop}{g:Int->Int->Int}
  (rule:∀ (i j:Int) (t u:Tok) (s:Gh) (Q:Gg->Gh->Prop) (E:Gg->Gh->Prop),C i j->Q (.int (g i j) s.toks) { s with toks:=s.toks+1 }->wpAny (model X.prog X.w) X.A (f (.int i t) (.int j u)) Q E s) :
  ic X f (rI C λi j=>.int (g i j)):=by
 intro ω s σ H x y v u Q I rx ry h;obtain⟨i,j,rfl,rfl,hc,q⟩:=h;obtain⟨t,rfl⟩:=rx;obtain⟨t',rfl⟩:=ry;exact rule i j t t' s _ _ hc ⟨.int (g i j),H,I.tok _,⟨_,rfl⟩,q⟩
theorem zc {f:Gg->Gg->Sem Gg}{g:Int->Int->Int}
  (rule:∀ (i j:Int) (t u:Tok) (s:Gh) (Q:Gg->Gh->Prop) (E:Gg->Gh->Prop),Q (.int (g i j) s.toks) { s with toks:=s.toks+1 }->wpAny (model X.prog X.w) X.A (f (.int i t) (.int j u)) Q E s) :
  ic X f (pQ λi j=>.int (g i j)):=by
 intro ω s σ H x y v u Q I rx ry h;obtain⟨i,j,rfl,rfl,q⟩:=h;obtain⟨t,rfl⟩:=rx;obtain⟨t',rfl⟩:=ry;exact rule i j t t' s _ _ ⟨.int (g i j),H,I.tok _,⟨_,rfl⟩,q⟩
theorem zj {f:Gg->Gg->Sem Gg}{g:Int->Int->Bool}
  (rule:∀ (i j:Int) (t u:Tok) (s:Gh) (Q:Gg->Gh->Prop) (E:Gg->Gh->Prop),Q (.bool (g i j)) s->wpAny (model X.prog X.w) X.A (f (.int i t) (.int j u)) Q E s) :
  ic X f (pQ λi j=>.bl (g i j)):=by
 intro ω s σ H x y v u Q I rx ry h;obtain⟨i,j,rfl,rfl,q⟩:=h;obtain⟨t,rfl⟩:=rx;obtain⟨t',rfl⟩:=ry;exact rule i j t t' s _ _ ⟨.bl (g i j),H,I,rfl,q⟩
def Gk (i j:Int):Prop:=0<j/\j<1073741824
def IL (i j:Int):Prop:=0<=j/\j<=1000000/\i.natAbs<2^64
def zy (i j:Int):Prop:=(-(2^64)<i/\i<2^64)\/(-(2^64)<j/\j<2^64)
theorem zy.ok {i j:Int}(h:zy i j):IntMulOk i j:=by
 rcases h with ⟨h1,h2⟩|⟨h1,h2⟩
 .exact .of_left (intBits_le_64 h1 h2)
 .exact .of_right (intBits_le_64 h1 h2)
theorem EZ:ic X (binaryOp .Add) (pQ λi j=>.int (i+j)):=zc λ_ _ _ _ _ _ _ q=>add_int q
theorem IC:ic X (binaryOp .Sub) (pQ λi j=>.int (i-j)):=zc λ_ _ _ _ _ _ _ q=>sub_int q
theorem GU:ic X (binaryOp .Mult) (rI zy λi j=>.int (i*j)):=CA λ_ _ _ _ _ _ _ hc q=>mul_int q hc.ok
theorem DG:ic X (binaryOp .FloorDiv) (rI Gk λi j=>.int (i/j)):=CA λi j _ _ _ _ _ hc q=>by
 have h1:(0:Int)<j:=hc.1;have h2:j<1073741824:=hc.2;exact floordiv_int (by omega) (by rw[Int.fdiv_eq_ediv_of_nonneg i (by omega)];exact q) (.inl (PyProof.noPylong_small (by omega)))
theorem Ek:ic X (binaryOp .Mod) (rI (λ_ j=>0<j) λi j=>.int (i%j)):=CA λi j _ _ _ _ _ hc q=>by
 have h1:(0:Int)<j:=hc;exact mod_int' (by omega) (by rw[Int.fmod_eq_emod_of_nonneg i (by omega)];exact q)
theorem GD:ic X (binaryOp .Pow) (rI IL λi j=>.int (i^j.toNat)):=CA λ_ _ _ _ _ _ _ hc q=>pow_int_small hc.1 hc.2.1 hc.2.2 q
theorem GP:ic X (binaryOp .BitAnd) (pQ λi j=>.int (uI i j)):=zc λ_ _ _ _ _ _ _ q=>and_int q
theorem Kh:ic X (binaryOp .BitOr) (pQ λi j=>.int (vT i j)):=zc λ_ _ _ _ _ _ _ q=>or_int q
theorem SU {f:Gg->Sem Gg}{g:Int->Int}
  (rule:∀ (i:Int) (t:Tok) (s:Gh) (Q:Gg->Gh->Prop) (E:Gg->Gh->Prop),Q (.int (g i) s.toks) { s with toks:=s.toks+1 }->wpAny (model X.prog X.w) X.A (f (.int i t)) Q E s) :
  FQ X f (rU λi=>.int (g i)):=by
 intro ω s σ H x v Q I rx h;obtain⟨i,rfl,q⟩:=h;obtain⟨t,rfl⟩:=rx;exact rule i t s _ _ ⟨.int (g i),H,I.tok _,⟨_,rfl⟩,q⟩
theorem FM:FQ X (unaryOp .USub) (rU λi=>.int (-i)):=SU λ_ _ _ _ _ q=>neg_int q
end
section
variable {X:Cx}{a b c:Expr}{ta tb tc:TE}{pos:Pos}
theorem Cq:ic X (compareOp .Lt) (pQ λi j=>.bl (decide (i<j))):=zj λ_ _ _ _ _ _ _ q=>lt_int q
theorem wV:ic X (compareOp .LtE) (pQ λi j=>.bl (decide (i<=j))):=zj λ_ _ _ _ _ _ _ q=>le_int q
theorem BX:ic X (compareOp .Gt) (pQ λi j=>.bl (decide (j<i))):=zj λ_ _ _ _ _ _ _ q=>gt_int q
theorem JY:ic X (compareOp .GtE) (pQ λi j=>.bl (decide (j<=i))):=zj λ_ _ _ _ _ _ _ q=>ge_int q
theorem ic.or {f:Gg->Gg->Sem Gg}{r r':R2}(h:ic X f r)(h':ic X f r'):ic X f (λx y H Q=>r x y H Q\/r' x y H Q):=by
 intro ω s σ H x y v u Q I rx ry q;rcases q with q|q
 .exact h ω s σ H x y v u Q I rx ry q
 .exact h' ω s σ H x y v u Q I rx ry q
theorem Ap (b:Expr){op:CmpOp}(h:op≠.In:=by decide)(h2:op≠.NotIn:=by decide):behindInMarks op b=false:=by
 have e1:(op==CmpOp.In)=false:=by cases op<;>first|rfl|exact absurd rfl h
 have e2:(op==CmpOp.NotIn)=false:=by cases op<;>first|rfl|exact absurd rfl h2
 cases b<;>simp[behindInMarks,e1,e2]
theorem Dv {op:CmpOp}{r:R2}(ho:ic X (compareOp op) r)(ha:PE X a ta)(hb:PE X b tb)(hm:behindInMarks op b=false):PE X (.Compare a [op] [b] pos) (AZ r ta tb):=by
 intro ω s σ H Q I h;exact wpAny_Compare1 (Bt ha hb I h λv u s2 x y H2 I2 rx ry q=>ho ω s2 σ H2 x y v u Q I2 rx ry q) hm
def Kp (t:TE):TT:=λσ H Q=>t σ H λx H'=>∃ k,x=.bl k/\Q k H'
theorem DC {op:CmpOp}{r:R2}(ho:ic X (compareOp op) r)(ha:PE X a ta)(hb:PE X b tb)(hm:behindInMarks op b=false):PT X (.Compare a [op] [b] pos) (Kp (AZ r ta tb)):=by
 intro ω s σ H Q I h;refine wpAny_isTrue_Compare1 (fW (ha ω s σ H _ I h) λv s1 ⟨x,H1,I1,r1,q1⟩=>fW (hb ω s1 σ H1 _ I1 q1) λu s2 ⟨y,H2,I2,r2,q2⟩ =>
  fW (ho ω s2 σ H2 x y v u _ I2 r1 r2 q2) λc s3 ⟨z,H3,I3,r3,k,e,q3⟩=>?_) hm
 subst e;cases r3;exact wpAny_truthy_bool ⟨H3,I3,q3⟩
def HM (r r':R2)(ta tb tc:TE):TE:=λσ H Q=>ta σ H λx H1=>tb σ H1 λy H2=>r x y H2 λz H3=>∃ k,z=.bl k /\
 (if k=true then tc σ H3 λw' H4=>r' y w' H4 Q else Q (.bl false) H3)
theorem BN {op op':CmpOp}{r r':R2}(ho:ic X (compareOp op) r)(ho':ic X (compareOp op') r')(ha:PE X a ta)(hb:PE X b tb)(hc:PE X c tc)
  (hm:lastMarks [op,op'] [b,c]=false:=by with_unfolding_all rfl):PE X (.Compare a [op,op'] [b,c] pos) (HM r r' ta tb tc):=by
 intro ω s σ H Q I h;refine Compare_chain (fW (ha ω s σ H _ I h) λv s1 ⟨x,H1,I1,r1,q1⟩=>chain_link (fW (hb ω s1 σ H1 _ I1 q1) λu s2 ⟨y,H2,I2,r2,q2⟩ =>
  fW (ho ω s2 σ H2 x y v u _ I2 r1 r2 q2) λd s3 ⟨z,H3,I3,r3,k,e,q3⟩=>?_)) hm
 subst e;cases r3;refine wpAny_truthy_bool ?_;cases k with
 | false=>exact ite_ff ⟨.bl false,H3,I3,rfl,q3⟩
 | true=>exact ite_tt (chain_last (fW (hc ω s3 σ H3 _ I3 q3) λw' s4 ⟨z',H4,I4,r4,q4⟩=>ho' ω s4 σ H4 y z' u w' Q I4 r2 r4 q4))
def BA (K:ja)(x:V)(H:Hp)(k:Bool):Prop :=
 match x with
 | .non=>k=false
 | .bl b=>k=b
 | .int i=>k=(i !=0)
 | .str y=>y.length<=sizeLine/\k=((y.length:Int) !=0)
 | .byt y=>y.size<=sizeLine/\k=((y.size:Int) !=0)
 | .ref p=>(∃ xs,gp K H p xs/\k=!xs.isEmpty)\/(∃ xs,iQ K H p xs/\k=!xs.isEmpty)\/∃ kvs,H p=Ga (.dK kvs)/\k=!kvs.isEmpty
 | _=>False
theorem zh {κ:Type}{kvs:List (κ×V)}{vs:List (κ×Gg)}(r:KV kvs vs):(!vs.isEmpty)=!kvs.isEmpty:=by
 cases r<;>rfl
theorem tz {xs:List V}{its:List Gg}(r:fw xs its):(!its.toArray.isEmpty)=!xs.isEmpty:=by
 cases r<;>simp
theorem pf:(sizeLine:Nat)<2^63:=by rw[sizeLine_eq];decide
theorem Ef:Qi X (λx H Q=>∃ k,BA X.K x H k/\Q k H):=by
 intro ω s σ H x v Q I rx h;obtain⟨k,e,q⟩:=h;have hl:=pf;have hs:sizeLine=16777216:=sizeLine_eq;cases x with
 | non =>
  cases rx;have e':k=false:=e;subst e';exact truthy_none ⟨H,I,q⟩
 | bl b =>
  cases rx;have e':k=b:=e;subst e';exact wpAny_truthy_bool ⟨H,I,q⟩
 | int i =>
  obtain⟨t,rfl⟩:=rx;have e':k=(i !=0):=e;subst e';exact PySem.P.truthy_int ⟨H,I,q⟩
 | str y =>
  obtain⟨t,rfl⟩:=rx;obtain⟨hy,e'⟩:y.length<=sizeLine/\k=((y.length:Int) !=0):=e;subst e';exact PySem.P.truthy_str (by omega) ⟨H,I.tok _,q⟩
 | byt y =>
  obtain⟨t,rfl⟩:=rx;obtain⟨hy,e'⟩:y.size<=sizeLine/\k=((y.size:Int) !=0):=e;subst e';exact PySem.W.truthy_bytes (by omega) ⟨H,I.tok _,q⟩
 | ref p =>
  cases rx;have e':(∃ xs,gp X.K H p xs/\k=!xs.isEmpty)\/(∃ xs,iQ X.K H p xs/\k=!xs.isEmpty)\/∃ kvs,H p=Ga (.dK kvs)/\k=!kvs.isEmpty:=e;rcases e' with ⟨xs,hx,e'⟩|⟨xs,hx,e'⟩|⟨kvs,hx,e'⟩
  .subst e';obtain⟨its,r,pl,hz⟩:=I.list hx;have hlen:=r.length;exact wpAny_truthy_list pl.isList (by simp only[jn];omega) ⟨H,I.tok _,by rw[tz r];exact q⟩
  .subst e';obtain⟨its,r,pl,hz⟩:=I.tuple hx;have hlen:=r.length;exact truthy_tuple pl (by simp only[jn];omega) ⟨H,I.tok _,by rw[tz r];exact q⟩
  .subst e';obtain⟨hz,hS,vs,r,m⟩:kvs.length<=sizeLine/\(p==sysModules)=false/\∃ vs,KV kvs vs/\s.heap.DictOf (wm X.prog X.w) p vs:=I.hok p _ hx;have hlen:kvs.length=vs.length:=Paired.length r;exact wpAny_truthy_dict hS m (by omega) ⟨H,I.tok _,by rw[zh r];exact q⟩
 | _=>exact(show False from e).elim
theorem BK (ha:PE X a ta)(he:∀ whole,isTrue a X.env whole=(do let v <- whole;standAt a.pos;holding [v] (truthy v))) :
  PT X a (λσ H Q=>ta σ H λx H'=>∃ k,BA X.K x H' k/\Q k H'):=by
 intro ω s σ H Q I h;exact isTrue_plain (fW (ha ω s σ H _ I h) λv s1 ⟨x,H1,I1,r1,q1⟩=>Ef ω s1 σ H1 x v Q I1 r1 q1) (he _)
theorem zH:ic X (binaryOp .Add) (λx y H Q=>∃ i j,x=.str i/\y=.str j/\i.length+j.length<=sizeLine/\Q (.str (i++j)) H):=by
 intro ω s σ H x y v u Q I rx ry h;obtain⟨i,j,rfl,rfl,hz,q⟩:=h;obtain⟨t,rfl⟩:=rx;obtain⟨t',rfl⟩:=ry;exact add_str (λt' tk=>⟨.str (i++j),H,I.tok _,⟨_,rfl⟩,q⟩) hz
theorem vals1 {x:V}{us:List Gg}(r:fw [x] us):∃ u,us=[u]/\fC x u:=by
 cases r with
 | cons r1 r2=>cases r2;exact⟨_,rfl,r1⟩
theorem zO {x y:V}{us:List Gg}(r:fw [x,y] us):∃ u w',us=[u,w']/\fC x u/\fC y w':=by
 cases r with
 | cons r1 r2 =>
  cases r2 with
  | cons r3 r4=>cases r4;exact⟨_,_,rfl,r1,r3⟩
theorem Ae (hc:X.calm=true):hJ X (.builtin "max") (λxs H Q=>∃ i j,xs=[.int i,.int j]/\Q (.int (if j>i then j else i)) H):=by
 intro ω s σ H xs us Q I r h;obtain⟨i,j,rfl,q⟩:=h;obtain⟨u,w',rfl,⟨t,rfl⟩,⟨t',rfl⟩⟩:=zO r;refine max_two_ints (I.ok.hd hc) λh' tk k=>⟨_,H,I.kept k,?_,q⟩;by_cases hj:j>i
 .rw[Ge hj,Ge hj];exact⟨_,rfl⟩
 .rw[Gf hj,Gf hj];exact⟨_,rfl⟩
theorem zU (hc:X.calm=true):hJ X (.builtin "min") (λxs H Q=>∃ i j,xs=[.int i,.int j]/\Q (.int (if j<i then j else i)) H):=by
 intro ω s σ H xs us Q I r h;obtain⟨i,j,rfl,q⟩:=h;obtain⟨u,w',rfl,⟨t,rfl⟩,⟨t',rfl⟩⟩:=zO r;refine min_two_ints (I.ok.hd hc) λh' tk k=>⟨_,H,I.kept k,?_,q⟩;by_cases hj:j<i
 .rw[Ge hj,Ge hj];exact⟨_,rfl⟩
 .rw[Gf hj,Gf hj];exact⟨_,rfl⟩
end
structure Hg (h:Heap)(x dx C:Gj)(mA:Str->Option Gg):Prop where
 obj:h.get? x=Ga (qI C dx)
 ns:h.Ns1 dx mA
 ne:dx≠x
theorem AW {h:Heap}{dx:Gj}{mA:Str->Option Gg}(n:h.Ns1 dx mA):∃ od,h.get? dx=Ga od/\∀ name,qV name od=Ga (mA name):=by
 obtain⟨o,es,ep,ho,hd,hk,_,hm⟩:=n;refine⟨o,ho,λname=>?_⟩;have e:=hm name;unfold nsFind findBy at e;rw[<- Array.find?_toList] at e;unfold qV;rw[hd];dsimp only;split
 .rename_i y q;rw[q] at e;exact congrArg Ga e
 .rename_i q;rw[q] at e;have a:es.toList.any (·.refKey)=false:=by
   rw[List.any_eq_false];intro y hy;obtain⟨z,t,hkey⟩:=hk y (u4.mp hy);simp[DictEntry.refKey,hkey]
  have a':¬es.toList.any (·.refKey)=true:=by rw[a];exact jv
  rw[Gf a'];exact congrArg Ga e
theorem Hg.look {h:Heap}{x dx C:Gj}{mA:Str->Option Gg}(I:Hg h x dx C mA):∃ od,PySem.W.InstAt h x (qI C dx) C (Ga od)/\∀ name,qV name od=Ga (mA name) :=
 let ⟨od,ho,hl⟩:=AW I.ns
 ⟨od,⟨I.obj,rfl,rfl,ho⟩,hl⟩
section
variable {prog:Program}{w:World}{A:Around}{E:Gg->Gh->Prop}{s:Gh}{K:ja}{x dx C f:Gj}{mA:Str->Option Gg}{name:Str}{v:Gg}
end
section
variable {P:Program}{w:World}{H H':Hp}{h h':Heap}{a C dx:Gj}{fs fs':List (Str×V)}
end
section
variable {X:Cx}{ω:List (Gj×Obj)}{σ:St}{H:Hp}{s:Gh}{a C dx:Gj}{fs:List (Str×V)}{f:Str}{v:V}{A:Around}{E:Gg->Gh->Prop}
end
section
variable {X:Cx}{o e value:Expr}{f:Str}{pos pos' tpos:Pos}{ta tv:TE}
end
section
variable {X:Cx}{ω:List (Gj×Obj)}{σ:St}{H:Hp}{s:Gh}{A:Around}{E:Gg->Gh->Prop}{Q:Gg->Gh->Prop}{c:Gg}{b:Bool}
end
structure gr (k:Nat)(A:Around):Prop where
 hd:A.handled=Gb
 dp:A.depth+3*k+5<recursionLimit
 un:A.units+16*k+200<cLine
theorem gr.mono {j k:Nat}{A:Around}(r:gr k A)(h:j<=k):gr j A:=⟨r.hd,by have:=r.dp;omega,by have:=r.un;omega⟩
theorem gr.deeper {k:Nat}{A:Around}(r:gr (k+1) A)(ψ:Env):gr k (A.deeper ψ) :=
 ⟨r.hd,by have:=r.dp;show A.depth+1+3*k+5<_;omega,by have:=r.un;show A.units+3+16*k+200<_;omega⟩
theorem gr.depth {k:Nat}{A:Around}(r:gr k A):A.depth<recursionLimit:=by have:=r.dp;omega
def Hr:TA:=λ_ H Q=>Q [] H
def CO (ta:TE)(tr:TA):TA:=λσ H Q=>ta σ H λx H1=>tr σ H1 λxs H2=>Q (x::xs) H2
section
variable {X:Cx}{e:Expr}{es:List Expr}{te:TE}{t:TA}{pos:Pos}
theorem iL:PA X [] Hr:=λ_ _ _ _ H Q I h=>vD ⟨[],H,I,.nil,h⟩
theorem gA (ha:PE X e te)(hr:PA X es t)(hs:starEach (e::es) X.env=(false,eval e X.env)::starEach es X.env:=by rfl):PA X (e::es) (CO te t):=by
 intro pos ω s σ H Q I h;rw[hs];show wpAny _ _ (spliced ((false,eval e X.env)::backTo pos (starEach es X.env))) _ _ s;refine uu (fW (ha ω s σ H _ I h) λu s1 ⟨x,H1,I1,r1,q1⟩=>?_);exact fW (hr pos ω s1 σ H1 _ I1 q1) λus s2 ⟨xs,H2,I2,r2,q2⟩=>⟨x::xs,H2,I2,.cons r1 r2,q2⟩
def QA (t:TA):TE:=λσ H Q=>t σ H λxs H1=>xs.length<=sizeLine/\∀ p,H1 p=Gb->Q (.ref p) (upd H1 p (.tup xs))
def Ql (t:TA):TE:=λσ H Q=>t σ H λxs H1=>xs.length<=sizeLine/\∀ p,H1 p=Gb->Q (.ref p) (upd H1 p (.lst xs))
theorem FO {x1}(h:PA X es t):PE X (.Tuple es x1 pos) (QA t):=by
 intro ω s σ H Q I hq;refine wpAny_Tuple_spliced (fW (h pos ω s σ H _ I hq) λus s1 ⟨xs,H1,I1,r,z,q⟩=>⟨by rw[<- r.length];exact z,?_⟩);have hf:H1 s1.heap.objs.size=Gb:=I1.hok.fresh (jr _);refine⟨.ref s1.heap.objs.size,upd H1 s1.heap.objs.size (.tup xs),I1.laid (t':=s1.toks) (λb u e=>jg _ e) (jr _) ?_,rfl,q _ hf⟩;exact⟨z,us,r,⟨_,jD _ rfl,rfl,_,rfl⟩⟩
theorem EB (h:PA X es t):PE X (.List es pos) (Ql t):=by
 intro ω s σ H Q I hq;refine wpAny_List_spliced (fW (h pos ω s σ H _ I hq) λus s1 ⟨xs,H1,I1,r,z,q⟩=>⟨by rw[<- r.length];exact z,?_⟩);have hf:H1 s1.heap.objs.size=Gb:=I1.hok.fresh (jr _);refine⟨.ref s1.heap.objs.size,upd H1 s1.heap.objs.size (.lst xs),I1.laid (t':=s1.toks) (λb u e=>jg _ e) (jr _) ?_,rfl,q _ hf⟩;exact⟨z,us,0,r,jD _ rfl⟩
end
abbrev Sp:=List V->Hp->VK->XK->Prop
abbrev oH:=List Env->Hp->Gh->XK->Gg->Gh->Prop
structure oV (P:Program)(w:World)(K:ja)(mg:Str->Option Gg)(base:Heap)(A:Around)(outer:List Env)(s:Gh)(H:Hp):Prop where
 frames:A.frames=Ga outer
 mod:Mod K mg base
 bs:∀ b o,base.get? b=Ga o->s.heap.get? b=Ga o/\H b=Gb
 bsz:base.objs.size<=s.heap.objs.size
 funs:s.heap.FunFrames base outer
 frf:∀ b∈mL outer,H b=Gb
 hok:HOk P w H s.heap
 bare:AllBare s.gens
def CE (outer:List Env)(P:Program)(w:World)(H:Hp)(s:Gh)(Q:VK)(u:Gg)(s':Gh):Prop :=
 ∃ v H',s'.os=s.os/\AllBare s'.gens/\Un (mL outer) [] H H' s.heap s'.heap/\HOk P w H' s'.heap/\fC v u/\Q v H'
def CR (CX:oH)(outer:List Env)(P:Program)(w:World)(H:Hp)(s:Gh)(Q:VK)(E:XK)(r:Result)(s':Gh):Prop :=
 match r with
 | .ok (.ret u)=>CE outer P w H s Q u s'
 | .ok _=>False
 | .error e=>CX outer H s E e s'
structure fB (P:Program)(w:World)(K:ja)(mg:Str->Option Gg)(base:Heap)(CX:oH)(k:Nat)(f:Gj)(fd:Gi)(ps:List Str)(sp:Sp):Prop where
 len:∀ vs H Q E,sp vs H Q E->vs.length=ps.length
 run:∀ (A:Around) (outer:List Env) (s:Gh) (H:Hp) (args:Args) (us:List Gg) (vs:List V) (Q:VK) (E:XK),gr k A->oV P w K mg base A outer s H->BindsTo s fd args (ps.zip us)->fw vs us->sp vs H Q E ->
  codeAny (model P w) A (.call (.ref f) args) (CR CX outer P w H s Q E) s
theorem fB.mono {P:Program}{w:World}{K:ja}{mg:Str->Option Gg}{base:Heap}{CX:oH}{j k:Nat}{f:Gj}{fd:Gi}{ps:List Str}{sp:Sp}(F:fB P w K mg base CX j f fd ps sp)(h:j<=k) :
  fB P w K mg base CX k f fd ps sp:=⟨F.len,λA outer s H args us vs Q E hr=>F.run A outer s H args us vs Q E (hr.mono h)⟩
theorem fB.imp {P:Program}{w:World}{K:ja}{mg:Str->Option Gg}{base:Heap}{CX:oH}{k:Nat}{f:Gj}{fd:Gi}{ps:List Str}{sp sp':Sp}(F:fB P w K mg base CX k f fd ps sp)
  (h:∀ vs H Q E,sp' vs H Q E->sp vs H Q E):fB P w K mg base CX k f fd ps sp' :=
 ⟨λvs H Q E q=>F.len vs H Q E (h _ _ _ _ q),λA outer s H args us vs Q E hr he hb hv hs=>F.run A outer s H args us vs Q E hr he hb hv (h _ _ _ _ hs)⟩
section
variable {X:Cx}{ω:List (Gj×Obj)}{σ:St}{H:Hp}{s s':Gh}
theorem eS.env0 (I:eS X ω σ H s):oV X.prog X.w X.K X.mg X.base X.A X.stack s H :=
 ⟨I.ok.frames,I.ok.mod,I.bs,j6 I.ok.bsz I.sz,I.stack,I.stkFree,I.hok,I.bare⟩
theorem eS.after {Q:VK}{u:Gg}(I:eS X ω σ H s)(h:CE X.stack X.prog X.w H s Q u s'):EP X ω σ Q u s':=by
 obtain⟨v,H',os,bare,un,hok,r,q⟩:=h;obtain⟨hh,g,d,t,os'⟩:=s';obtain rfl:os'=s.os:=os;exact⟨v,H',I.call (h':=hh) (g':=g) (d':=d) (t':=t) (ch:=[]) un hok bare (λb z=>absurd z (by simp)),r,q⟩
end
def Ke (sp:Sp)(dvs:List V)(E:XK)(t:TA):TE:=λσ H Q=>t σ H λvs H1=>sp (vs++dvs) H1 Q E
def lS (K:ja)(fd:Gi)(ps:List Str)(ds:List Gg):Prop :=
 ∀ (s:Gh) (us:List Gg),K.In s.heap->(us++ds).length=ps.length->BindsTo s fd ⟨us,[]⟩ (ps.zip (us++ds))
theorem lS.all {K:ja}{fd:Gi}{ps:List Str}(h:∀ us:List Gg,us.length=ps.length->bindArgs fd ⟨us,[]⟩=pure (ps.zip us)):lS K fd ps []:=λs us _ hl=>by
 rw[j4] at hl ⊢;exact .of_eq (h us hl)
def xt (CX:oH)(X:Cx)(E:XK):Prop:=∀ (ω:List (Gj×Obj)) (σ:St) (H:Hp) (s:Gh) (e:Gg) (s':Gh),eS X ω σ H s->CX X.stack H s E e s'->X.xe e s'
section
variable {X:Cx}{CX:oH}{k:Nat}{f C:Gj}{fd:Gi}{ps:List Str}{sp:Sp}{dvs:List V}{ds:List Gg}{E:XK}{x m:Str}{p pos apos:Pos}{e o:Expr}{es:List Expr}{ta:TE}{t:TA}
theorem Iz {ω:List (Gj×Obj)}{σ:St}{H:Hp}{s:Gh}{Q:VK}{us:List Gg}{vs:List V}(F:fB X.prog X.w X.K X.mg X.base CX k f fd ps sp)(hr:gr k X.A)(hb:lS X.K fd ps ds)(hd:fw dvs ds)(hx:xt CX X E)
  (I:eS X ω σ H s) (r:fw vs us) (h:sp (vs++dvs) H Q E):wpAny (model X.prog X.w) X.A (call (.ref f) us) (EP X ω σ Q) X.xe s:=by
 have r2:fw (vs++dvs) (us++ds):=r.append hd;have hl:(us++ds).length=ps.length:=by rw[<- r2.length];exact F.len _ _ _ _ h
 refine wpAny_call (codeAny_mono (F.run X.A X.stack s H ⟨us,[]⟩ (us++ds) (vs++dvs) Q E hr I.env0 (hb s us I.kIn hl) r2 h) λr s' hq=>?_);cases r with
 | error e=>exact hx ω σ H s e s' I hq
 | ok fl =>
  cases fl with
  | ret u=>exact I.after hq
  | next=>exact False.elim hq
  | brk=>exact False.elim hq
  | cont=>exact False.elim hq
theorem ph (F:fB X.prog X.w X.K X.mg X.base CX k f fd ps sp)(hr:gr k X.A)(hg:Gl X x)(hm:X.mg x=Ga (.ref f))(hk:kG X.K (.ref f)=true)(hb:lS X.K fd ps ds)(hd:fw dvs ds)(hx:xt CX X E)
  (ha:PA X (e::es) t) (hdb:(x==("__debug__":Str))=false:=by decide) (he:starEach (e::es) X.env=(false,eval e X.env)::starEach es X.env:=by rfl) (hpl:(backTo pos (starEach es X.env)).any (·.1)=false:=by rfl) :
  PE X (.Call (.Name x p) (e::es) [] pos) (Ke sp dvs E t):=by
 intro ω s σ H Q I h;refine wpAny_Call_Name_kw (wn I hg hm ?_ hdb);refine Jn (h₀:=X.base) I.ok.mod.kin hk (fW (ha pos ω s σ H _ I h) λus s1 ⟨vs,H1,I1,r,q⟩=>⟨I1.kIn,?_⟩) he hpl;exact Iz F hr hb hd hx I1 r q
end
section
variable {X:Cx}{CX:oH}{k:Nat}{f C:Gj}{fd:Gi}{ps ks:List Str}{sp:Sp}{E:XK}{x m:Str}{p pos apos kpos:Pos}{e o:Expr}{es:List Expr}{kws:List Keyword}{te ta:TE}{t tk:TA}{nm:Option Str}
variable {g:List Gg->List Gg->List Gg}{gV:List V->List V->List V}
end
structure fo (N P:List Str)(sc:Scope):Prop where
 kind:sc.kind=.function
 co:sc.isCoroutine=false
 gen:sc.isGenerator=false
 nd:N.Nodup
 pre:N.take P.length=P
 par:∀ x∈P,sc.names.lookup x=Ga .local\/sc.names.lookup x=Ga .cell
 nofree:∀ y∈sc.names,y.2≠.free
theorem wt {kindOf:Str->Option NameKind}{x:Str}:∀ {binds:List (Str×Gg)} {m:Str->Option Gg},(∀ v,(x,v)∉binds)->bindL kindOf binds m x=m x
 | [],_,_=>rfl
 | (n,v)::r,m,h=>by
  unfold bindL;rw[wt λw hw=>h w (jj _ hw)];split
  .have:x≠n:=by rintro rfl;exact h v jf
   simp[this]
  .rfl
theorem wL {kindOf:Str->Option NameKind}{x:Str}:∀ {binds:List (Str×Gg)} {m:Str->Option Gg},(∀ v,(x,v)∉binds)->bindC kindOf binds m x=m x
 | [],_,_=>rfl
 | (n,v)::r,m,h=>by
  unfold bindC;rw[wL λw hw=>h w (jj _ hw)];split
  .rfl
  .have:x≠n:=by rintro rfl;exact h v jf
   simp[this]
theorem wI {kindOf:Str->Option NameKind}{x:Str}{v:Gg}:∀ {P:List Str} {vs:List Gg} {i:Nat} {m:Str->Option Gg},P.Nodup->P[i]?=Ga x->vs[i]?=Ga v->kindOf x=Ga .local ->
  bindL kindOf (P.zip vs) m x=Ga v
 | [],_,_,_,_,h,_,_=>by simp at h
 | _::_,[],_,_,_,_,h,_=>by simp at h
 | p::P,w::vs,0,m,nd,h1,h2,hk=>by
  simp at h1 h2;subst h1;subst h2;show bindL kindOf ((p,w)::P.zip vs) m p=_;unfold bindL;rw[wt λv hv=>(jJ.mp nd).1 (qJ hv).1,Ge hk];simp
 | p::P,w::vs,i+1,m,nd,h1,h2,hk=>by
  show bindL kindOf ((p,w)::P.zip vs) m x=_;unfold bindL;exact wI (i:=i) (jJ.mp nd).2 (by simpa using h1) (by simpa using h2) hk
theorem wu {kindOf:Str->Option NameKind}{x:Str}{v:Gg}:∀ {P:List Str} {vs:List Gg} {i:Nat} {m:Str->Option Gg},P.Nodup->P[i]?=Ga x->vs[i]?=Ga v->kindOf x≠Ga .local ->
  bindC kindOf (P.zip vs) m x=Ga v
 | [],_,_,_,_,h,_,_=>by simp at h
 | _::_,[],_,_,_,_,h,_=>by simp at h
 | p::P,w::vs,0,m,nd,h1,h2,hk=>by
  simp at h1 h2;subst h1;subst h2;show bindC kindOf ((p,w)::P.zip vs) m p=_;unfold bindC;rw[wL λv hv=>(jJ.mp nd).1 (qJ hv).1,Gf hk];simp
 | p::P,w::vs,i+1,m,nd,h1,h2,hk=>by
  show bindC kindOf ((p,w)::P.zip vs) m x=_;unfold bindC;exact wu (i:=i) (jJ.mp nd).2 (by simpa using h1) (by simpa using h2) hk
def start (N:List Str)(vs:List V):St:=vs.map Ga++jP (N.length-vs.length) Gb
def lX (CX:oH)(P:Program)(w:World)(K:ja)(mg:Str->Option Gg)(base:Heap)(N:List Str)(qual:Str)(scope:Scope)(f:Gj)(cd:Gg)(A:Around)(outer:List Env)(s:Gh)(H:Hp)(E:XK):Cx where
 prog:=P
 w:=w
 K:=K
 mg:=mg
 base:=base
 A:=A.deeper (envOfC qual scope s.heap.objs.size f cd)
 N:=N
 s₀:=s
 H₀:=H
 env:=envOfC qual scope s.heap.objs.size f cd
 outer:=outer
 stack:=envOfC qual scope s.heap.objs.size f cd::outer
 ex:=[]
 calm:=true
 fn:=λ_=>true
 pn:=[]
 xe:=λe s'=>wpAny (model P w) (A.deeper (envOfC qual scope s.heap.objs.size f cd)) (leaving (envOfC qual scope s.heap.objs.size f cd) e) (λ_ s''=>CX outer H s E e s'') (λe' s''=>CX outer H s E e' s'') s'
theorem xX {sc:Scope}{n:Nat}{x:Str}(h:sc.names.lookup x=Ga .cell):∃ c,(cellsFrom n sc.names []).lookup x=Ga c:=by
 have q:=qC sc.names n [] (.inl h);exact qk.mp q
theorem Ac {CX:oH}{P:Program}{w:World}{K:ja}{mg:Str->Option Gg}{base:Heap}{N ps:List Str}{qual:Str}{scope:Scope}{f:Gj}{cd:Gg}{A:Around}{outer:List Env}{s s1:Gh}{H:Hp}{E:XK}{us:List Gg}{vs:List V}
  (S:fo N ps scope) (hd:A.handled=Gb) (e0:oV P w K mg base A outer s H) (hl:vs.length=ps.length) (r:fw vs us)
  (x:InCallC s s.heap.objs.size (bindL (envOfC qual scope s.heap.objs.size f cd).kindOf (ps.zip us) λ_=>Gb) (cellsFrom (s.heap.objs.size+1) scope.names []) (bindC (envOfC qual scope s.heap.objs.size f cd).kindOf (ps.zip us) λ_=>Gb) s1) :
  eS (lX CX P w K mg base N qual scope f cd A outer s H E) [] (start N vs) H s1:=by
 have hpl:ps.length<=N.length:=by have:=congrArg qi S.pre;rw[qx] at this;omega
 obtain⟨h1,tk,rfl,hk⟩:=x.done;have noA:∀ b:Gj,b∉(lX CX P w K mg base N qual scope f cd A outer s H E).ex:=λb z=>absurd (show b∈([]:List Gj) from z) (by simp);refine⟨⟨e0.mod,S.kind,rfl,rfl,jr _,λy z c h1 h2=>?_,λy hy=>?_,λy c _ h=>?_,λ_=>hd,qW e0.frames,.inr ⟨rfl,rfl⟩,λb z=>absurd z (noA b),e0.bs,e0.bsz,λb _ _=>noA b,λb z=>absurd z (noA b),e0.funs,e0.frf⟩,
  rfl,e0.bare,Un.kept hk,⟨_,x.toInCall.ns,λi y v h1 h2 h3=>?_⟩,λy c h=>⟨_,x.cell y c h⟩,e0.hok.fresh (jr _),λy c h=>?_,λp hp=>absurd (show p∈([]:List (Gj×Obj)) from hp) (by simp),e0.hok.kept hk,?_⟩
 .exact name_of_addr x.apart (kE h1) (kE h2)
 .have hy:scope.names.lookup y=Ga .cell\/scope.names.lookup y=Ga .free:=hy;rcases hy with hy|hy
  .exact xX hy
  .exact absurd rfl (S.nofree _ (kE hy))
 .exact uN (x.above y c (kE h))
 .have hi:i<vs.length:=by
   unfold start at h2;by_cases hi:i<vs.length
   .exact hi
   .rw[kH (by simpa using hi)] at h2;rw[ue] at h2;split at h2<;>cases h2
  have ha:vs[i]?=Ga v:=by
   unfold start at h2;rw[ky (by simpa using hi),jw] at h2;cases e:vs[i]? with
   | none=>rw[e] at h2;cases h2
   | some a=>rw[e] at h2;cases h2;rfl
  obtain⟨u,hu,rv⟩:=r.get ha;have hp:ps[i]?=Ga y:=by
   rw[<- S.pre,List.getElem?_take_of_lt (by omega)];exact h1
  have ndP:ps.Nodup:=by rw[<- S.pre];exact S.nd.sublist (List.take_sublist _ _)
  refine⟨u,rv,?_⟩;rcases S.par y (jM hp) with k|k
  .exact .inl ⟨k,wI ndP hp hu k⟩
  .obtain⟨c,e⟩:=xX (n:=s.heap.objs.size+1) k;refine .inr ⟨.inl k,c,e,?_⟩;have q:=x.cell y c e;rw[wu ndP hp hu (by show scope.names.lookup y≠_;rw[k];decide)] at q;exact q
 .exact e0.hok.fresh (uN (x.above y c (kE h)))
 .unfold start;show _=N.length;rw[jC,jd,uV];omega
theorem Dg {CX:oH}{P:Program}{w:World}{K:ja}{mg:Str->Option Gg}{base:Heap}{k:Nat}{f:Gj}{name qual:Str}{params:Arguments}{body:List Stmt}{scope:Scope}{dV kV doc pm cdv ct oc:Gg}{an od:Option Gj}
  {osl:Array (Option Gg)} {N ps:List Str} {sp:Sp} (lk:K.lookup f=Ga ⟨oc,od,.func (kU name qual params body scope dV kV doc pm an cdv ct),osl⟩) (hcd:vE K cdv qual=true) (S:fo N ps scope)
  (len:∀ vs H Q E,sp vs H Q E->vs.length=ps.length)
  (hbody:∀ (A:Around) (outer:List Env) (s:Gh) (H:Hp) (vs:List V) (Q:VK) (E:XK),gr k (A.deeper (envOfC qual scope s.heap.objs.size f cdv))->sp vs H Q E ->
   ∃ t,nQ (lX CX P w K mg base N qual scope f cdv A outer s H E) body t/\t { nx:=λ_ H'=>Q .non H',rt:=Q } (start N vs) H) :
  fB P w K mg base CX (k+1) f (kU name qual params body scope dV kV doc pm an cdv ct) ps sp:=by
 refine⟨len,λA outer s H args us vs Q E hr e0 hb r hsp=>?_⟩;have hl:=len _ _ _ _ hsp;have KX:K.In s.heap:=e0.mod.kin.keeps λb o e=>(e0.bs b o e).1;have lim:s.heap.NoLimit:=e0.mod.nolimit.keeps λb o e=>(e0.bs b o e).1;have hkind:∀ y∈ps.zip us,scope.names.lookup y.1=Ga .local\/(scope.names.lookup y.1=Ga .cell/\((cellsFrom (s.heap.objs.size+1) scope.names []).lookup y.1).isSome=true):=λ⟨n,v⟩ hy=>by
  rcases S.par n (qJ hy).1 with q|q
  .exact .inl q
  .exact .inr ⟨q,qC _ _ _ (.inl q)⟩
 refine codeAny_call_function hr.depth (KX _ _ lk) rfl S.co S.gen rfl (PySem.W.codeRec_of KX hcd) (hb _ _ _ _ ?_);refine wpAny_newFunctionEnv_cells S.kind hkind λψ he s1 x=>?_;subst he;refine⟨lim.keeps x.toInCall.keep,codeAny_func ?_⟩;obtain⟨t,ht,hq⟩:=hbody A outer s H vs Q E (hr.deeper _) hsp;have I:eS (lX CX P w K mg base N qual scope f cdv A outer s H E) [] (start N vs) H s1:=Ac S hr.hd e0 hl r x;refine wpAny_mono (ht [] s1 (start N vs) H _ I hq) (λfl s' hs=>?_) λe s' hs=>hs;have fin:∀ {σ':St} {H':Hp} {v:V} {u:Gg},eS (lX CX P w K mg base N qual scope f cdv A outer s H E) [] σ' H' s'->fC v u->Q v H'->CE outer P w H s Q u s' :=
  λ{σ' H' v u} J rv q=>⟨v,H',J.os,J.bare,J.base,J.hok,rv,q⟩
 cases fl with
 | ret u =>
  obtain⟨v,σ',H',J,rv,q⟩:=hs;exact fin J rv q
 | next =>
  obtain⟨σ',H',J,q⟩:=hs;exact fin (v:=V.non) (u:=kf) J rfl q
 | brk =>
  obtain⟨_,_,_,q⟩:=hs;exact False.elim q
 | cont =>
  obtain⟨_,_,_,q⟩:=hs;exact False.elim q
section
variable {X:Cx}{x:Str}{p pos:Pos}{e:Expr}{es:List Expr}{t:TA}{id T:String}{r:List V->Hp->VK->Prop}
def NP (r:List V->Hp->VK->Prop)(t:TA):TE:=λσ H Q=>t σ H λvs H1=>r vs H1 Q
theorem sJ (hc:hJ X (.builtin id) r)(hg:Gl X x)(hm:X.mg x=Gb)(hv:bootBuiltins x=Ga (.builtin id))(ha:PA X (e::es) t)(hn:x≠"__name__":=by decide)(hdb:(x==("__debug__":Str))=false:=by decide)
  (he:starEach (e::es) X.env=(false,eval e X.env)::starEach es X.env:=by rfl) (hpl:(backTo pos (starEach es X.env)).any (·.1)=false:=by rfl):PE X (.Call (.Name x p) (e::es) [] pos) (NP r t):=by
 intro ω s σ H Q I h;refine wpAny_Call_Name_kw (nG I hg hm hv ?_ hn hdb);exact PyProof.Rows.callWith_builtin1 (fW (ha pos ω s σ H _ I h) λus s1 ⟨vs,H1,I1,r1,q1⟩=>hc ω s1 σ H1 vs us Q I1 r1 q1) he hpl
theorem Aq (hc:hJ X (.type T) r)(hg:Gl X x)(hm:X.mg x=Gb)(hv:bootBuiltins x=Ga (.type T))(ha:PA X (e::es) t)(hn:x≠"__name__":=by decide)(hdb:(x==("__debug__":Str))=false:=by decide)
  (he:starEach (e::es) X.env=(false,eval e X.env)::starEach es X.env:=by rfl) (hpl:(backTo pos (starEach es X.env)).any (·.1)=false:=by rfl):PE X (.Call (.Name x p) (e::es) [] pos) (NP r t):=by
 intro ω s σ H Q I h;refine wpAny_Call_Name_kw (nG I hg hm hv ?_ hn hdb);exact PyProof.Rows.callWith_type1 (fW (ha pos ω s σ H _ I h) λus s1 ⟨vs,H1,I1,r1,q1⟩=>hc ω s1 σ H1 vs us Q I1 r1 q1) he hpl
end
end L2
namespace HT
open PySem PyProof.Rows
section
open PySem.SeqAt
open PySem.AutoSeq1 (wpAny_loadPart')
open PySem.MeetsSeq PySem.MeetsSeq2 PySem.MeetsSeq3
end
section
variable {prog:Program}{w:World}{A:Around}{E:Gg->Gh->Prop}{s:Gh}
theorem cat_tup {t b:Gj}{vs ws:List Gg}{Q:Gg->Gh->Prop}(ht:IsTup s.heap t vs.toArray)(hb:IsTup s.heap b ws.toArray)(hv:vs≠[])
  (h1:ws=[]->Q (.ref t) s) (h2:ws≠[]->Q (.ref s.heap.objs.size) { s with heap:=s.heap.push { cls:=.type "tuple",data:=.seq (vs++ws).toArray } })
  (hsz:vs.length+ws.length<=sizeLine):wpAny (model prog w) A (binaryOp .Add (.ref t) (.ref b)) Q E s:=by
 obtain⟨⟨cls,dd,data,sl⟩,ho,hc,n,hd⟩:=id ht;obtain⟨⟨cls2,dd2,data2,sl2⟩,ho2,hc2,n2,hd2⟩:=id hb;simp only at hc hd hc2 hd2;subst hc hd hc2 hd2;have e:vs.toArray++ws.toArray=(vs++ws).toArray:=by simp
 by_cases hw:ws=[]
 .exact concat_meets ⟨_,ho,rfl⟩ ⟨_,ho2,rfl⟩ noFill_tuple_add seq_tuple_add vF vn (vf _ _)
   (tuple_addW1 t b vs.toArray ws.toArray n n2 dd dd2 sl sl2 (by simpa using hv) (by simp[hw])) ⟨ho,ho2,h1 hw⟩
 .refine concat_meets ⟨_,ho,rfl⟩ ⟨_,ho2,rfl⟩ noFill_tuple_add seq_tuple_add vF vn (vf _ _)
   (tuple_addW2 t b vs.toArray ws.toArray n n2 dd dd2 sl sl2 (by simpa using hv) (by simpa using hw) (by rw[jn,jn];exact hsz)) ⟨ho,ho2,?_⟩
  rw[e];exact h2 hw
def sIx (n d:Nat):Option Int->Nat
 | none=>d
 | some v=>if v<0 then(v+(n:Int)).toNat else min v.toNat n
theorem sIx_nat (n d k:Nat):sIx n d (Ga (k:Int))=min k n:=by
 show(if (k:Int)<0 then((k:Int)+(n:Int)).toNat else min (k:Int).toNat n)=min k n;rw[Gf (by omega),jR]
theorem Ii (n d:Nat)(hd:d<=n)(o:Option Int):sIx n d o<=n:=by
 cases o with
 | none=>exact hd
 | some v =>
  show(if v<0 then(v+(n:Int)).toNat else min v.toNat n)<=n;by_cases hv:v<0
  .rw[Ge hv];omega
  .rw[Gf hv];exact JC _ _
theorem yO (v:Int)(n d:Nat):(if v<0 then max (v+(n:Int)) 0 else min v (n:Int))=((sIx n d (Ga v):Nat):Int):=by
 show(if v<0 then max (v+(n:Int)) 0 else min v (n:Int))=(((if v<0 then(v+(n:Int)).toNat else min v.toNat n):Nat):Int);by_cases hv:v<0
 .simp only[Ge hv];omega
 .simp only[Gf hv];omega
theorem zp (lo hi:Option Int)(n:Nat):va lo hi 1 (n:Int)=(((sIx n 0 lo:Nat):Int),((sIx n n hi:Nat):Int)):=by
 have h1:¬((1:Int)<0):=by omega
 unfold va;simp only[h1,if_false];refine Prod.ext ?_ ?_
 .cases lo with
  | none=>rfl
  | some v=>exact yO v n 0
 .cases hi with
  | none=>rfl
  | some v=>exact yO v n n
theorem zn (i j:Nat):uB (i:Int) (j:Int) 1=j-i:=by
 unfold uB;have h1:(1:Int)>0:=by omega
 simp only[h1,if_true,Int.ediv_one];split<;>omega
theorem sW {v:Gg}{o:Option Int}{Q:Option Int->Gh->Prop}(p:IsPart v o)(h:Q o s):wpAny (model prog w) A (Builtin.Slice.slicePartIndex v) Q E s:=by
 cases p with
 | none=>exact slicePart_none h
 | int i t=>exact slicePart_int h
theorem sG {sl:Gj}{vl vu:Gg}{lo hi:Option Int}{n:Nat}{Q:Int×Int×Nat->Gh->Prop}(hs:s.heap.IsSliceOf sl vl vu .none)(pl:IsPart vl lo)(pu:IsPart vu hi)
  (h:Q (((sIx n 0 lo:Nat):Int),1,sIx n n hi-sIx n 0 lo) s):wpAny (model prog w) A (qa (.ref sl) (pure (n:Int))) Q E s:=by
 obtain⟨os,hos,hcs,hds⟩:=id hs;unfold qa Builtin.Slice.sliceFields;refine eN (eN (wpAny_field hos hds (x:=vl) rfl (eN (wpAny_field hos hds (x:=vu) rfl (eN (wpAny_field hos hds (x:=.none) rfl (eO ?_)))))));refine eN (slicePart_none ?_);show wpAny _ _ (if ((1:Int)==0)=true then _ else _) _ _ s;rw[Gf (by decide)];refine eN (sW pl (eN (sW pu (eN (eO ?_)))));show wpAny _ _ (match va lo hi 1 (n:Int) with|(lo,hi)=>pure (lo,(1:Int),uB lo hi 1)) _ _ s;rw[zp lo hi n];show wpAny _ _ (pure (((sIx n 0 lo:Nat):Int),(1:Int),uB ((sIx n 0 lo:Nat):Int) ((sIx n n hi:Nat):Int) 1)) _ _ s;rw[zn];exact eO h
theorem BM (xs:Array Gg)(i k:Nat):((jb k).filterMap λ(m:Nat)=>xs[((i:Int)+(m:Int)*1).toNat]?).toArray=((xs.toList.drop i).take k).toArray:=by
 have e:(λ(m:Nat)=>xs[((i:Int)+(m:Int)*1).toNat]?)=λm=>xs[i+m]?:=by
  funext m
  have:((i:Int)+(m:Int)*1).toNat=i+m:=by omega
  rw[this]
 rw[e];have:=pick_run xs i k;rw[List.filterMap_map] at this;have e2:((λx=>xs[x]?)∘λx=>i+x)=λm=>xs[i+m]?:=rfl;rw[e2] at this;rw[this]
theorem getItem_tuple_cut {t sl:Gj}{items:Array Gg}{vl vu:Gg}{lo hi:Option Int}{Q:Gg->Gh->Prop}(ht:IsTup s.heap t items)(hs:s.heap.IsSliceOf sl vl vu .none)(pl:IsPart vl lo)(pu:IsPart vu hi)
  (hw:¬(sIx items.size 0 lo=0/\sIx items.size items.size hi=items.size))
  (h:Q (.ref s.heap.objs.size) { s with heap:=s.heap.push { cls:=.type "tuple",data:=.seq ((items.toList.drop (sIx items.size 0 lo)).take (sIx items.size items.size hi-sIx items.size 0 lo)).toArray } })
  (hsz:items.size<=sizeLine):wpAny (model prog w) A (getItem (.ref t) (.ref sl)) Q E s:=by
 have htake:sizeOk (.seq ((items.toList.drop (sIx items.size 0 lo)).take (sIx items.size items.size hi-sIx items.size 0 lo)).toArray):=by
  show((items.toList.drop (sIx items.size 0 lo)).take (sIx items.size items.size hi-sIx items.size 0 lo)).toArray.size<=sizeLine;rw[jn,qx,JD,jQ];omega
 have hj:sIx items.size items.size hi<=items.size:=Ii _ _ (jr _) hi;obtain⟨os,hos,hcs,hds⟩:=id hs;have hTs:s.TypeIs (.ref sl) "slice":=⟨os,hos,hcs⟩;unfold getItem
 try with_reducible refine wpAny_holding ?_
 first|refine eN (eO ?_)|skip
 refine eN (wpAny_sequenceKey ht.typeIs (by decide) ?_);refine eN (wpAny_callSpecial?_slot (name:=u6 "__getitem__") ht.typeIs PyProof.Rows.slot_tuple_getitem
  (wpAny_call_entry PyProof.Rows.slot_tuple_getitem ht.typeIs entry_tuple_getitem ?_ (args_tuple_getitem _ _)))
 show wpAny _ _ (qc (.ref t) >>= _) _ _ s;refine eN (tupleItemsOf_ ht ?_);refine eN (wpAny_typeOf hTs ?_);rw[Ge (by decide)];refine eN (sG hs pl pu ?_);have hno:¬((((sIx items.size 0 lo:Nat):Int)==0&&(1:Int)==1&&(sIx items.size items.size hi-sIx items.size 0 lo)==items.size)=true):=by
  intro q;rw[jo,jo] at q;have q1:((sIx items.size 0 lo:Nat):Int)=0:=eq_of_beq q.1.1;have q2:sIx items.size items.size hi-sIx items.size 0 lo=items.size:=eq_of_beq q.2;exact hw ⟨by omega,by omega⟩
 show wpAny _ _ (if (((sIx items.size 0 lo:Nat):Int)==0&&(1:Int)==1&&(sIx items.size items.size hi-sIx items.size 0 lo)==items.size)=true then _ else _) _ _ s;rw[Gf hno,BM]
 first
  | exact eN (m:=uF _) (wpAny_newObj_type (eO ⟨_,rfl,eO h⟩) htake)
  | exact eN (m:=uF _) (wpAny_newObj_type (eN (eO (eO ⟨_,rfl,eO h⟩))) htake)
  | exact eN (eN (m:=uF _) (wpAny_newObj_type (eO (eO ⟨_,rfl,eO h⟩)) htake))
  | exact eN (eN (m:=uF _) (wpAny_newObj_type (eO ⟨_,rfl,eO h⟩) htake))
end
end HT
namespace L2
open PySem PySem.Spec PyProof.Rows
abbrev TO:=St->Hp->(Option Int->Hp->Prop)->Prop
def PO (X:Cx)(e:Option Expr)(t:TO):Prop :=
 ∀ (ω:List (Gj×Obj)) (s:Gh) (σ:St) (H:Hp) (Q:Option Int->Hp->Prop),eS X ω σ H s->t σ H Q ->
  wpAny (model X.prog X.w) X.A (evalPart e X.env) (λu s'=>∃ o H',eS X ω σ H' s'/\IsPart u o/\Q o H') X.xe s
def Kb (t:TE):TO:=λσ H Q=>t σ H λx H1=>∃ i,x=.int i/\Q (Ga i) H1
theorem sR {ns:List Int}:∀ {us:List Gg},fw (ns.map V.int) us->IntsAre us ns:=by
 induction ns with
 | nil=>intro us r;rw[vG] at r;cases r;exact .nil
 | cons n ns ih =>
  intro us r;rw[jB] at r;cases r with
  | cons r1 r2 =>
   obtain⟨t,e⟩:=r1;subst e;exact .cons n t (ih r2)
section
variable {X:Cx}{e:Expr}{te:TE}{lo hi:Option Expr}{tl th:TO}{pos p2:Pos}
theorem DA (h:PE X e te):PO X (Ga e) (Kb te):=by
 intro ω s σ H Q I hw;rw[evalPart_some];refine fW (h ω s σ H _ I hw) λu s1 ⟨x,H1,I1,r1,q1⟩=>?_;obtain⟨i,rfl,q⟩:=q1;obtain⟨t,rfl⟩:=r1;exact⟨Ga i,H1,I1,.int i t,q⟩
def yh (X:Cx)(r:V->Option Int->Option Int->Hp->VK->Prop):Prop :=
 ∀ (ω:List (Gj×Obj)) (s:Gh) (σ:St) (H:Hp) (x:V) (v vl vu:Gg) (lo hi:Option Int) (sl:Gj) (Q:VK),eS X ω σ H s->fC x v->s.heap.IsSliceOf sl vl vu .none->IsPart vl lo->IsPart vu hi->r x lo hi H Q ->
  ∃ T id,typeLookup (.type T) "__getitem__"=pure (Ga (.builtin id))/\s.TypeIs v T/\wpAny (model X.prog X.w) X.A (getItem v (.ref sl)) (EP X ω σ Q) X.xe s
theorem yh.or {r r':V->Option Int->Option Int->Hp->VK->Prop}(h:yh X r)(h':yh X r'):yh X (λx lo hi H Q=>r x lo hi H Q\/r' x lo hi H Q):=by
 intro ω s σ H x v vl vu lo hi sl Q I rx hs pl pu q;rcases q with q|q
 .exact h ω s σ H x v vl vu lo hi sl Q I rx hs pl pu q
 .exact h' ω s σ H x v vl vu lo hi sl Q I rx hs pl pu q
def Vk (r:V->Option Int->Option Int->Hp->VK->Prop)(te:TE)(tl th:TO):TE:=λσ H Q=>te σ H λx H1=>tl σ H1 λl H2=>th σ H2 λu H3=>r x l u H3 Q
theorem Bu {r:V->Option Int->Option Int->Hp->VK->Prop}(hr:yh X r)(he:PE X e te)(hl:PO X lo tl)(hu:PO X hi th):PE X (.Subscript e (.Slice lo hi Gb p2) pos) (Vk r te tl th):=by
 intro ω s σ H Q I h;refine Subscript_ (fW (he ω s σ H _ I h) λv s1 ⟨x,H1,I1,r1,q1⟩=>?_);refine wpAny_Slice (fW (hl ω s1 σ H1 _ I1 q1) λvl s2 ⟨l,H2,I2,pl,q2⟩=>fW (hu ω s2 σ H2 _ I2 q2) λvu s3 ⟨u,H3,I3,pu,q3⟩=>?_);rw[evalPart_none];refine eO ?_;have I4:eS X ω σ H3 { s3 with heap:=s3.heap.push { cls:=.type "slice",data:=.fields #[vl,vu,.none] } }:=I3.kept (t':=s3.toks) λb ob q=>jg _ q;obtain⟨T,id,hT,ht,hg⟩:=hr ω { s3 with heap:=s3.heap.push { cls:=.type "slice",data:=.fields #[vl,vu,.none] } } σ H3 x v vl vu l u s3.heap.objs.size Q I4 r1 (Heap.IsSliceOf.new ..) pl pu q3;show wpAny (model X.prog X.w) X.A (subscriptTail e (.Slice lo hi Gb p2) v (.ref s3.heap.objs.size)) (EP X ω σ Q) X.xe { s3 with heap:=s3.heap.push { cls:=.type "slice",data:=.fields #[vl,vu,.none] } };exact tail_any (ops:=[.ref s3.heap.objs.size,v]) ht hT hg (by with_unfolding_all rfl)
def oX (xs:List V)(lo hi:Option Int):List V:=(xs.drop (HT.sIx xs.length 0 lo)).take (HT.sIx xs.length xs.length hi-HT.sIx xs.length 0 lo)
theorem rZ (xs:List V)(lo hi:Option Int):(oX xs lo hi).length<=xs.length:=by
 unfold oX;rw[qx,JD];omega
def Qq (K:ja):V->Option Int->Option Int->Hp->VK->Prop:=λx lo hi H Q=>∃ a xs,x=.ref a/\iQ K H a xs /\
 ¬(HT.sIx xs.length 0 lo=0/\HT.sIx xs.length xs.length hi=xs.length)/\∀ p,H p=Gb->Q (.ref p) (upd H p (.tup (oX xs lo hi)))
theorem IT:yh X (Qq X.K):=by
 intro ω s σ H x v vl vu lo hi sl Q I rx hs pl pu h;obtain⟨a,xs,rfl,hx,hw,q⟩:=h;cases rx;obtain⟨its,r,ht,hz⟩:=I.tuple hx;have hlen:its.toArray.size=xs.length:=by rw[jn];exact r.length.symm
 refine⟨"tuple",_,PyProof.Rows.slot_tuple_getitem.lookup,ht.typeIs,?_⟩;refine HT.getItem_tuple_cut ht hs pl pu (by rw[hlen];exact hw) ?_ (by rw[hlen];exact hz);rw[hlen];refine⟨.ref s.heap.objs.size,_,I.laid (t':=s.toks) (o:=.tup (oX xs lo hi)) (λb ob q=>jg _ q) (jr _) ?_,rfl,q _ (I.hok.fresh (jr _))⟩;exact⟨j6 (rZ xs lo hi) hz,_,(r.drop (HT.sIx xs.length 0 lo)).take (HT.sIx xs.length xs.length hi-HT.sIx xs.length 0 lo),IsTup.new _ _⟩
def IZ (K:ja):R2:=λx y H Q=>∃ a b xs ys,x=.ref a/\y=.ref b/\iQ K H a xs/\iQ K H b ys/\xs≠[]/\xs.length+ys.length<=sizeLine /\
 (ys=[]->Q (.ref a) H)/\(ys≠[]->∀ p,H p=Gb->Q (.ref p) (upd H p (.tup (xs++ys))))
theorem fw.nil_iff {xs:List V}{us:List Gg}(r:fw xs us):us=[]↔xs=[]:=by
 cases r with
 | nil=>simp
 | cons _ _=>simp
theorem Dw:ic X (binaryOp .Add) (IZ X.K):=by
 intro ω s σ H x y v u Q I rx ry h;obtain⟨a,b,xs,ys,rfl,rfl,ha,hb,hx,hz,q1,q2⟩:=h;cases rx;cases ry;obtain⟨its,r1,p1,_⟩:=I.tuple ha;obtain⟨its2,r2,p2,_⟩:=I.tuple hb;refine HT.cat_tup p1 p2 (λz=>hx (r1.nil_iff.mp z)) (λz=>⟨.ref a,H,I,rfl,q1 (r2.nil_iff.mp z)⟩) (λz=>?_) (by rw[<- r1.length,<- r2.length];exact hz);refine⟨.ref s.heap.objs.size,_,I.laid (t':=s.toks) (o:=.tup (xs++ys)) (λb ob q=>jg _ q) (jr _) ?_,rfl,q2 (λw=>z (r2.nil_iff.mpr w)) _ (I.hok.fresh (jr _))⟩;exact⟨by rw[jC];exact hz,_,r1.append r2,IsTup.new _ _⟩
end
def ixN (n:Nat)(i:Int):Option Nat:=if 0<=i then(if i<n then Ga i.toNat else Gb) else if -(n:Int)<=i then Ga (i+n).toNat else Gb
def atI {α:Type}(xs:List α)(i:Int):Option α:=(ixN xs.length i).bind λj=>xs[j]?
theorem yw {n:Nat}{i:Int}{j:Nat}(h:ixN n i=Ga j):seqIndex? i n=Ga j/\j<n/\-(n:Int)<=i/\i<n:=by
 unfold ixN at h;by_cases h0:0<=i
 .rw[Ge h0] at h;by_cases h1:i<n
  .rw[Ge h1] at h;have e:i.toNat=j:=jy h;exact⟨by rw[seqIndex_of h0 h1,e],by omega,by omega,h1⟩
  .rw[Gf h1] at h;cases h
 .rw[Gf h0] at h;by_cases h1:-(n:Int)<=i
  .rw[Ge h1] at h;have e:(i+n).toNat=j:=jy h;exact⟨by rw[seqIndex_neg (by omega) h1,e],by omega,h1,by omega⟩
  .rw[Gf h1] at h;cases h
theorem we {α:Type}{xs:List α}{i:Int}{v:α}(h:atI xs i=Ga v):∃ j,seqIndex? i xs.length=Ga j/\xs[j]?=Ga v/\j<xs.length/\-(xs.length:Int)<=i/\i<xs.length:=by
 unfold atI at h;cases e:ixN xs.length i with
 | none=>rw[e] at h;cases h
 | some j =>
  rw[e] at h;obtain⟨h1,h2,h3,h4⟩:=yw e;exact⟨j,h1,h,h2,h3,h4⟩
theorem atI_nat {α:Type}{xs:List α}{j:Nat}{v:α}(h:xs[j]?=Ga v):atI xs (j:Int)=Ga v:=by
 have hj:j<xs.length:=(ji.mp h).1;have e:ixN xs.length (j:Int)=Ga j:=by
  unfold ixN;rw[Ge (by omega),Ge (by omega)];simp
 unfold atI;rw[e];exact h
theorem xn {α:Type}(xs:List α)(v:α):atI (xs++[v]) (-1)=Ga v:=by
 have hl:(xs++[v]).length=xs.length+1:=by simp
 have e:ixN (xs++[v]).length (-1)=Ga xs.length:=by
  unfold ixN;rw[hl,Gf (by decide),Ge (by omega)]
  congr 1
  omega
 unfold atI;rw[e];show(xs++[v])[xs.length]?=Ga v;simp
def wo (b:Expr):Prop:=∀ o i,subscripted b false o i=operate [o,i] (getItem o i)
def tm (X:Cx)(r:R2):Prop :=
 ∀ (value slice:Expr) (ω:List (Gj×Obj)) (s:Gh) (σ:St) (H:Hp) (x y:V) (v u:Gg) (Q:VK),eS X ω σ H s->fC x v->fC y u->r x y H Q ->
  subscripted slice false v u=operate [v,u] (getItem v u)->wpAny (model X.prog X.w) X.A (subscriptTail value slice v u) (EP X ω σ Q) X.xe s
def wC (X:Cx)(id:String)(r:V->List V->Hp->VK->Prop):Prop :=
 ∀ (ω:List (Gj×Obj)) (s:Gh) (σ:St) (H:Hp) (x:V) (xs:List V) (v:Gg) (us:List Gg) (Q:VK),eS X ω σ H s->fC x v->fw xs us->r x xs H Q ->
  wpAny (model X.prog X.w) X.A (call (.builtin id) (v::us)) (EP X ω σ Q) X.xe s
section
variable {X:Cx}{a b:Expr}{ta tb:TE}{pos:Pos}
theorem tm.or {r r':R2}(h:tm X r)(h':tm X r'):tm X (λx y H Q=>r x y H Q\/r' x y H Q):=by
 intro value slice ω s σ H x y v u Q I rx ry q hs;rcases q with q|q
 .exact h value slice ω s σ H x y v u Q I rx ry q hs
 .exact h' value slice ω s σ H x y v u Q I rx ry q hs
theorem wC.or {id:String}{r r':V->List V->Hp->VK->Prop}(h:wC X id r)(h':wC X id r'):wC X id (λx xs H Q=>r x xs H Q\/r' x xs H Q):=by
 intro ω s σ H x xs v us Q I rx rs q;rcases q with q|q
 .exact h ω s σ H x xs v us Q I rx rs q
 .exact h' ω s σ H x xs v us Q I rx rs q
theorem Cb {r:R2}(hr:tm X r)(ha:PE X a ta)(hb:PE X b tb)(hs:wo b):PE X (.Subscript a b pos) (AZ r ta tb):=by
 intro ω s σ H Q I h;exact Subscript_ (Bt ha hb I h λv u s2 x y H2 I2 rx ry q=>hr a b ω s2 σ H2 x y v u Q I2 rx ry q (hs _ _))
def EA (K:ja):R2:=λx y H Q=>∃ p xs i v,x=.ref p/\y=.int i/\gp K H p xs/\atI xs i=Ga v/\Q v H
def FH (K:ja):R2:=λx y H Q=>∃ p xs i v,x=.ref p/\y=.int i/\iQ K H p xs/\atI xs i=Ga v/\Q v H
def Ez:R2:=λx y H Q=>∃ z i c,x=.str z/\y=.int i/\z.length<=sizeLine/\atI z.cps.toList i=Ga c/\Q (.str ⟨#[c]⟩) H
theorem yT:tm X (EA X.K):=by
 intro value slice ω s σ H x y v u Q I rx ry h hs;obtain⟨p,xs,i,z,rfl,rfl,hq,he,q⟩:=h;cases rx;obtain⟨t,rfl⟩:=ry;obtain⟨its,r,pl,hz⟩:=I.list hq;obtain⟨j,h1,h2,h3,h4,h5⟩:=we he;obtain⟨w,ew,rw'⟩:=r.get h2;have hl:=r.length;have hn:=pf;have fin:EP X ω σ Q w s:=⟨z,H,I,rw',q⟩;by_cases h0:0<=i
 .have hj:i.toNat=j:=by
   rw[seqIndex_of h0 h5] at h1;exact jy h1
  exact item_listR pl.isList h0 (by omega) (by rw[hj];simpa using ew) fin hs
 .have hj:(i+(its.toArray.size:Int)).toNat=j:=by
   rw[seqIndex_neg (by omega) h4] at h1;rw[jn,<- hl];exact jy h1
  exact subscriptTail_builtinR (x:=w) pl.isList.typeIs slot_list_getitem.lookup
   (wpAny_getItem_list_neg (Q:=λr s'=>r=w/\EP X ω σ Q r s') pl.isList (by omega) (by rw[jn]<;>omega) (by omega) (by rw[hj];simpa using ew) ⟨rfl,fin⟩) hs
theorem GX:tm X (FH X.K):=by
 intro value slice ω s σ H x y v u Q I rx ry h hs;obtain⟨p,xs,i,z,rfl,rfl,hq,he,q⟩:=h;cases rx;obtain⟨t,rfl⟩:=ry;obtain⟨its,r,pl,hz⟩:=I.tuple hq;obtain⟨j,h1,h2,h3,h4,h5⟩:=we he;obtain⟨w,ew,rw'⟩:=r.get h2;have hl:=r.length;have hn:=pf;have fin:EP X ω σ Q w s:=⟨z,H,I,rw',q⟩;exact subscriptTail_builtinR (x:=w) pl.typeIs slot_tuple_getitem.lookup
  (getItem_tuple (j:=j) (Q:=λr s'=>r=w/\EP X ω σ Q r s') pl (by omega) (by omega) (by rw[jn,<- hl];exact h1) (by simpa using ew) ⟨rfl,fin⟩) hs
theorem II:tm X Ez:=by
 intro value slice ω s σ H x y v u Q I rx ry h hs;obtain⟨z,i,c,rfl,rfl,hz,he,q⟩:=h;obtain⟨t,rfl⟩:=rx;obtain⟨t',rfl⟩:=ry;obtain⟨j,h1,h2,h3,h4,h5⟩:=we he;have hl:z.cps.toList.length=z.length:=by simp[Str.length]
 rw[hl] at h1 h4 h5;have hn:=pf;exact tail_any (typeIs_str s z t) slot_str_getitem.lookup (getItem_str (c:=c) (by
  have e1:decide (i < -(2^63:Int))=false:=Gd (by omega);have e2:decide (i≥2^63)=false:=Gd (by omega);rw[e1,e2,vU]) (by rw[h1];simpa using h2) ⟨.str ⟨#[c]⟩,H,I.tok _,⟨_,rfl⟩,q⟩) hs
def Ou (K:ja):R2:=λx y H Q=>EA K x y H Q\/FH K x y H Q\/Ez x y H Q
theorem Eg:tm X (Ou X.K):=yT.or (GX.or II)
theorem zJ (its:List Gg)(n j:Nat)(u:Gg):jS (·.setIfInBounds j u) { cls:=.type "list",data:=.seq its.toArray n }={ cls:=.type "list",data:=.seq (its.set j u).toArray n }:=by
 simp[jS]
theorem eS.lst {ω:List (Gj×Obj)}{σ:St}{H:Hp}{s:Gh}{p:Gj}{xs:List V}(I:eS X ω σ H s)(h:H p=Ga (.lst xs)) :
  ∃ (its:List Gg) (n:Nat),fw xs its/\s.heap.get? p=Ga { cls:=.type "list",data:=.seq its.toArray n }/\xs.length<=sizeLine:=by
 obtain⟨z,its,n,r,e⟩:=I.hok p _ h;exact⟨its,n,r,e,z⟩
theorem eS.lstUpd {ω:List (Gj×Obj)}{σ:St}{H:Hp}{s:Gh}{p:Gj}{xs ys:List V}{its its':List Gg}{n n':Nat}{f:Obj->Obj}(I:eS X ω σ H s)(h:H p=Ga (.lst xs))
  (ho:s.heap.get? p=Ga { cls:=.type "list",data:=.seq its.toArray n }) (hf:f { cls:=.type "list",data:=.seq its.toArray n }={ cls:=.type "list",data:=.seq its'.toArray n' }) (r:fw ys its') (hz:ys.length<=sizeLine) (t:Nat) :
  eS X ω σ (upd H p (.lst ys)) { s with heap:=s.heap.update p f,toks:=t }:=by
 have e:(s.heap.update p f).get? p=Ga { cls:=.type "list",data:=.seq its'.toArray n' }:=by
  rw[kF f ho (by rw[hf]<;>rfl),hf]
 refine I.write (x:=p) (e:=p) (by rw[h];trivial) (.inl rfl) (λb u hb q=>(kK _ _ (kT hb)).trans q) ⟨_,e⟩ ?_;exact⟨hz,its',n',r,e⟩
def Kc:V->V->V->Hp->(Hp->Prop)->Prop:=λo i v H Q=>∃ p xs k j,o=.ref p/\i=.int k/\H p=Ga (.lst xs)/\ixN xs.length k=Ga j/\Q (upd H p (.lst (xs.set j v)))
theorem Bz:BH X Kc:=by
 intro ω s σ H o i v ov iv u Q I ro ri rv h;obtain⟨p,xs,k,j,rfl,rfl,hp,hj,q⟩:=h;cases ro;obtain⟨t,rfl⟩:=ri;obtain⟨its,n,r,ho,hz⟩:=I.lst hp;obtain⟨h1,h2,h3,h4⟩:=yw hj;have hl:=r.length;have hn:=pf;have I':eS X ω σ (upd H p (.lst (xs.set j v))) { s with heap:=s.heap.update p (jS (·.setIfInBounds j u)) } :=
  I.lstUpd hp ho (zJ its n j u) (r.set rv j) (by rw[vi];exact hz) s.toks
 by_cases h0:0<=k
 .have hk:k.toNat=j:=by
   rw[seqIndex_of h0 h4] at h1;exact jy h1
  exact PySem.W.ki_setAt ho h0 (by omega) (by rw[jn,<- hl];exact h4) (by rw[hk];exact⟨_,I',q⟩)
 .have hk:(k+(its.toArray.size:Int)).toNat=j:=by
   rw[seqIndex_neg (by omega) h3] at h1;rw[jn,<- hl];exact jy h1
  exact PySem.W.ki_setBack ho (by omega) (by rw[jn,<- hl];exact h3) (by omega) (by rw[hk];exact⟨_,I',q⟩)
theorem xY (lo hi:Option Int)(n:Nat):(sliceBounds lo hi Gb n).1=((HT.sIx n 0 lo:Nat):Int)/\(sliceBounds lo hi Gb n).2.1=((HT.sIx n n hi:Nat):Int)/\(sliceBounds lo hi Gb n).2.2=1:=by
 refine⟨?_,?_,rfl⟩
 .cases lo with
  | none=>simp[sliceBounds,HT.sIx]
  | some i =>
   simp only[sliceBounds,HT.sIx,JE,show(1:Int)>0 by decide,if_true];by_cases h:i<0
   .simp only[h,if_true]<;>omega
   .simp only[h,if_false]<;>omega
 .cases hi with
  | none=>simp[sliceBounds,HT.sIx]
  | some i =>
   simp only[sliceBounds,HT.sIx,JE,show(1:Int)>0 by decide,if_true];by_cases h:i<0
   .simp only[h,if_true]<;>omega
   .simp only[h,if_false]<;>omega
theorem wU (its:List Gg)(lo hi:Option Int):slicePick its.toArray lo hi Gb=((its.drop (HT.sIx its.length 0 lo)).take (HT.sIx its.length its.length hi-HT.sIx its.length 0 lo)).toArray:=by
 obtain⟨h1,h2,h3⟩:=xY lo hi its.toArray.size;unfold slicePick;rw[h1,h2,h3];simp only[sliceRange_one,pick_run,jn]<;>rfl
def Qz (K:ja):V->Option Int->Option Int->Hp->VK->Prop:=λx lo hi H Q=>∃ a xs,x=.ref a/\gp K H a xs/\∀ p,H p=Gb->Q (.ref p) (upd H p (.lst (oX xs lo hi)))
theorem Dz:yh X (Qz X.K):=by
 intro ω s σ H x v vl vu lo hi sl Q I rx hs pl pu h;obtain⟨a,xs,rfl,hx,q⟩:=h;cases rx;obtain⟨its,r,ht,hz⟩:=I.list hx;have hlen:=r.length;refine⟨"list",_,slot_list_getitem.lookup,ht.isList.typeIs,?_⟩;refine wpAny_getItem_list_slice ht.isList hs pl pu .none (by simp) ?_ (by rw[jn]<;>omega);rw[wU,<- hlen];refine⟨.ref s.heap.objs.size,_,I.laid (t':=s.toks) (o:=.lst (oX xs lo hi)) (λb ob q=>jg _ q) (jr _) ?_,rfl,q _ (I.hok.fresh (jr _))⟩;exact⟨j6 (rZ xs lo hi) hz,_,0,(r.drop (HT.sIx xs.length 0 lo)).take (HT.sIx xs.length xs.length hi-HT.sIx xs.length 0 lo),jD _ rfl⟩
theorem ya:hJ X (.builtin "len") (λxs H Q=>∃ p ys,xs=[.ref p]/\(gp X.K H p ys\/iQ X.K H p ys)/\Q (.int ys.length) H):=by
 intro ω s σ H xs us Q I r h;obtain⟨p,ys,rfl,hq,q⟩:=h;obtain⟨u,rfl,rx⟩:=vals1 r;cases rx;have hn:=pf;rcases hq with hq|hq
 .obtain⟨its,r',pl,hz⟩:=I.list hq;have hlen:=r'.length;exact Calls.call_len_list pl.isList (by simp only[jn]<;>omega) ⟨.int ys.length,H,I.tok _,⟨s.toks+1,by rw[jn,hlen]⟩,q⟩
 .obtain⟨its,r',pl,hz⟩:=I.tuple hq;have hlen:=r'.length;exact len_tuple pl (by simp only[jn]<;>omega) ⟨.int ys.length,H,I.tok _,⟨s.toks+1,by rw[jn,hlen]⟩,q⟩
theorem hJ.or {f:Gg}{r r':List V->Hp->VK->Prop}(h:hJ X f r)(h':hJ X f r'):hJ X f (λxs H Q=>r xs H Q\/r' xs H Q):=by
 intro ω s σ H xs us Q I rs q;rcases q with q|q
 .exact h ω s σ H xs us Q I rs q
 .exact h' ω s σ H xs us Q I rs q
theorem wT:hJ X (.type "tuple") (λxs H Q=>∃ p ys,xs=[.ref p]/\((gp X.K H p ys/\∀ l,H l=Gb->Q (.ref l) (upd H l (.tup ys)))\/(iQ X.K H p ys/\Q (.ref p) H))):=by
 intro ω s σ H xs us Q I r h;obtain⟨p,ys,rfl,h⟩:=h;obtain⟨u,rfl,rx⟩:=vals1 r;cases rx;rcases h with ⟨hq,q⟩|⟨hq,q⟩
 .obtain⟨its,r',pl,hz⟩:=I.list hq;have hlen:=r'.length;refine call_tuple_list pl.isList (λh' kp=>?_) (by simp only[jn]<;>omega);have I1:eS X ω σ H { s with heap:=h' }:=I.kept (t':=s.toks) kp;have I2:eS X ω σ (upd H h'.objs.size (.tup ys)) { s with heap:=h'.push { cls:=.type "tuple",data:=.seq its.toArray } } :=
   I1.laid (t':=s.toks) (λb o e=>jg _ e) (jr _) (show hZ X.prog X.w _ _ _ (.tup ys) from⟨hz,its,r',IsTup.new _ _⟩)
  exact⟨.ref h'.objs.size,_,I2,rfl,q _ (I1.hok.fresh (jr _))⟩
 .obtain⟨its,r',pl,hz⟩:=I.tuple hq;exact call_tuple_same pl ⟨.ref p,H,I,rfl,q⟩
def GR (K:ja)(T:String)(x:V)(H:Hp):Prop:=match x with
 | .str _=>T="str"
 | .int _=>T="int"
 | .ref p=>(T="list"/\∃ xs,gp K H p xs)\/(T="tuple"/\∃ o,K.lookup p=Ga o/\o.cls=.type "tuple"/\o.dict=Gb) \/
   (T="dict"/\((∃ kvs,H p=Ga (.dK kvs))\/∃ kvs,H p=Ga (.dT kvs)))\/(T="set"/\∃ S n,H p=Ga (.set S n))
 | _=>False
theorem Az {ω:List (Gj×Obj)}{σ:St}{H:Hp}{s:Gh}{T:String}{x:V}{v:Gg}(I:eS X ω σ H s)(r:fC x v)(ty:GR X.K T x H) :
  s.TypeIs v T/\∀ a,v=.ref a->∃ ob,s.heap.get? a=Ga ob/\ob.dict=Gb:=by
 cases x with
 | str z =>
  obtain⟨t,rfl⟩:=r;cases(show T="str" from ty);exact⟨typeIs_str s z t,λ_ e=>nomatch e⟩
 | int i =>
  obtain⟨t,rfl⟩:=r;cases(show T="int" from ty);exact⟨typeIs_int s i t,λ_ e=>nomatch e⟩
 | ref p =>
  cases r;rcases ty with ⟨rfl,xs,hq⟩|⟨rfl,o,hk,hc,hd⟩|⟨rfl,hk⟩|⟨rfl,S,n,hk⟩
  .obtain⟨its,_,pl,_⟩:=I.list hq;refine⟨pl.isList.typeIs,λa e=>?_⟩;cases e;obtain⟨o,n,e,c,hd,_⟩:=pl;exact⟨o,e,hd⟩
  .refine⟨⟨o,I.kIn p o hk,hc⟩,λa e=>?_⟩;cases e;exact⟨o,I.kIn _ o hk,hd⟩
  .have z:∃ o,s.heap.get? p=Ga o/\o.ExactDict:=by
    rcases hk with ⟨kvs,hk⟩|⟨kvs,hk⟩
    .obtain⟨_,_,_,_,o,_,_,e,ex,_⟩:=I.hok p _ hk;exact⟨o,e,ex⟩
    .obtain⟨_,_,_,_,o,_,_,e,ex,_⟩:=I.hok p _ hk;exact⟨o,e,ex⟩
   obtain⟨o,e,ex⟩:=z;refine⟨⟨o,e,ex.1⟩,λa e2=>?_⟩;cases e2;exact⟨o,e,ex.2.1⟩
  .obtain⟨o,_,_,_,e,ex,_⟩:=I.hok p _ hk;refine⟨⟨o,e,ex.1⟩,λa e2=>?_⟩;cases e2;exact⟨o,e,ex.2.1⟩
 | _=>exact False.elim ty
def QG (K:ja)(T:String)(r:V->List V->Hp->VK->Prop)(to:TE):TE:=λσ H Q=>to σ H λx H1=>GR K T x H1/\r x [] H1 Q
def WJ (K:ja)(T:String)(r:V->List V->Hp->VK->Prop)(to:TE)(t:TA):TE:=λσ H Q=>to σ H λx H1=>GR K T x H1/\t σ H1 λxs H2=>r x xs H2 Q
variable {o e:Expr}{es:List Expr}{to:TE}{t:TA}{name:Str}{apos cpos:Pos}{T id:String}{r:V->List V->Hp->VK->Prop}
theorem He (pa:PlainAttrs T)(slot:Slot T name id)(hty:typeOf (.builtin id)=pure (.type "method_descriptor"))(hm:wC X id r)(ho:PE X o to)
  (hbase:attributeBase o name X.env (eval o X.env)=eval o X.env:=by rfl) (hline:(apos.endLine==cpos.line)=true:=by rfl):PE X (.Call (.Attribute o name apos) [] [] cpos) (QG X.K T r to):=by
 intro ω s σ H Q I h;refine wpAny_Call_method0_late hbase hline (fW (ho ω s σ H _ I h) λv s1 ⟨x,H1,I1,r1,ty,q1⟩=>?_);obtain⟨h1,h2⟩:=Az I1 r1 ty;exact⟨T,id,pa,slot,hty,h1,h2,um rfl (Jd (hm ω s1 σ H1 x [] v [] Q I1 r1 .nil q1))⟩
theorem zD (pa:PlainAttrs T)(slot:Slot T name id)(hty:typeOf (.builtin id)=pure (.type "method_descriptor"))(hm:wC X id r)(ho:PE X o to)(ha:PA X (e::es) t)
  (hbase:attributeBase o name X.env (eval o X.env)=eval o X.env:=by rfl)
  (hfew:((backTo cpos (starEach (e::es) X.env)).all (λx=>!x.1)&&(backToKw cpos (keywordEach [] X.env)).all (λx=>x.1.isSome)
   && decide ((e::es).length+([]:List Keyword).length+(if ([]:List Keyword).isEmpty then 0 else 1)<30))=true:=by rfl)
  (hline:(apos.endLine==cpos.line)=true:=by rfl) (hs:starEach (e::es) X.env=(false,eval e X.env)::starEach es X.env:=by rfl) (hplain:(backTo cpos (starEach es X.env)).any (·.1)=false:=by rfl) :
  PE X (.Call (.Attribute o name apos) (e::es) [] cpos) (WJ X.K T r to t):=by
 intro ω s σ H Q I h;refine wpAny_Call_method_late hbase hfew hline rfl (fW (ho ω s σ H _ I h) λv s1 ⟨x,H1,I1,r1,ty,q1⟩=>?_);obtain⟨h1,h2⟩:=Az I1 r1 ty;refine⟨T,id,pa,slot,hty,h1,h2,?_⟩;have hA:=ha cpos ω s1 σ H1 _ I1 q1;rw[hs] at hA ⊢;refine um (by show(false||(backTo cpos (starEach es X.env)).any (·.1))=false;rw[hplain]<;>rfl) (uR ?_);exact fW hA λus s2 ⟨vs,H2,I2,r2,q2⟩=>hm ω s2 σ H2 x vs v us Q I2 r1 r2 q2
end
def MtM (X:Cx)(id:String)(r:V->List V->Hp->VK->Prop):Prop :=
 ∀ (ω:List (Gj×Obj)) (s:Gh) (σ:St) (H:Hp) (x:V) (xs:List V) (v:Gg) (us:List Gg) (Q:VK),eS X ω σ H s->fC x v->fw xs us->r x xs H Q ->
  wpAny (model X.prog X.w) X.A (call (.builtin id) (v::us)) (EP X ω σ Q) X.xe s
theorem fw.one:∀ {x:V} {us:List Gg},fw [x] us->∃ u,us=[u]/\fC x u
 | _,_,.cons r .nil=>⟨_,rfl,r⟩
theorem fw.two:∀ {x y:V} {us:List Gg},fw [x,y] us->∃ u v,us=[u,v]/\fC x u/\fC y v
 | _,_,_,.cons r (.cons q .nil)=>⟨_,_,rfl,r,q⟩
theorem fw.zero:∀ {us:List Gg},fw [] us->us=[]
 | _,.nil=>rfl
theorem fw.reverse {xs:List V}{us:List Gg}(h:fw xs us):fw xs.reverse us.reverse:=by
 induction h with
 | nil=>exact .nil
 | cons r t ih=>rw[vH,vH];exact fw.append ih (.cons r .nil)
theorem fw.rep {xs:List V}{us:List Gg}(h:fw xs us):∀ k:Nat,fw (jP k xs).flatten (jP k us).flatten
 | 0=>.nil
 | k+1=>by
  rw[kQ,kQ,ug,ug];exact fw.append h (fw.rep h k)
theorem wK (its:List Gg):∀ (k:Nat) (acc:List Gg),
  JO (λx1 x2=>x1++x2) acc.toArray (jP k its.toArray)=(acc++(jP k its).flatten).toArray
 | 0,acc=>by simp
 | k+1,acc=>by
  have e:acc.toArray++its.toArray=(acc++its).toArray:=by simp
  have e2:(acc++its)++(jP k its).flatten=acc++(jP (k+1) its).flatten:=by
   rw[kQ,ug,uX]
  rw[<- e2,<- wK its k (acc++its),<- e,kQ,qK]
section
variable {X:Cx}{ω:List (Gj×Obj)}{σ:St}{H:Hp}{s:Gh}{l b:Gj}{xs ys zs:List V}
theorem eS.lset {its its':List Gg}{n:Nat}{f:Array Gg->Array Gg}{t':Nat}(I:eS X ω σ H s)(hH:H l=Ga (.lst xs))
  (e:s.heap.get? l=Ga { cls:=.type "list",data:=.seq its.toArray n }) (hf:f its.toArray=its'.toArray) (hv:fw ys its') (hz:ys.length<=sizeLine) :
  eS X ω σ (upd H l (.lst ys)) { s with heap:=s.heap.update l (jS f),toks:=t' }:=by
 have q:=PySem.IsL.update e f;rw[hf] at q;refine I.write (x:=l) (e:=l) (by rw[hH];exact trivial) (.inl rfl) (λb' u hb hu=>(kK s.heap (jS f) (kT hb)).trans hu) ⟨_,q⟩ ?_;exact⟨hz,its',_,hv,q⟩
theorem eS.lnew {its:List Gg}{t':Nat}(I:eS X ω σ H s)(hv:fw ys its)(hz:ys.length<=sizeLine) :
  eS X ω σ (upd H s.heap.objs.size (.lst ys)) { s with heap:=s.heap.push { cls:=.type "list",data:=.seq its.toArray },toks:=t' } :=
 I.laid (λ_ _ q=>jg _ q) (jr _) ⟨hz,its,0,hv,jD _ rfl⟩
theorem eS.fresh (I:eS X ω σ H s):H s.heap.objs.size=Gb:=I.hok.fresh (jr _)
theorem eS.lstM (I:eS X ω σ H s)(hH:H l=Ga (.lst xs)):xs.length<=sizeLine/\∃ (its:List Gg) (n:Nat),fw xs its/\xs.length=its.length/\s.heap.get? l=Ga { cls:=.type "list",data:=.seq its.toArray n }:=by
 obtain⟨z,its,n,r,e⟩:=I.hok l _ hH;exact⟨z,its,n,r,r.length,e⟩
theorem xI {n:Nat}(h:n<=sizeLine):uG n=false:=by
 unfold uG;exact Gd (by omega)
end
section
variable {X:Cx}
def DD:V->List V->Hp->VK->Prop:=λx vs H Q=>∃ l xs y,x=.ref l/\vs=[y]/\H l=Ga (.lst xs)/\xs.length<sizeLine/\Q .non (upd H l (.lst (xs++[y])))
theorem rp:MtM X "list.append" DD:=by
 intro ω s σ H x vs v us Q I rx rv h;obtain⟨l,xs,y,rfl,rfl,hH,hz,q⟩:=h;cases rx;obtain⟨u,rfl,ru⟩:=rv.one;obtain⟨z,its,n,r,hl,e⟩:=I.lstM hH;refine call_meets F.slot_list_append ⟨_,e,rfl⟩ F.entry_list_append (F.args_list_append_2 _ _) (PySem.list_append l its.toArray n u (by rw[jn];omega)) ⟨e,?_⟩;refine⟨.non,_,I.lset (its':=its++[u]) hH e (by simp) (r.append (.cons ru .nil)) ?_,rfl,q⟩;rw[jC,uW];omega
def Pv:R2:=λx y H Q=>∃ l k xs,x=.ref l/\y=.int k/\H l=Ga (.lst xs)/\-(2^63)<=k/\k<2^63/\xs.length*k.toNat<=sizeLine /\
 ∀ p,H p=Gb->Q (.ref p) (upd H p (.lst (jP k.toNat xs).flatten))
theorem Dx {α:Type}(xs:List α)(k:Nat):(jP k xs).flatten.length=k*xs.length:=by
 induction k with
 | zero=>simp
 | succ k ih=>rw[kQ,ug,jC,ih,Nat.succ_mul,Nat.add_comm]
theorem Hu:ic X (binaryOp .Mult) Pv:=by
 intro ω s σ H x y v u Q I rx ry h;obtain⟨l,k,xs,rfl,rfl,hH,h1,h2,hz,q⟩:=h;cases rx;obtain⟨t,rfl⟩:=ry;obtain⟨z,its,n,r,hl,e⟩:=I.lstM hH;have hlen:its.toArray.size*k.toNat<=sizeLine:=by rw[jn,<- hl];exact hz
 have hcap:¬its.toArray.size*k.toNat>(2^63-1)/8:=by
  have:(sizeLine:Nat)<=(2^63-1)/8:=by decide
  omega
 have hfit:¬(!Builtin.List.listFitsIndex k)=true:=by
  rw[fitsIndex_both h1 h2];exact jv
 have hlong:¬uG (its.toArray.size*k.toNat)=true:=by
  rw[xI hlen];exact jv
 have hnew:JO (λx1 x2=>x1++x2) #[] (jP (if its.toArray.isEmpty=true then 0 else k.toNat) its.toArray)=(jP k.toNat its).flatten.toArray:=by
  have f0:∀ m:Nat,JO (λx1 x2=>x1++x2) #[] (jP m its.toArray)=(jP m its).flatten.toArray:=λm=>by
   have:=wK its m [];rw[List.nil_append] at this;exact this
  rw[f0];cases its with
  | nil=>simp
  | cons a r'=>rw[Gf (by simp)]
 refine wpAny_binaryOp_repeat_ref (T:="list") (U:="int") (by decide) ⟨_,e,rfl⟩ (λs'=>typeIs_int s' k t) noFill_list_mul F.fills_int_mul F.slot_int_rmul repeat_list F.slot_int_index.lookup
  (call_meets F.slot_int_rmul (typeIs_int s k t) F.entry_int_rmul (F.args_int_rmul_2 _ _) (int___rmul___int_list k t l its.toArray n)
   ⟨e,rfl,⟨_,e,rfl⟩,call_meets F.slot_list_mul ⟨_,e,rfl⟩ F.entry_list_mul (F.args_list_mul_2 _ _) (AutoListH.list___mul___list_int_3 l its.toArray n k t hfit hcap hlong) ⟨e,?_⟩⟩)
 rw[hnew];exact⟨.ref _,_,I.lnew (t':=s.toks) (r.rep k.toNat) (by rw[Dx,Nat.mul_comm];exact hz),rfl,q _ I.fresh⟩
end
section
variable {prog:Program}{w:World}{A:Around}{E:Gg->Gh->Prop}{s:Gh}
end
section
variable {X:Cx}
end
end L2
namespace Att
open PySem PySem.W PySem.Calls PyProof.Rows
theorem sT {P:Params}{h:Heap}:∀ (ns:List Int) (vs:List Gg),WellAll P h vs (ns.map WData.int)->IntsAre vs ns:=by
 intro ns;induction ns with
 | nil =>
  intro vs w;rw[vG] at w;cases w;exact .nil
 | cons n ns ih =>
  intro vs w;rw[jB] at w;cases w with
  | cons a b =>
   cases a;exact .cons _ _ (ih _ b)
theorem Ao {l:OpenLaw}{n:Nat}(hn:l.most=Ga n){P:Params}{h:Heap}{args:List WData}{vals:List Gg}
  (hpre:l.row.toRowW.claim.pre args=true) (hwl:WellAll P h vals args) :
  ∃ a vs ns,vals=[kD a]/\args=[WData.list (ns.map WData.int)]/\h.get? a=Ga { cls:=.type "list",data:=.seq vs.toArray }/\IntsAre vs ns/\ns.length<=n:=by
 have hsh:WShape.hasAll [] args [.list .int]=true:=(pre_splitW hpre).1;have hc:l.pre.holds [] { args:=args }=true:=(pre_splitW hpre).2;obtain⟨d,r,rfl,h1,h2⟩:=hasAllW_cons hsh;obtain rfl:=hasAllW_nil h2;obtain⟨xs,rfl,h3⟩:=hasW_list h1;obtain⟨ns,rfl⟩:=items_int h3;have hlen:ns.length<=n:=by
  unfold OpenLaw.pre at hc;have h4:(WTm.not (.lt (.lit (.int (n:Int))) (.len (.arg 0)))).holds [] { args:=[.list (ns.map .int)] }=true:=by
   have h4:=(holds_andW hc).1;rw[hn] at h4;exact h4
  have h5:=condW_of h4 (w_not (w_lt w_lit (w_len_list (w_arg rfl))));rw[jd] at h5;refine Nat.le_of_not_lt λq=>?_;have q':(n:Int)<((ns.length:Nat):Int):=by omega
  first
   | (rw[Gc q'] at h5;exact absurd h5 (by decide))
   | (simp at h5;omega)
 cases hwl with
 | cons w1 w2 =>
  cases w2;cases w1 with
  | list ho hall=>exact⟨_,_,ns,rfl,rfl,ho,sT ns _ hall,hlen⟩
theorem Bh (l:OpenLaw)(args:List WData):l.row.toRowW.claim.post args (.bool true) args=true :=
 postW_of (r:=l.row.toRowW) (X:=(true==true))
  (show WShape.has [] (.bool true) .bool=true by first|rfl|decide|simp[WShape.has,WShape.arms,WShape.armsAll])
  (show(WTm.eq .res (.lit (.bool true))).value [] { args:=args,res:=Ga (.bool true),after:=args }=Ga (.bool (true==true)) from w_eq_bool (w_res rfl) w_lit) rfl
theorem attach_call {l:OpenLaw}{n:Nat}{q:Program}{loose:List Str}{XP:(Str->Option Gg)->Heap->Prop}{YP:World->Heap->Prop}{d:DefRec}
  (hn:l.most=Ga n) (hdf:d.params.defaults=[])
  (call:∀ (w:World) (s₀ s₁:Gh) (mg mb:Str->Option Gg) (fa:Gj) (o:Obj) (pm cd doc:Gg) (a:Gj) (vs:List Gg) (ns:List Int),
   Ground q loose [] XP w s₀ mg mb s₁.heap->YP w s₁.heap ->
   s₁.heap.get? fa=Ga o->o.data=.func (docDef d.name d.params d.body d.scope pm cd doc)->s₁.heap.CodeRec cd d.name->mg d.name=Ga (.ref fa) ->
   s₁.heap.get? a=Ga { cls:=.type "list",data:=.seq vs.toArray }->IntsAre vs ns->ns.length<=n->s₁.gens=#[] ->
   codeAny (model l.prog w) callerA (.call (.ref fa) ⟨[.ref a],[]⟩) (λr s'=>r=.ok (.ret (.bool true))/\OldK s₁.heap s'.heap/\s'.os=s₁.os/\AllBare s'.gens) s₁) :
  WalkO q loose XP YP l.row.toRowW d [] (λf vs=>Jo f vs):=by
 intro w s₀ s₁ mg mb G Y fa o pm cd doc dV kV ho hd hcd hD hmg hg args vals as hpre hlay hrd hwl hlo;obtain rfl:dV=.none:=Dflts.none hD hdf;obtain rfl:kV=.none:=Dflts.noKw hD;obtain⟨a,vs,ns,rfl,rfl,hobj,hints,hlen⟩:=Ao hn hpre hwl;refine enter_call (codeAny_mono (call w s₀ s₁ mg mb fa o pm cd doc a vs ns G Y ho (fd_plain hd) hcd hmg hobj hints hlen hg) λr s' hq=>?_);obtain⟨rfl,h2,h3,h4⟩:=hq;exact⟨.inl ⟨.bool true,.bool true,[],rfl,λ_=>rfl,.bool true,Bh l _,λ_=>⟨List.Pairwise.nil,λ_ hm=>(nomatch hm)⟩⟩,h2,h3,h4⟩
section
variable {prog:Program}{w:World}{A:Around}{E:Gg->Gh->Prop}{s:Gh}{K:Frag}
end
end Att
namespace L2
open PySem PySem.Spec PyProof.Rows
theorem nE:∀ {vs:List Gg} {ns:List Int},IntsAre vs ns->fw (ns.map V.int) vs
 | _,_,.nil=>.nil
 | _,_,.cons n t h=>.cons ⟨t,rfl⟩ (nE h)
def zR (H:Hp):Prop:=∀ b,H b=Gb\/∃ o xs,H b=Ga (.frz o (.lst xs))
theorem Bx {P:Program}{w:World}{K:ja}{mg mb:Str->Option Gg}{CX:oH}{k:Nat}{fa a:Gj}{fd:Gi}{x:Str}{sp:Sp}{s₁:Gh}{vs:List Gg}{ns:List Int}
  (KX:K.In s₁.heap) (hns:s₁.heap.Ns mainGlobals mg) (hb:s₁.heap.Ns builtinsNs mb) (hbb:∀ x:Str,x≠"__name__"->mb x=bootBuiltins x) (hlim:s₁.heap.NoLimit) (hg:s₁.gens=#[])
  (ha:s₁.heap.get? a=Ga { cls:=.type "list",data:=.seq vs.toArray }) (hi:IntsAre vs ns) (hl:ns.length<=sizeLine) (hr:gr k callerA)
  (F:∀ base:Heap,K.In base->base.Ns mainGlobals mg->fB P w K mg base CX k fa fd [x] sp) (hbind:∀ (s:Gh) (u:Gg),BindsTo s fd ⟨[u],[]⟩ [(x,u)])
  (hsp:∀ H:Hp,zR H->gp K H a (ns.map V.int)->sp [.ref a] H (λv _=>v=.bl true) λ_ _ _=>False)
  (hCX:∀ H e s',CX [] H s₁ (λ_ _ _=>False) e s'->False) :
  codeAny (model P w) callerA (.call (.ref fa) ⟨[.ref a],[]⟩) (λr s'=>r=.ok (.ret (.bool true))/\OldK s₁.heap s'.heap/\s'.os=s₁.os/\AllBare s'.gens) s₁:=by
 have rv:=nE hi;have lenV:=hi.length;have core:∀ H:Hp,zR H->gp K H a (ns.map V.int)->HOk P w H s₁.heap->(∀ b,H b≠Gb->b=a)->(H a≠Gb->K.lookup a=Gb) ->
   codeAny (model P w) callerA (.call (.ref fa) ⟨[.ref a],[]⟩) (λr s'=>r=.ok (.ret (.bool true))/\OldK s₁.heap s'.heap/\s'.os=s₁.os/\AllBare s'.gens) s₁:=by
  intro H hO hS hok hA hK;have base_of:∀ {b:Gj} {o:Obj},s₁.heap.get? b=Ga o->H b=Gb->(mR s₁.heap H).get? b=Ga o:=λe n=>yb e n;have noA:∀ {b:Gj} {o:Obj} {es:Array DictEntry} {ep:Nat},s₁.heap.get? b=Ga o->o.data=.dict es ep->H b=Gb:=λ{b o es ep} e d=>by
   cases q:H b with
   | none=>rfl
   | some u =>
    have e':b=a:=hA b (by rw[q];simp);subst e';rw[ha] at e;cases e;have d':Data.seq vs.toArray _=Data.dict es ep:=d;cases d'
  have nsK:∀ {b:Gj} {m:Str->Option Gg},s₁.heap.Ns b m->(mR s₁.heap H).Ns b m:=λ{b m} ⟨o,es,ep,e,d,r⟩=>⟨o,es,ep,base_of e (noA e d),d,r⟩;have hKb:K.In (mR s₁.heap H):=λb o e=>base_of (KX b o e) (by
   cases q:H b with
   | none=>rfl
   | some u =>
    have e':b=a:=hA b (by rw[q];simp);subst e';rw[hK (by rw[q];simp)] at e;cases e)
  have hM:Mod K mg (mR s₁.heap H):=⟨hKb,nsK hns,⟨mb,nsK hb,hbb⟩,let ⟨mc,h1,h2⟩:=hlim;⟨mc,nsK h1,h2⟩⟩;have e0:oV P w K mg (mR s₁.heap H) callerA [] s₁ H:=⟨rfl,hM,λb o e=>yL e,Ju (wO _ _),trivial,λb hb=>absurd (show b∈([]:List Gj) from hb) (by simp),hok,.of_eq hg⟩;refine codeAny_mono ((F _ hKb (nsK hns)).run callerA [] s₁ H ⟨[.ref a],[]⟩ [.ref a] [.ref a] _ _ hr e0 (hbind s₁ (.ref a)) (.cons rfl .nil) (hsp H hO hS)) λr s' h=>?_;cases r with
  | error e=>exact(hCX H e s' h).elim
  | ok fl =>
   cases fl with
   | next=>exact False.elim h
   | brk=>exact False.elim h
   | cont=>exact False.elim h
   | ret u =>
    obtain⟨v,H',os,bare,un,hok',r',q⟩:=h;have q':v=.bl true:=q;subst q';obtain rfl:u=uM true:=r';refine⟨rfl,OldK.of_keep λb o e=>?_,os,bare⟩;cases q:H b with
    | none=>exact un.keep b o e q (by intro z;exact absurd (show b∈([]:List Gj) from z) (by simp)) (by simp)
    | some u =>
     rcases hO b with z|⟨ob,xs,z⟩
     .rw[q] at z;cases z
     .have z2:=un.frzs b ob _ z;obtain⟨e1,_⟩:=hok b _ z;obtain⟨e2,_⟩:=hok' b _ z2;rw[e] at e1;cases e1;exact e2
 cases hk:K.lookup a with
 | some o =>
  have e:=KX a o hk;rw[ha] at e;cases e;refine core (λ_=>Gb) (λ_=>.inl rfl) (.inr ⟨_,vs.toArray,_,hk,rfl,rfl,rfl,by rw[jn,lenV];exact hl,by simpa using rv⟩) (λb u z=>by have z':(Gb:Option HO)=Ga u:=z;cases z') (λb z=>absurd rfl z) λz=>absurd rfl z
 | none =>
  refine core (λb=>if b=a then Ga (.frz { cls:=.type "list",data:=.seq vs.toArray } (.lst (ns.map V.int))) else Gb) (λb=>?_) (.inl (.inr ⟨{ cls:=.type "list",data:=.seq vs.toArray },Ge rfl⟩)) (λb u z=>?_) (λb z=>?_) λ_=>hk
  .by_cases hb:b=a
   .exact .inr ⟨_,_,Ge hb⟩
   .exact .inl (Gf hb)
  .by_cases hb:b=a
   .have z':=(Ge hb).symm.trans z;cases z';subst hb;exact⟨ha,by rw[jd];exact hl,vs,_,rv,ha⟩
   .have z':=(Gf hb).symm.trans z;cases z'
  .by_cases hb:b=a
   .exact hb
   .exact absurd (Gf hb) z
theorem Ds {l:qL}{n k:Nat}{q:Program}{loose:List Str}{XP:(Str->Option Gg)->Heap->Prop}{YP:World->Heap->Prop}{d:DefRec}{K:Params->ja}{CX:World->oH}{sp:World->Sp}{x:Str}
  (hn:l.most=Ga n) (hn2:n<=sizeLine) (hdf:d.params.defaults=[]) (hr:gr k callerA)
  (hY:∀ (w:World) (h:Heap),YP w h->(K w.params).In h)
  (F:∀ (w:World) (mg:Str->Option Gg) (fa:Gj) (h:Heap),(K w.params).In h->h.Ns mainGlobals mg->mg d.name=Ga (.ref fa) ->
   ∃ fd:Gi,(∀ (s:Gh) (u:Gg),BindsTo s fd ⟨[u],[]⟩ [(x,u)]) /\
    ∀ base:Heap,(K w.params).In base->base.Ns mainGlobals mg->fB l.prog w (K w.params) mg base (CX w) k fa fd [x] (sp w))
  (hsp:∀ (w:World) (H:Hp) (a:Gj) (ns:List Int),ns.length<=n->zR H->gp (K w.params) H a (ns.map V.int)->sp w [.ref a] H (λv _=>v=.bl true) λ_ _ _=>False)
  (hCX:∀ (w:World) (H:Hp) (s:Gh) (e:Gg) (s':Gh),CX w [] H s (λ_ _ _=>False) e s'->False) :
  Jg q loose XP YP l.row.toRowW d [] (λf vs=>Jo f vs):=by
 refine Att.attach_call hn hdf λw s₀ s₁ mg mb fa o pm cd doc a vs ns G Y ho hd hcd hmg hobj hints hlen hg=>?_;have KX:=hY w _ Y;obtain⟨fd,hb,hF⟩:=F w mg fa _ KX G.T.g hmg;exact Bx KX G.T.g G.T.b G.T.builtins G.T.nolimit hg hobj hints (j6 hlen hn2) hr hF hb (λH hO hS=>hsp w H a ns hlen hO hS) λH e s'=>hCX w H s₁ e s'
theorem Ps {l:qL}{n k:Nat}{q:Program}{loose:List Str}{XP:(Str->Option Gg)->Heap->Prop}{YP:World->Heap->Prop}{d:DefRec}{K:Params->ja}{CX:oH}{sp:ja->Sp}{x:Str}
  (hn:l.most=Ga n) (hn2:n<=sizeLine) (hdf:d.params.defaults=[]) (hr:gr k callerA)
  (hY:∀ (w:World) (h:Heap),YP w h->(K w.params).In h)
  (F:∀ (w:World) (mg:Str->Option Gg) (fa:Gj) (h:Heap),(K w.params).In h->h.Ns mainGlobals mg->mg d.name=Ga (.ref fa) ->
   ∃ fd:Gi,(∀ (s:Gh) (u:Gg),BindsTo s fd ⟨[u],[]⟩ [(x,u)]) /\
    ∀ base:Heap,(K w.params).In base->base.Ns mainGlobals mg->fB l.prog w (K w.params) mg base CX k fa fd [x] (sp (K w.params)))
  (hsp:∀ (K:ja) (H:Hp) (a:Gj) (ns:List Int),ns.length<=n->zR H->gp K H a (ns.map V.int)->sp K [.ref a] H (λv _=>v=.bl true) λ_ _ _=>False)
  (hCX:∀ (H:Hp) (s:Gh) (e:Gg) (s':Gh),CX [] H s (λ_ _ _=>False) e s'->False) :
  Jg q loose XP YP l.row.toRowW d [] (λf vs=>Jo f vs) :=
 Ds (K:=K) (CX:=λ_=>CX) (sp:=λw=>sp (K w.params)) hn hn2 hdf hr hY F (λw H a ns h1 h2 h3=>hsp (K w.params) H a ns h1 h2 h3) λ_ H s e s'=>hCX H s e s'
abbrev fL:oH:=λ_ _ _ _ _ _=>False
abbrev E0:XK:=λ_ _ _=>False
theorem tB {X:Cx}:xt fL X E0:=λ_ _ _ _ _ _ _ h=>h.elim
structure nW (K:ja)(x qual:Str)(st:Stmt)(f:Gj)(fd:Gi):Prop where
 ex:∃ (oc:Gg) (od:Option Gj) (kV doc pm:Gg) (an:Option Gj) (cdv ct:Gg) (osl:Array (Option Gg)),
  fd=kU x qual (lj st) (gE st) (eP st) .none kV doc pm an cdv ct/\K.lookup f=Ga ⟨oc,od,.func fd,osl⟩/\vE K cdv qual=true
 kp:kG K (.ref f)=true
section
variable {P:Program}{w:World}{K:ja}{mg:Str->Option Gg}{base:Heap}
theorem nW.ok {x qual:Str}{st:Stmt}{f:Gj}{fd:Gi}{N ps:List Str}{k:Nat}{sp:Sp}(F:nW K x qual st f fd)(S:fo N ps (eP st))(len:∀ vs H Q E,sp vs H Q E->vs.length=ps.length)
  (hbody:∀ (cdv:Gg) (A:Around) (outer:List Env) (s:Gh) (H:Hp) (vs:List V) (Q:VK) (E:XK),gr k (A.deeper (envOfC qual (eP st) s.heap.objs.size f cdv))->sp vs H Q E ->
   ∃ t,nQ (lX fL P w K mg base N qual (eP st) f cdv A outer s H E).nox (gE st) t/\t { nx:=λ_ H'=>Q .non H',rt:=Q } (start N vs) H):fB P w K mg base fL (k+1) f fd ps sp:=by
 obtain⟨oc,od,kV,doc,pm,an,cdv,ct,osl,rfl,lk,hcd⟩:=F.ex;refine Dg lk hcd S len λA outer s H vs Q E hr hsp=>?_;obtain⟨t,h,q⟩:=hbody cdv A outer s H vs Q E hr hsp;exact⟨t,h.nox,q⟩
theorem nW.binds {x qual:Str}{st:Stmt}{f:Gj}{fd:Gi}{ps:List Str}(F:nW K x qual st f fd)
  (h:∀ (kV doc pm:Gg) (an:Option Gj) (cdv ct:Gg) (us:List Gg),us.length=ps.length->bindArgs (kU x qual (lj st) (gE st) (eP st) .none kV doc pm an cdv ct) ⟨us,[]⟩=pure (ps.zip us)):lS K fd ps []:=by
 obtain⟨oc,od,kV,doc,pm,an,cdv,ct,osl,rfl,lk,hcd⟩:=F.ex;exact .all (h kV doc pm an cdv ct)
theorem Ho {x qual:Str}{st:Stmt}{f:Gj}{oc:Gg}{od an:Option Gj}{osl:Array (Option Gg)}{kV doc pm cdv ct:Gg}(l:K.lookup f=Ga ⟨oc,od,.func (kU x qual (lj st) (gE st) (eP st) .none kV doc pm an cdv ct),osl⟩)
  (c:vE K cdv qual=true) (k:kG K (.ref f)=true):nW K x qual st f (kU x qual (lj st) (gE st) (eP st) .none kV doc pm an cdv ct):=⟨⟨oc,od,kV,doc,pm,an,cdv,ct,osl,rfl,l,c⟩,k⟩
end
theorem wE {n:Nat}(h:n<=1000):n<sizeLine:=Jp h (by decide)
section
variable {X:Cx}
end
theorem pH {A B:Prop}(h:B):if false=true then A else B:=by
 rw[Gf jv];exact h
theorem pD {A B:Prop}(h:A):if true=true then A else B:=by
 rw[Ge rfl];exact h
def aG (H H':Hp):Prop:=∀ b o,H b=Ga o->H' b=Ga o
theorem aG.refl (H:Hp):aG H H:=λ_ _ h=>h
theorem aG.trans {H H1 H2:Hp}(a:aG H H1)(b:aG H1 H2):aG H H2:=λc o h=>b c o (a c o h)
theorem aG.free {H H':Hp}(e:aG H H'){l:Gj}(h:H' l=qX):H l=qX:=by
 cases q:H l with
 | none=>rfl
 | some o =>
  rw[e l o q] at h;cases h
theorem aG.seq {K:ja}{H H':Hp}{a:Gj}{xs:List V}(e:aG H H')(h:gp K H a xs):gp K H' a xs:=by
 rcases h with (h|⟨o,h⟩)|h
 .exact .inl (.inl (e _ _ h))
 .exact .inl (.inr ⟨o,e _ _ h⟩)
 .exact .inr h
section
variable {κ:Type}[DecidableEq κ]
def lu (kvs:List (κ×V))(k:κ):Option V:=(kvs.find? λkv=>decide (kv.1=k)).map (·.2)
def nM (kvs:List (κ×V))(k:κ)(v:V):List (κ×V) :=
 if (kvs.any λkv=>decide (kv.1=k))=true then kvs.map (λkv=>if kv.1=k then(kv.1,v) else kv) else kvs++[(k,v)]
theorem sj {p:κ×V}{r:List (κ×V)}{k:κ}(e:p.1=k):lu (p::r) k=Ga p.2:=by simp[lu,uS,e]
theorem sr {p:κ×V}{r:List (κ×V)}{k:κ}(e:¬p.1=k):lu (p::r) k=lu r k:=by simp[lu,uS,e]
theorem xi (k:κ):∀ kvs:List (κ×V),(kvs.any λkv=>decide (kv.1=k))=(lu kvs k).isSome
 | []=>rfl
 | p::r=>by
  rw[vV];by_cases e:p.1=k
  .simp only[sj e,Gc e,Bool.true_or,Option.isSome_some]
  .rw[sr e,Gd e,Jh];exact xi k r
theorem rq.isSome_eq {o:Option V}{u:Option Gg}(r:rq o u):o.isSome=u.isSome:=by
 cases o with
 | none=>cases u with
  | none=>rfl
  | some _=>exact(show False from r).elim
 | some _=>cases u with
  | none=>exact(show False from r).elim
  | some _=>rfl
theorem rq.getD {o:Option V}{u:Option Gg}{d:V}{d':Gg}(r:rq o u)(rd:fC d d'):fC (o.getD d) (u.getD d'):=by
 cases o with
 | none=>cases u with
  | none=>exact rd
  | some _=>exact(show False from r).elim
 | some _=>cases u with
  | none=>exact(show False from r).elim
  | some _=>exact r
theorem KV.val {kvs:List (κ×V)}{vs:List (κ×Gg)}(r:KV kvs vs)(k:κ):rq (lu kvs k) (valueAt vs k):=by
 unfold KV at r;induction r with
 | nil=>exact True.intro
 | @cons p q ps qs h t ih =>
  obtain⟨h1,h2⟩:=h;by_cases e:p.1=k
  .have e':q.1=k:=h1.symm.trans e;have b:valueAt (q::qs) k=Ga q.2:=by simp[valueAt,uS,e']
   rw[sj e,b];exact h2
  .have e':¬q.1=k:=λz=>e (h1.trans z);have b:valueAt (q::qs) k=valueAt qs k:=by simp[valueAt,uS,e']
   rw[sr e,b];exact ih
theorem KV.any {kvs:List (κ×V)}{vs:List (κ×Gg)}(r:KV kvs vs)(k:κ):(kvs.any λkv=>decide (kv.1=k))=vs.any λkv=>decide (kv.1=k):=by
 unfold KV at r;induction r with
 | nil=>rfl
 | cons h t ih=>rw[vV,vV,ih,h.1]
theorem KV.repl {kvs:List (κ×V)}{vs:List (κ×Gg)}(r:KV kvs vs)(k:κ){y:V}{u:Gg}(ry:fC y u) :
  KV (kvs.map λkv=>if kv.1=k then(kv.1,y) else kv) (vs.map λkv=>if kv.1=k then(kv.1,u) else kv):=by
 unfold KV at r ⊢;induction r with
 | nil=>exact .nil
 | @cons p q ps qs h t ih =>
  rw[jB,jB];refine .cons ?_ ih;obtain⟨h1,h2⟩:=h;by_cases e:p.1=k
  .rw[Ge e,Ge (h1.symm.trans e)];exact⟨h1,ry⟩
  .rw[Gf e,Gf (λz=>e (h1.trans z))];exact⟨h1,h2⟩
theorem KV.put {kvs:List (κ×V)}{vs:List (κ×Gg)}(r:KV kvs vs)(k:κ){y:V}{u:Gg}(ry:fC y u):KV (nM kvs k y) (stored vs k u):=by
 unfold nM stored;rw[r.any k];by_cases e:(vs.any λkv=>decide (kv.1=k))=true
 .rw[Ge e,Ge e];exact r.repl k ry
 .rw[Gf e,Gf e];exact Paired.snoc r ⟨rfl,ry⟩
theorem KV.length {kvs:List (κ×V)}{vs:List (κ×Gg)}(r:KV kvs vs):kvs.length=vs.length:=Paired.length r
end
abbrev KT (H:Hp):List (List gZ×V)->List (List gZ×Gj×Gg)->Prop:=Paired λp q=>p.1=q.1/\H q.2.1=Ga (.tup (p.1.map kV))/\fC p.2 q.2.2
theorem KT.val {H:Hp}{kvs:List (List gZ×V)}{xs:List (List gZ×Gj×Gg)}(r:KT H kvs xs)(k:List gZ):rq (lu kvs k) ((atKey xs k).map (·.2)):=by
 induction r with
 | nil=>exact True.intro
 | @cons p q ps qs h t ih =>
  obtain⟨h1,_,h2⟩:=h;by_cases e:p.1=k
  .have e':q.1=k:=h1.symm.trans e;have b:atKey (q::qs) k=Ga q.2:=by simp[atKey,uS,e']
   rw[sj e,b];exact h2
  .have e':¬q.1=k:=λz=>e (h1.trans z);have b:atKey (q::qs) k=atKey qs k:=by simp[atKey,uS,e']
   rw[sr e,b];exact ih
theorem KT.repl {H:Hp}{kvs:List (List gZ×V)}{xs:List (List gZ×Gj×Gg)}(r:KT H kvs xs)(k:List gZ){y:V}{u:Gg}(ry:fC y u) :
  KT H (kvs.map λkv=>if kv.1=k then(kv.1,y) else kv) (xs.map (putAt k u)):=by
 induction r with
 | nil=>exact .nil
 | @cons p q ps qs h t ih =>
  rw[jB,jB];refine .cons ?_ ih;obtain⟨h1,h2,h3⟩:=h;unfold putAt;by_cases e:p.1=k
  .rw[Ge e,Ge (h1.symm.trans e)];exact⟨h1,h2,ry⟩
  .rw[Gf e,Gf (λz=>e (h1.trans z))];exact⟨h1,h2,h3⟩
theorem KT.put {H:Hp}{kvs:List (List gZ×V)}{xs:List (List gZ×Gj×Gg)}(r:KT H kvs xs)(k:List gZ){b:Gj}{y:V}{u:Gg}(hb:H b=Ga (.tup (k.map kV)))(ry:fC y u) :
  KT H (nM kvs k y) (storedH xs k b u):=by
 have e:(kvs.any λkv=>decide (kv.1=k))=(atKey xs k).isSome:=by
  rw[xi,(r.val k).isSome_eq,Jv]
 unfold nM storedH;rw[e];by_cases q:(atKey xs k).isSome=true
 .rw[Ge q,Ge q];exact r.repl k ry
 .rw[Gf q,Gf q];exact Paired.snoc r ⟨rfl,hb,ry⟩
theorem KT.keeps {H H':Hp}{kvs:List (List gZ×V)}{xs:List (List gZ×Gj×Gg)}(r:KT H kvs xs)(ht:∀ b ys,H b=Ga (.tup ys)->H' b=Ga (.tup ys)):KT H' kvs xs :=
 Paired.mapP r λ_ _ z=>⟨z.1,ht _ _ z.2.1,z.2.2⟩
section
variable {P:Program}{w:World}{H:Hp}{h:Heap}{a:Gj}
end
def zA (H:Hp)(a:Gj)(y:V)(r:Option V):Prop :=
 (∃ kvs k,Rd H a (.dK kvs)/\y=kV k/\r=lu kvs k)\/∃ kvs k b,Rd H a (.dT kvs)/\y=.ref b/\H b=Ga (.tup (k.map kV))/\r=lu kvs k
def zf (H:Hp)(a:Gj)(y v:V)(H':Hp):Prop :=
 (∃ kvs k,H a=Ga (.dK kvs)/\y=kV k/\kvs.length<sizeLine/\H'=upd H a (.dK (nM kvs k v))) \/
 ∃ kvs k b,H a=Ga (.dT kvs)/\y=.ref b/\H b=Ga (.tup (k.map kV))/\kvs.length<sizeLine/\H'=upd H a (.dT (nM kvs k v))
theorem zA.k {H:Hp}{a:Gj}{kvs:List (gZ×V)}{k:gZ}(e:H a=Ga (.dK kvs)):zA H a (kV k) (lu kvs k):=.inl ⟨kvs,k,.inl e,rfl,rfl⟩
theorem zA.t {H:Hp}{a b:Gj}{kvs:List (List gZ×V)}{k:List gZ}(e:H a=Ga (.dT kvs))(eb:H b=Ga (.tup (k.map kV))):zA H a (.ref b) (lu kvs k):=.inr ⟨kvs,k,b,.inl e,rfl,eb,rfl⟩
theorem zf.k {H:Hp}{a:Gj}{kvs:List (gZ×V)}{k:gZ}{v:V}(e:H a=Ga (.dK kvs))(hl:kvs.length<sizeLine):zf H a (kV k) v (upd H a (.dK (nM kvs k v))):=.inl ⟨kvs,k,e,rfl,hl,rfl⟩
theorem zf.t {H:Hp}{a b:Gj}{kvs:List (List gZ×V)}{k:List gZ}{v:V}(e:H a=Ga (.dT kvs))(eb:H b=Ga (.tup (k.map kV)))(hl:kvs.length<sizeLine) :
  zf H a (.ref b) v (upd H a (.dT (nM kvs k v))):=.inr ⟨kvs,k,b,e,rfl,eb,hl,rfl⟩
section
variable {X:Cx}{ω:List (Gj×Obj)}{σ:St}{H:Hp}{s:Gh}{a:Gj}{y v:V}{u r:Gg}{o:Option V}{A:Around}{E:Gg->Gh->Prop}
theorem eS.big (I:eS X ω σ H s):sysModules<s.heap.objs.size:=by
 have h:mainGlobals<s.heap.objs.size:=(I.mod.glob.keeps I.bk).lt;exact Nat.lt_trans (by decide) h
theorem wk {h':Heap}{t':Nat}{ob:HO}(I:eS X ω σ H s)(mu:Ax (H a))(hs:uO a s.heap h')(he:∃ q,h'.get? a=Ga q)(new:hZ X.prog X.w (upd H a ob) h' a ob) :
  eS X ω σ (upd H a ob) { s with heap:=h',toks:=t' } :=
 I.write (x:=a) (e:=a) mu (.inl rfl) (λb q hb z=>(hs.2 b hb).trans z) he new
end
section
variable {X:Cx}{ω:List (Gj×Obj)}{σ:St}{H:Hp}{s:Gh}{a:Gj}{kvs:List (gZ×V)}{k:gZ}{u:Gg}{A:Around}{E:Gg->Gh->Prop}
end
section
variable {X:Cx}{o i e value:Expr}{pos pos' tpos:Pos}{td ty tv:TE}
end
section
variable {X:Cx}{pos:Pos}
end
structure M2 (X:Cx)(o:Expr)(m:Str)(apos:Pos)(e f:Expr)(cpos:Pos):Prop where
 base:attributeBase o m X.env (eval o X.env)=eval o X.env
 few:((backTo cpos (starEach [e,f] X.env)).all (λx=>!x.1)&&(backToKw cpos (keywordEach [] X.env)).all (λx=>x.1.isSome)
  && decide (([e,f]:List Expr).length+([]:List Keyword).length+(if ([]:List Keyword).isEmpty then 0 else 1)<30))=true
 line:(apos.endLine==cpos.line)=true
 trees:backTo cpos (starEach [e,f] X.env)=[(false,eval e X.env),(false,eval f X.env)]
section
variable {X:Cx}{ω:List (Gj×Obj)}{σ:St}{H:Hp}{s:Gh}{a:Gj}{y d:V}{u r:Gg}{o:Option V}{A:Around}{E:Gg->Gh->Prop}
end
section
variable {X:Cx}{o e f:Expr}{apos cpos:Pos}{td ty tx:TE}
end
section
variable {X:Cx}{ω:List (Gj×Obj)}{σ:St}{H:Hp}{s:Gh}{a:Gj}{kvs:List (gZ×V)}{A:Around}{E:Gg->Gh->Prop}
end
section
variable {X:Cx}{ω:List (Gj×Obj)}{σ:St}{H:Hp}{s:Gh}{a:Gj}{y:V}{u:Gg}{A:Around}{E:Gg->Gh->Prop}
end
section
variable {κ:Type}[DecidableEq κ]
end
end L2
set_option autoImplicit false
namespace T3
open PySem PySem.Spec
noncomputable instance decD:DecidableEq PyData:=λa b=>uh (a=b)
mutual
def fA:PyData->Nat->Bool
 | .none,_=>true
 | .int _,_=>true
 | .tuple _,0=>false
 | .tuple xs,n+1=>ij xs n
 | .bool _,_=>false
 | .str _,_=>false
 | .list _,_=>false
 | .dict _,_=>false
def ij:List PyData->Nat->Bool
 | [],_=>true
 | x::xs,n=>fA x n&&ij xs n
end
mutual
def nX:PyData->Int
 | .int i=>hashInt i
 | .tuple xs=>reduceHash (kN (ig xs))
 | _=>0xFCA86420
def ig:List PyData->List Int
 | []=>[]
 | x::xs=>nX x::ig xs
end
mutual
def oK:PyData->Nat
 | .tuple xs=>iG xs+1
 | _=>1
def iG:List PyData->Nat
 | []=>0
 | x::xs=>oK x+iG xs
end
mutual
theorem AD:∀ (d:PyData) (n:Nat),fA d n=true->d.canLay0=true/\d.depth<=n
 | .none,_,_=>⟨rfl,jX _⟩
 | .int _,_,_=>⟨rfl,jX _⟩
 | .tuple xs,0,h=>by simp[fA] at h
 | .tuple xs,n+1,h=>by
  rw[fA] at h;have:=Nv xs n h;exact⟨this.1,Nat.succ_le_succ this.2⟩
 | .bool _,_,h=>by simp[fA] at h
 | .str _,_,h=>by simp[fA] at h
 | .list _,_,h=>by simp[fA] at h
 | .dict _,_,h=>by simp[fA] at h
theorem Nv:∀ (xs:List PyData) (n:Nat),ij xs n=true->jE xs=true/\jF xs<=n
 | [],_,_=>⟨rfl,jX _⟩
 | x::xs,n,h=>by
  rw[ij,jo] at h;have a:=AD x n h.1;have b:=Nv xs n h.2;refine⟨?_,?_⟩
  .rw[jE,a.1,b.1];rfl
  .rw[jF];omega
end
mutual
theorem HJ:∀ (a b:PyData) (n m:Nat),fA a n=true->fA b m=true->jW a b=true->a=b
 | .none,.none,_,_,_,_,_=>rfl
 | .none,.int _,_,_,_,_,h=>by simp[jW] at h
 | .none,.tuple _,_,_,_,_,h=>by simp[jW] at h
 | .int _,.none,_,_,_,_,h=>by simp[jW] at h
 | .int i,.int j,_,_,_,_,h=>by simp only[jW] at h;rw[beq_iff_eq] at h;rw[h]
 | .int _,.tuple _,_,_,_,_,h=>by simp[jW] at h
 | .tuple _,.none,_,_,_,_,h=>by simp[jW] at h
 | .tuple _,.int _,_,_,_,_,h=>by simp[jW] at h
 | .tuple xs,.tuple ys,0,_,p,_,_=>by simp[fA] at p
 | .tuple xs,.tuple ys,_+1,0,_,q,_=>by simp[fA] at q
 | .tuple xs,.tuple ys,n+1,m+1,p,q,h=>by rw[jW] at h;rw[fA] at p q;rw[MQ xs ys n m p q h]
 | .bool _,_,_,_,p,_,_=>by simp[fA] at p
 | .str _,_,_,_,p,_,_=>by simp[fA] at p
 | .list _,_,_,_,p,_,_=>by simp[fA] at p
 | .dict _,_,_,_,p,_,_=>by simp[fA] at p
 | .none,.bool _,_,_,_,q,_=>by simp[fA] at q
 | .none,.str _,_,_,_,q,_=>by simp[fA] at q
 | .none,.list _,_,_,_,q,_=>by simp[fA] at q
 | .none,.dict _,_,_,_,q,_=>by simp[fA] at q
 | .int _,.bool _,_,_,_,q,_=>by simp[fA] at q
 | .int _,.str _,_,_,_,q,_=>by simp[fA] at q
 | .int _,.list _,_,_,_,q,_=>by simp[fA] at q
 | .int _,.dict _,_,_,_,q,_=>by simp[fA] at q
 | .tuple _,.bool _,_,_,_,q,_=>by simp[fA] at q
 | .tuple _,.str _,_,_,_,q,_=>by simp[fA] at q
 | .tuple _,.list _,_,_,_,q,_=>by simp[fA] at q
 | .tuple _,.dict _,_,_,_,q,_=>by simp[fA] at q
theorem MQ:∀ (xs ys:List PyData) (n m:Nat),ij xs n=true->ij ys m=true->ub xs ys=true->xs=ys
 | [],[],_,_,_,_,_=>rfl
 | [],_::_,_,_,_,_,h=>by simp[ub] at h
 | _::_,[],_,_,_,_,h=>by simp[ub] at h
 | x::xs,y::ys,n,m,p,q,h=>by
  rw[ub,jo] at h;rw[ij,jo] at p q;rw[HJ x y n m p.1 q.1 h.1,MQ xs ys n m p.2 q.2 h.2]
end
mutual
theorem NM {h h':Heap}{d0:Gj}{o:Obj}{es:Array DictEntry}{ep:Nat}(ho:h.get? d0=Ga o)(hd:o.data=.dict es ep)(hs:uO d0 h h'):∀ (d:PyData) (n:Nat) (v:Gg) (as:List Gj),fA d n=true->Reads h v d as->Reads h' v d as
 | .none,_,_,_,_,.none=>.none
 | .int _,_,_,_,_,.int i t=>.int i t
 | .tuple _,0,_,_,k,_=>by simp[fA] at k
 | .tuple xs,n+1,_,_,k,.tuple (a:=a) (o:=o') h1 h2 h3 h4=>by
  rw[fA] at k;have hne:a≠d0:=by
   rintro rfl;have:o'=o:=jy (h1.symm.trans ho);rw[this,hd] at h3;cases h3
  exact .tuple ((hs.2 a hne).trans h1) h2 h3 (Oq ho hd hs xs n _ _ k h4)
 | .bool _,_,_,_,k,_=>by simp[fA] at k
 | .str _,_,_,_,k,_=>by simp[fA] at k
 | .list _,_,_,_,k,_=>by simp[fA] at k
 | .dict _,_,_,_,k,_=>by simp[fA] at k
theorem Oq {h h':Heap}{d0:Gj}{o:Obj}{es:Array DictEntry}{ep:Nat}(ho:h.get? d0=Ga o)(hd:o.data=.dict es ep)(hs:uO d0 h h'):∀ (xs:List PyData) (n:Nat) (vs:List Gg) (as:List Gj),ij xs n=true->ReadsAll h vs xs as->ReadsAll h' vs xs as
 | [],_,_,_,_,.nil=>.nil
 | x::xs,n,_,_,k,.cons h1 h2=>by
  rw[ij,jo] at k;exact .cons (NM ho hd hs x n _ _ k.1 h1) (Oq ho hd hs xs n _ _ k.2 h2)
end
section
variable {prog:Program}{w:World}
theorem Uk {A:Around}{E:Gg->Gh->Prop}{s:Gh}{Q:Int->Gh->Prop}(h:Q 0xFCA86420 { s with toks:=s.toks+1 }):wpAny (model prog w) A (pyHash .none) Q E s:=by
 have hT:s.TypeIs .none "NoneType":=rfl;unfold pyHash;have hv:[kf].any Value.onHeap=false:=rfl;refine eN ?_;rw[cRoomFor,Gf (by rw[hv];exact jv)];refine eO (eN (wpAny_specialOf hT F.slot_NoneType_hash.lookup ?_));show wpAny _ _ (if (Ga (Value.builtin "NoneType.__hash__")==Ga kf)=true then _ else _) Q E s;rw[Gf (by rw[beq_builtin_none];exact jv)];refine eN (wpAny_specialOf hT F.slot_NoneType_hash.lookup ?_);show wpAny _ _ (callSpecialIfBoundUnlessNone? .none "__hash__" _ >>= _) Q E s;refine eN (wpAny_callSpecialIfBoundUnlessNone?_slot hT F.slot_NoneType_hash (wpAny_call_entry F.slot_NoneType_hash hT F.entry_NoneType_hash (show wpAny _ _ (do ret (<- mkInt 0xFCA86420)) _ _ s from wpAny_ret_mkInt ?_) (F.args_NoneType_hash_1 _)));show wpAny _ _ (if (decide (-(2:Int)^63<=0xFCA86420)&&decide ((0xFCA86420:Int)<2^63))=true then _ else _) Q E _;rw[Ge (by decide)];exact eO h
def tQ (prog:Program)(w:World)(d:PyData):Prop:=∀ (A:Around) (E:Gg->Gh->Prop) (s:Gh) (v:Gg) (as:List Gj) (Q:Int->Gh->Prop),A.units+d.depth<cLine->Reads s.heap v d as->Q (nX d) { s with toks:=s.toks+oK d }->wpAny (model prog w) A (pyHash v) Q E s
theorem LB:∀ (xs ys:List PyData),ig (xs++ys)=ig xs++ig ys
 | [],ys=>by rw[ig];rfl
 | x::xs,ys=>by rw[vN,ig,ig,LB xs ys];rfl
theorem NB:∀ (xs ys:List PyData),iG (xs++ys)=iG xs+iG ys
 | [],ys=>by rw[iG];exact(uq _).symm
 | x::xs,ys=>by rw[vN,iG,iG,NB xs ys,vW]
theorem NN:∀ {xs:List PyData} {x:PyData},x∈xs->x.depth<=jF xs
 | y::ys,x,h=>by
  rw[jF];rcases jx.mp h with rfl|h
  .omega
  .have:=NN h;omega
theorem WY {xs:List PyData}(IH:∀ x∈xs,tQ prog w x):tQ prog w (.tuple xs):=by
 intro A E s v as Q hu r q;cases r with
 | @tuple a o vs n' _ _ h1 h2 h3 h4 =>
  rw[nX,oK] at q;have hT:s.TypeIs (.ref a) "tuple":=⟨o,h1,h2⟩;have hu':A.units+(jF xs+1)<cLine:=hu;unfold pyHash;unfold pyHashByItsType;refine eN (wpAny_cRoomFor_or (.inr (by omega)) ?_);refine eN (wpAny_specialOf hT F.slot_tuple_hash.lookup ?_);show wpAny _ _ (if (Ga (Value.builtin "tuple.__hash__")==Ga kf)=true then _ else _) Q E s;rw[Gf (by rw[beq_builtin_none];exact jv)];refine eN (wpAny_specialOf hT F.slot_tuple_hash.lookup ?_);show wpAny _ _ (callSpecialIfBoundUnlessNone? (.ref a) "__hash__" _ >>= _) Q E s;refine eN (wpAny_callSpecialIfBoundUnlessNone?_slot hT F.slot_tuple_hash (wpAny_call_entry F.slot_tuple_hash hT F.entry_tuple_hash ?_ (F.args_tuple_hash_1 _)));show wpAny _ _ (qc (.ref a) >>= _) _ _ s;refine eN (wpAny_tupleItemsOf h1 h3 ?_);refine eN ?_;rw[<- Jq];refine wpAny_forIn_list _
   (λrest (b:Array Int) s'=>∃ dn lf bs,xs=dn++lf/\ReadsAll s.heap rest lf bs/\b.toList=ig dn/\s'={ s with toks:=s.toks+iG dn })
   _ ?_ ?_ _ _ ⟨[],xs,_,rfl,h4,rfl,rfl⟩
  .rintro x rest b s' ⟨dn,lf,bs,e,hl,hb,rfl⟩;cases hl with
   | @cons _ _ d ds as1 bs1 r1 r2 =>
    have hm:d∈xs:=by rw[e];exact jH _ jf
    have hd:=NN hm;refine eN (IH d hm A.in1 _ _ x as1 _ (by show A.units+1+d.depth<cLine;omega) r1 ?_);have z:∃ dn' lf' bs',xs=dn'++lf'/\ReadsAll s.heap rest lf' bs'/\(b.push (nX d)).toList=ig dn'/\({ s with toks:=s.toks+iG dn+oK d }:Gh)={ s with toks:=s.toks+iG dn' }:=by
     refine⟨dn++[d],ds,bs1,by rw[e,uX];rfl,r2,?_,?_⟩
     .rw[Array.toList_push,hb,LB];rw[ig,ig]
     .rw[NB,iG,iG,Nat.add_zero,vW]
    first
     | exact eO z
     | exact eN (eO (eO z))
  .rintro b s' ⟨dn,lf,bs,e,hl,hb,rfl⟩;cases hl;rw[j4] at e;subst e;show wpAny _ _ (retInt (kN b.toList)) _ _ _;rw[hb];refine wpAny_ret_mkInt ?_;show wpAny _ _ (if (decide (-(2:Int)^63<=kN (ig xs))&&decide (kN (ig xs)<2^63))=true then _ else _) Q E _;unfold reduceHash at q;by_cases hr:(decide (-(2:Int)^63<=kN (ig xs))&&decide (kN (ig xs)<2^63))=true
   .rw[Ge hr] at q ⊢;exact eO (by simpa [vW] using q)
   .rw[Gf hr] at q ⊢;exact eN (wpAny_rule (eO (by simpa [vW] using q)))
mutual
theorem KF:∀ (d:PyData) (n:Nat),fA d n=true->tQ prog w d
 | .none,_,_=>λA E s v as Q _ r q=>by cases r;exact Uk (by rw[nX,oK] at q;exact q;all_goals exact λ_ z=>by cases z)
 | .int i,_,_=>λA E s v as Q _ r q=>by cases r;exact wpAny_pyHash_int (by rw[nX,oK] at q;exact q;all_goals exact λ_ z=>by cases z)
 | .tuple _,0,k=>by simp[fA] at k
 | .tuple xs,n+1,k=>by rw[fA] at k;exact WY (MS xs n k)
 | .bool _,_,k=>by simp[fA] at k
 | .str _,_,k=>by simp[fA] at k
 | .list _,_,k=>by simp[fA] at k
 | .dict _,_,k=>by simp[fA] at k
theorem MS:∀ (xs:List PyData) (n:Nat),ij xs n=true->∀ x∈xs,tQ prog w x
 | [],_,_,x,h=>by cases h
 | y::ys,n,k,x,h=>by
  rw[ij,jo] at k;rcases jx.mp h with e|h
  .rw[e];exact KF y n k.1
  .exact MS ys n k.2 x h
end
def rM (prog:Program)(w:World)(n:Nat)(d:PyData):Prop:=∀ (A:Around) (E:Gg->Gh->Prop) (s:Gh) (v:Gg) (as:List Gj) (Q:Bool->Gh->Prop),Reads s.heap v d as->Q true s->wpAny (model prog w) A (eqIsQuiet n v) Q E s
theorem TF {xs:List PyData}{n:Nat}(IH:∀ x∈xs,rM prog w n x):rM prog w (n+1) (.tuple xs):=by
 intro A E s v as Q r q;cases r with
 | @tuple a o vs n' _ _ h1 h2 h3 h4 =>
  have hT:s.TypeIs (.ref a) "tuple":=⟨o,h1,h2⟩;unfold eqIsQuiet;refine eN (wpAny_specialOf hT F.slot_tuple_eq.lookup ?_);show wpAny _ _ (isInstance (.ref a) (.type "tuple") >>= _) _ _ s;refine eN (wpAny_isInstance hT isSubtype_tuple_tuple ?_);simp only[ql,kA,if_false];refine eN (wpAny_seqItems h1 h3 (eN ?_));show wpAny _ _ (forIn vs _ _) _ _ s;rw[<- Jq];refine wpAny_forIn_list _ (λrest r s'=>r.1=Gb/\s'=s/\∃ lf bs,ReadsAll s.heap rest lf bs/\∀ x∈lf,x∈xs) _ ?_ ?_ _ _ ⟨rfl,rfl,xs,_,h4,λ_ z=>z⟩
  .rintro x rest r s' ⟨hr,rfl,lf,bs,hl,hm⟩;cases hl with
   | @cons _ _ d ds as1 bs1 r1 r2 =>
    refine eN (IH d (hm d jf) _ _ _ x as1 _ r1 ?_);simp only[ql,kA,if_false];exact eO ⟨rfl,rfl,ds,bs1,r2,λy hy=>hm y (jj _ hy)⟩
  .rintro⟨b1,b2⟩ s' ⟨hr,rfl,_⟩;simp only at hr;subst hr;exact eO q
mutual
theorem MH:∀ (d:PyData) (n:Nat),fA d n=true->rM prog w n d
 | .none,n,_=>λA E s v as Q r q=>by cases r;rw[eqIsQuiet_byValue n rfl];exact eO q
 | .int i,n,_=>λA E s v as Q r q=>by cases r;rw[eqIsQuiet_byValue n rfl];exact eO q
 | .tuple _,0,k=>by simp[fA] at k
 | .tuple xs,n+1,k=>by rw[fA] at k;exact TF (LO xs n k)
 | .bool _,_,k=>by simp[fA] at k
 | .str _,_,k=>by simp[fA] at k
 | .list _,_,k=>by simp[fA] at k
 | .dict _,_,k=>by simp[fA] at k
theorem LO:∀ (xs:List PyData) (n:Nat),ij xs n=true->∀ x∈xs,rM prog w n x
 | [],_,_,x,h=>by cases h
 | y::ys,n,k,x,h=>by
  rw[ij,jo] at k;rcases jx.mp h with e|h
  .rw[e];exact MH y n k.1
  .exact LO ys n k.2 x h
end
noncomputable def oB (prog:Program)(w:World):HeapKind prog w PyData where
 is:=λh d a=>fA d 8=true/\∃ as,Reads h (.ref a) d as
 hash:=nX
 draws:=oK
 room:=λA=>A.units+20<cLine
 inj:=λ{h a x y} hx hy=>SeqAt.Reads.unique x y _ _ _ (AD x 8 hx.1).1 hx.2.choose_spec hy.2.choose_spec
 keeps:=λ{h h' k a d o es ep} x ho hd hs=>⟨x.1,_,NM ho hd hs k 8 _ _ x.1 x.2.choose_spec⟩
 pyHash:=λ{A E s k a Q} hu hk q=>KF k 8 hk.1 A E s _ _ Q (by have:=(AD k 8 hk.1).2;omega) hk.2.choose_spec q
 eqBool:=λ{A E s x y a b Q} hu hx hy q=>by
  have l1:=AD x 8 hx.1;have l2:=AD y 8 hy.1;refine SeqAt.eqAt_reads x y A s (.ref a) (.ref b) _ _ hx.2.choose_spec hy.2.choose_spec l1.1 l2.1 (by omega) prog w E Q ?_;have e:jW x y=decide (x=y):=by
   rw[jV,decide_eq_true_eq];exact⟨λz=>HJ x y 8 8 hx.1 hy.1 z,λz=>by rw[z];exact SeqAt.eqv_refl y l2.1⟩
  rw[e];exact q
 quiet:=λ{A E s k a Q} hk q=>MH k 8 hk.1 A E s _ _ Q hk.2.choose_spec q
end
section
variable {prog:Program}{w:World}{A:Around}{E:Gg->Gh->Prop}{s:Gh}
def mU (h:Heap)(d:Gj)(es:Array DictEntry)(ep:Nat):Prop:=∃ o,h.get? d=Ga o/\o.ExactDict/\o.data=.dict es ep
theorem mU.ty {d:Gj}{es:Array DictEntry}{ep:Nat}(x:mU s.heap d es ep):s.TypeIs (.ref d) "dict":=let ⟨o,ho,hc,_⟩:=x;⟨o,ho,hc.1⟩
theorem mU.kept {h h':Heap}{d:Gj}{es:Array DictEntry}{ep:Nat}(x:mU h d es ep)(k:∀ o,h.get? d=Ga o->h'.get? d=Ga o):mU h' d es ep:=let ⟨o,ho,r⟩:=x;⟨o,k _ ho,r⟩
theorem Yg {d:Gj}{es:Array DictEntry}{ep:Nat}{Q:Gg->Gh->Prop}(hd:(d==sysModules)=false)(hm:mU s.heap d es ep)
  (hQ:Q (.ref s.heap.objs.size) { s with heap:=s.heap.push { cls:=.type "dict_keyiterator",data:=.fields #[.ref d,.int 0 0,.int es.size 0,.int ep 0] } }):wpAny (model prog w) A (pyIter (.ref d)) Q E s:=by
 have hT:=hm.ty;obtain⟨o,ho,hc,hdat⟩:=hm;refine wpAny_pyIter_slot hT F.slot_dict_iter (wpAny_call_entry F.slot_dict_iter hT F.entry_dict_iter ?_ (F.args_dict_iter_1 _));unfold Builtin.«dict.__iter__» Builtin.Dict.dictSlotNone;refine eN (eN (wpAny_notOrdered_dict hT ?_));show wpAny _ _ (pure (kD d)) _ _ s;refine eO ?_;show wpAny _ _ (qP d >>= _) _ _ s;unfold qP;rw[Gf (by rw[hd];exact jv)];refine eN (eO (eN (wpAny_dictEntries ho hdat (eN (wpAny_dictEpoch ho hdat ?_)))));exact eN (wpAny_newObj_type (eO ⟨_,rfl,"dict_keyiterator",_,⟨_,jD _ rfl,rfl⟩,F.slot_dict_keyiterator_next.lookup,hQ⟩))
theorem TB {it d:Gj}{i ep:Nat}{es:Array DictEntry}{e:DictEntry}{Q:Option Gg->Gh->Prop}(hit:s.heap.IsKeyIter it d i es.size ep)(hm:mU s.heap d es ep)(hx:es[i]?=Ga e)
  (hQ:∀ h',h'.IsKeyIter it d (i+1) es.size ep->uO it s.heap h'->Q (Ga e.key) { s with heap:=h' }):wpAny (model prog w) A (pyNext (.ref it)) Q E s:=by
 obtain⟨o,ho,hc,hd⟩:=id hit;obtain⟨od,hod,hcd,hdd⟩:=id hm;unfold pyNext;refine eN (wpAny_attempt (wpAny_callSpecial?_slot (name:=u6 "__next__") hit.typeIs F.slot_dict_keyiterator_next (wpAny_call_entry F.slot_dict_keyiterator_next hit.typeIs F.entry_dict_keyiterator_next ?_ (F.args_dict_keyiterator_next_1 _))));refine eN (eO (eN (eN ?_)))
 first|refine eN (wpAny_typeNameOfWhole_keyiter hit.typeIs (eO ?_))|refine eN (wpAny_typeNameOf_keyiter hit.typeIs (eO ?_))
 refine eN (wpAny_fieldsOf ho hd ?_);simp only[show v0 "dict_keyiterator"=false by decide,kA,if_false];show wpAny _ _ (if (kD d==kf)=true then _ else _) _ _ s;rw[Gf (show ¬((kD d==kf)=true) from jv)];refine eN (eO (eN (wpAny_dictEntries hod hdd ?_)));rw[Gf (by simp)];refine eN (eO (eN (wpAny_dictEpoch hod hdd ?_)));rw[Gf (by simp)];refine eO ?_;simp only[show ¬((i:Int)<0) from by omega,if_false,jR,hx];refine eN ?_
 first|refine eN (wpAny_typeNameOfWhole_keyiter hit.typeIs (eO ?_))|refine eN (wpAny_typeNameOf_keyiter hit.typeIs (eO ?_))
 refine eN (wpAny_isOneOf_keyiter hit.typeIs ?_);show wpAny _ _ (setField (.ref it) 1 (rawInt ((i:Int)+1)) >>= _) _ _ s;refine eN (wpAny_setField ho hd (by simp) ?_);have hit':(s.heap.update it (Obj.mapFields (·.setIfInBounds 1 (rawInt ((i:Int)+1))))).IsKeyIter it d (i+1) es.size ep :=
  ⟨_,kF _ ho (Obj.isFreed_of_fields (Jr hd _)),(Obj.cls_mapFields ..).trans hc,by rw[Jr hd];simp[rawInt]⟩
 refine eN (wpAny_holding (eN (wpAny_isOneOf_keyiter (s:={ s with heap:=s.heap.update it (Obj.mapFields (·.setIfInBounds 1 (rawInt ((i:Int)+1)))) }) hit'.typeIs ?_)));show wpAny _ _ (pure e.key) _ _ _;exact eO (eO ⟨_,rfl,eO (hQ _ hit' (ki ..))⟩)
theorem TC {it d:Gj}{i ep:Nat}{es:Array DictEntry}{Q:Option Gg->Gh->Prop}(hh:A.handled=Gb)(hit:s.heap.IsKeyIter it d i es.size ep)(hm:mU s.heap d es ep)(hx:es.size<=i)
  (hQ:∀ h',Heap.ExtBut it s.heap h'->Q Gb { s with heap:=h' }):wpAny (model prog w) A (pyNext (.ref it)) Q E s:=by
 obtain⟨o,ho,hc,hd⟩:=id hit;obtain⟨od,hod,hcd,hdd⟩:=id hm;unfold pyNext;refine eN (wpAny_attempt (wpAny_callSpecial?_slot (name:=u6 "__next__") hit.typeIs F.slot_dict_keyiterator_next (wpAny_call_entry F.slot_dict_keyiterator_next hit.typeIs F.entry_dict_keyiterator_next ?_ (F.args_dict_keyiterator_next_1 _))));refine eN (eO (eN (eN ?_)))
 first|refine eN (wpAny_typeNameOfWhole_keyiter hit.typeIs (eO ?_))|refine eN (wpAny_typeNameOf_keyiter hit.typeIs (eO ?_))
 refine eN (wpAny_fieldsOf ho hd ?_);simp only[show v0 "dict_keyiterator"=false by decide,kA,if_false];show wpAny _ _ (if (kD d==kf)=true then _ else _) _ _ s;rw[Gf (show ¬((kD d==kf)=true) from jv)];refine eN (eO (eN (wpAny_dictEntries hod hdd ?_)));rw[Gf (by simp)];refine eN (eO (eN (wpAny_dictEpoch hod hdd ?_)));rw[Gf (by simp)];refine eO ?_;simp only[show ¬((i:Int)<0) from by omega,if_false,jR,Array.getElem?_eq_none hx];refine eN ?_
 first|refine eN (wpAny_typeNameOfWhole_keyiter hit.typeIs (eO ?_))|refine eN (wpAny_typeNameOf_keyiter hit.typeIs (eO ?_))
 show wpAny _ _ (setField (.ref it) 0 .none >>= _) _ _ s;refine eN (wpAny_setField ho hd (by simp) ?_);show wpAny _ _ (newExc (.type "StopIteration") [] >>= _) _ _ _;refine eN ?_;simp only[newExc,newTuple];refine eN (wpAny_newObj_type (eN (m:=firstArgMember _ _) (wpAny_of_eq (a:=kf) (by first|rfl|(simp only[firstArgMember];rfl)) (wpAny_newObj_type ?_ (by size_fits)))) (by size_fits));simp only[raiseNew];refine eN (wpAny_handled ?_);rw[show A.in1.handled=Gb from hh];refine eN (eO (wpAny_throw ?_));refine(eN (wpAny_isInstance (T:="StopIteration") (b:=true) ⟨_,jD _ rfl,rfl⟩ isSubtype_stop ?_));exact eO (hQ _ (((ki ..).extBut.push _).push _))
theorem zpK (hh:A.handled=Gb)(I d:Gj)(hne:d≠I)(es:Array DictEntry)(ep:Nat) :
  Walks prog w A I [I,d] [I] es.size (λi v=>∃ e,es[i]?=Ga e/\v=e.key) (λi h=>h.IsKeyIter I d i es.size ep/\mU h d es ep) where
 sub:=λb hb=>by simp at hb;simp[hb]
 frame:=λ_ _ _ st hk=>⟨st.1.at λo e=>hk I (by simp) o e,st.2.kept λo e=>hk d (by simp) o e⟩
 item:=λi s Q E hi st hQ=>by
  have hx:es[i]?=Ga es[i]:=Array.getElem?_eq_getElem hi;refine TB st.1 st.2 hx λh' hit' hs'=>?_;exact hQ _ h' s.toks ⟨_,hx,rfl⟩ ⟨hit',st.2.kept λo eo=>(hs'.2 d hne).trans eo⟩ λb o hb eo=>hs'.extBut b o (λh=>hb (by simp[h])) eo
 done:=λs Q E st hQ=>TC hh st.1 st.2 (jr _) λh' he'=>hQ h' s.toks λb o hb eo=>he' b o (λh=>hb (by simp[h])) eo
 self:=λ_ _ _ _ st hQ=>wpAny_pyIter_keyiter st.1 hQ
end
open PySem PySem.Spec PyProof.Rows L2
abbrev St:=L2.St
abbrev D:=PySem.PyData
def fV (H:Hp)(l:List Gg):Prop:=TriplesOk l/\∀ pos cv,codeAmong pos l=Ga cv->∃ c o vs,∃ v:Str×Tok,cv=.ref c/\H c=Ga (.frz o (.own c))/\o.data=.fields vs/\vs[1]?=Ga (.str v.1 v.2)
def Gr (H:Hp)(o:HO)(H':Hp)(x:Option HO):Prop:=match o with
 | .tbl ps=>∃ qs,x=Ga (.tbl qs)/\(fV H ps.toList->fV H' qs.toList)
 | o=>x=Ga o
theorem Gr.some {H H':Hp}{o:HO}{x:Option HO}(g:Gr H o H' x):∃ u,x=Ga u:=by
 cases o<;>first|exact⟨_,g⟩|exact⟨_,g.choose_spec.1⟩
theorem Gr.of {H H':Hp}{o:HO}{x:Option HO}(e:x=Option.some o)(g:∀ l,fV H l->fV H' l):Gr H o H' x:=by
 cases o<;>first|exact e|exact⟨_,e,g _⟩
theorem Gr.to {H H' H2:Hp}{o:HO}{x:Option HO}(a:Gr H o H' x)(g:∀ l,fV H' l->fV H2 l):Gr H o H2 x:=by
 cases o<;>first|exact a|exact⟨a.choose,a.choose_spec.1,λz=>g _ (a.choose_spec.2 z)⟩
def aG (H H':Hp):Prop:=∀ b o,H b=Ga o->Gr H o H' (H' b)
theorem aG.refl (H:Hp):aG H H:=λ_ _ h=>.of h λ_ z=>z
theorem aG.trans {H H1 H2:Hp}(a:aG H H1)(b:aG H1 H2):aG H H2:=λc o h=>by
 have g:=a c o h;cases o<;>first
  | exact b c _ g
  | (obtain⟨qs,e,k⟩:=g
     obtain⟨rs,e2,k2⟩:=b c _ e;exact⟨rs,e2,λz=>k2 (k z)⟩)
theorem aG.free {H H':Hp}(e:aG H H'){l:Gj}(h:H' l=qX):H l=qX:=by
 cases q:H l with
 | none=>rfl
 | some o =>
  obtain⟨u,z⟩:=(e l o q).some;rw[z] at h;cases h
theorem aG.seq {K:ja}{H H':Hp}{a:Gj}{xs:List V}(e:aG H H')(h:gp K H a xs):gp K H' a xs:=by
 rcases h with (h|⟨o,h⟩)|h
 .exact .inl (.inl (e _ _ h))
 .exact .inl (.inr ⟨o,e _ _ h⟩)
 .exact .inr h
theorem fV.updG {H:Hp}{a:Gj}{ob:HO}(m:∀ o u,H a≠Ga (.frz o u)){l:List Gg}(g:fV H l):fV (upd H a ob) l :=
 ⟨g.1,λpos cv e=>by
  obtain⟨c,o,vs,v,e1,e2,e3⟩:=g.2 pos cv e;exact⟨c,o,vs,v,e1,by rw[eQ (λz=>by subst z;exact m _ _ e2)];exact e2,e3⟩⟩
theorem fV.sub {H H':Hp}(m:∀ c o,H c=Ga o->H' c=Ga o){l:List Gg}(g:fV H l):fV H' l :=
 ⟨g.1,λpos cv e=>by
  obtain⟨c,o,vs,v,e1,e2,e3⟩:=g.2 pos cv e;exact⟨c,o,vs,v,e1,m _ _ e2,e3⟩⟩
theorem aG.of {H H':Hp}(m:∀ c o,H c=Ga o->H' c=Ga o):aG H H':=λb o h=>.of (m b o h) λ_ z=>z.sub m
theorem Gr.from {H H1 H':Hp}{o:HO}{x:Option HO}(a:Gr H o H' x)(g:∀ l,fV H1 l->fV H l):Gr H1 o H' x:=by
 cases o<;>first|exact a|exact⟨a.choose,a.choose_spec.1,λz=>a.choose_spec.2 (g _ z)⟩
theorem aG.put {H0 H:Hp}{a:Gj}{ob:HO}(s:aG H0 H)(n:H0 a=Gb)(m:∀ o u,H a≠Ga (.frz o u)):aG H0 (upd H a ob):=λb o h=>by
 rw[eQ (gQ h n)];exact(s b o h).to λ_=>fV.updG m
theorem aG.new {H:Hp}{a:Gj}{ob:HO}(n:H a=Gb):aG H (upd H a ob):=(aG.refl H).put n λo u z=>by rw[n] at z;cases z
def Ow:HO->Prop
 | .lst _=>True
 | .ext _=>True
 | _=>False
theorem aG.ow {H H':Hp}{a:Gj}{ob:HO}(s:aG H H')(h:H a=Ga ob)(o:Ow ob):H' a=Ga ob:=by
 have g:=s a ob h;cases ob<;>first|exact g|exact o.elim
theorem Ow.nf {H:Hp}{a:Gj}{ob:HO}(o:Ow ob)(h:H a=Ga ob):∀ x u,H a≠Ga (.frz x u):=λx u z=>by
 rw[h] at z;cases z;exact o
def Pl:HO->Prop
 | .lst _=>True
 | .tup _=>True
 | .ext _=>True
 | _=>False
theorem Ow.pl {ob:HO}(o:Ow ob):Pl ob:=by cases ob<;>first|exact o|trivial
theorem fV.un {F:Hp}{a:Gj}{ob:HO}(o:Pl ob){l:List Gg}(g:fV (upd F a ob) l):fV F l :=
 ⟨g.1,λpos cv e=>by
  obtain⟨c,x,vs,v,e1,e2,e3⟩:=g.2 pos cv e;have ne:c≠a:=λz=>by subst z;rw[eZ] at e2;cases e2;exact o
  rw[eQ ne] at e2;exact⟨c,x,vs,v,e1,e2,e3⟩⟩
theorem aG.upL {F H:Hp}{a:Gj}{ob:HO}(s:aG F H)(ha:H a=Ga ob)(p:Pl ob):aG (upd F a ob) H:=λb o h=>by
 by_cases hb:b=a
 .subst hb;rw[eZ] at h;cases h;cases ob<;>first|exact ha|exact p.elim
 .rw[eQ hb] at h;have g:=s b o h;cases o<;>first|exact g|exact⟨g.choose,g.choose_spec.1,λz=>g.choose_spec.2 (z.un p)⟩
theorem aG.up2 {F H:Hp}{a:Gj}{ob:HO}(s:aG F H)(nF:F a=Gb)(nH:H a=Gb)(p:Pl ob):aG (upd F a ob) (upd H a ob) :=
 (s.put nF λo u z=>by rw[nH] at z;cases z).upL eZ p
theorem Pl.nf {H:Hp}{a:Gj}{ob:HO}(o:Pl ob)(h:H a=Ga ob):∀ x u,H a≠Ga (.frz x u):=λx u z=>by
 rw[h] at z;cases z;exact o
theorem aG.pl {H H':Hp}{a:Gj}{ob:HO}(s:aG H H')(h:H a=Ga ob)(o:Pl ob):H' a=Ga ob:=by
 have g:=s a ob h;cases ob<;>first|exact g|exact o.elim
theorem aG.swp {H0 H:Hp}{a:Gj}{o o':HO}(s:aG (upd H0 a o) H)(p:Pl o)(p':Pl o'):aG (upd H0 a o') (upd H a o'):=λb u h=>by
 have ha:=s.pl eZ p;by_cases hb:b=a
 .subst hb;rw[eZ] at h;cases h;rw[eZ];cases o'<;>first|exact rfl|exact p'.elim
 .rw[eQ hb] at h ⊢;have g:=s b u (by rw[eQ hb];exact h);cases u<;>first
   | exact g
   | (obtain⟨qs,e,k⟩:=g
      refine⟨qs,e,λz=>(k ⟨z.1,λpos cv e=>?_⟩).updG (p.nf ha)⟩;obtain⟨c,x,vs,v,e1,e2,e3⟩:=z.2 pos cv e;have ne:c≠a:=λw=>by subst w;rw[eZ] at e2;cases e2;exact p'
      rw[eQ ne] at e2;exact⟨c,x,vs,v,e1,by rw[eQ ne];exact e2,e3⟩)
def Kl (a:Gj)(H H':Hp):Prop:=∀ b o,b≠a->H b=Ga o->Gr H o H' (H' b)
theorem aG.x {H H':Hp}(s:aG H H')(a:Gj):Kl a H H':=λb o _ h=>s b o h
def pE (ks:List D)(as:List Gj):List DictEntry:=(ks.zip as).map λp=>{ key:=.ref p.2,hash:=nX p.1,val:=.bool true }
def lW (a:Gj)(ks:List D)(as:List Gj)(ep:Nat):Heap->Prop:=λh=>∃ o es,h.get? a=Ga o/\o.ExactDict/\o.data=.dict es ep/\es.toList=pE ks as
structure oq (ks:List D):Prop where
 key:∀ k∈ks,fA k 8=true
 tup:∀ k∈ks,∃ xs,k=.tuple xs
 nd:ks.Nodup
 len:ks.length<=1000000
abbrev AO (ks:List D):D:=PyData.dict (ks.map λk=>(k,j3 true))
inductive mN:List (Int×V)->List DictEntry->Prop where
 | nil:mN [] []
 | cons {k:Int} {v:V} {e:DictEntry} {ws:List (Int×V)} {es:List DictEntry} (hk:qT k e.key=true) (hh:e.hash=hashInt k) (hv:fC v e.val) (t:mN ws es):mN ((k,v)::ws) (e::es)
def lN (a:Gj)(ws:List (Int×V))(ep:Nat):Heap->Prop:=λh=>∃ o es,h.get? a=Ga o/\o.ExactDict/\o.data=.dict es ep/\mN ws es.toList
structure xZ (kvs:List (Int×D)):Prop where
 nd:(kvs.map (·.1)).Nodup
 len:kvs.length<=1000000
def Xl (l:List (D×Gj×Gg)):List DictEntry:=l.map λx=>{ key:=.ref x.2.1,hash:=nX x.1,val:=x.2.2 }
inductive WV:List (D×Gj×V)->List (D×Gj×Gg)->Prop where
 | nil:WV [] []
 | cons {k:D} {b:Gj} {v:V} {u:Gg} {ws:List (D×Gj×V)} {l:List (D×Gj×Gg)} (r:fC v u) (t:WV ws l):WV ((k,b,v)::ws) ((k,b,u)::l)
def rj (a:Gj)(ws:List (D×Gj×V))(ep:Nat):Heap->Prop:=λh=>∃ o es l,h.get? a=Ga o/\o.ExactDict/\o.data=.dict es ep/\es.toList=Xl l/\WV ws l
structure zC (kvs:List (D×D)):Prop where
 key:∀ k∈kvs.map (·.1),fA k 8=true
 nd:(kvs.map (·.1)).Nodup
 len:kvs.length<=1000000
def Lb (kvs:List (Int×D)):D:=PyData.dict ((vX,vX)::kvs.map λp=>(jc p.1,p.2))
mutual
inductive fP (K:ja)(H:Hp):D->V->Prop where
 | non:fP K H .none .non
 | bl (b:Bool):fP K H (.bool b) (.bl b)
 | int (i:Int):fP K H (.int i) (.int i)
 | str (x:Str):fP K H (.str x) (.str x)
 | tup {a:Gj} {xs:List V} {ds:List D} (h:iQ K H a xs) (r:fg K H ds xs):fP K H (.tuple ds) (.ref a)
 | lst {a:Gj} {xs:List V} {ds:List D} (h:gp K H a xs) (r:fg K H ds xs):fP K H (.list ds) (.ref a)
 | dic {a:Gj} {ks:List D} {as:List Gj} {ep:Nat} (hs:(a==sysModules)=false) (h:H a=Ga (.ext (lW a ks as ep))) (ok:oq ks) (r:fg K H ks (as.map V.ref)):fP K H (.dict (ks.map λk=>(k,j3 true))) (.ref a)
 | dci {a:Gj} {kvs:List (Int×D)} {ws:List (Int×V)} {ep:Nat} (hs:(a==sysModules)=false) (h:H a=Ga (.ext (lN a ws ep))) (ok:xZ kvs) (r:gb K H kvs ws):fP K H (.dict ((vX,vX)::kvs.map λp=>(jc p.1,p.2))) (.ref a)
inductive fg (K:ja)(H:Hp):List D->List V->Prop where
 | nil:fg K H [] []
 | cons {d:D} {v:V} {ds:List D} {vs:List V} (h:fP K H d v) (t:fg K H ds vs):fg K H (d::ds) (v::vs)
inductive gb (K:ja)(H:Hp):List (Int×D)->List (Int×V)->Prop where
 | nil:gb K H [] []
 | cons {k:Int} {d:D} {v:V} {l:List (Int×D)} {m:List (Int×V)} (h:fP K H d v) (t:gb K H l m):gb K H ((k,d)::l) ((k,v)::m)
end
inductive lL (K:ja)(H:Hp):List (D×D)->List (D×Gj×V)->Prop where
 | nil:lL K H [] []
 | cons {k d:D} {b:Gj} {v:V} {l:List (D×D)} {m:List (D×Gj×V)} (hk:fP K H k (.ref b)) (h:fP K H d v) (t:lL K H l m):lL K H ((k,d)::l) ((k,b,v)::m)
theorem lE {K:ja}{H H':Hp}{a:Gj}{xs:List V}(e:aG H H')(h:iQ K H a xs):iQ K H' a xs:=by
 rcases h with (h|⟨o,h⟩)|h
 .exact .inl (.inl (e _ _ h))
 .exact .inl (.inr ⟨o,e _ _ h⟩)
 .exact .inr h
mutual
theorem fP.mono {K:ja}{H H':Hp}(e:aG H H'):∀ {d:D} {v:V},fP K H d v->fP K H' d v
 | _,_,.non=>.non
 | _,_,.bl b=>.bl b
 | _,_,.int i=>.int i
 | _,_,.str x=>.str x
 | _,_,.tup h r=>.tup (lE e h) (fg.mono e r)
 | _,_,.lst h r=>.lst (e.seq h) (fg.mono e r)
 | _,_,.dic hs h ok r=>.dic hs (e _ _ h) ok (fg.mono e r)
 | _,_,.dci hs h ok r=>.dci hs (e _ _ h) ok (gb.mono e r)
theorem fg.mono {K:ja}{H H':Hp}(e:aG H H'):∀ {ds:List D} {vs:List V},fg K H ds vs->fg K H' ds vs
 | _,_,.nil=>.nil
 | _,_,.cons h t=>.cons (fP.mono e h) (fg.mono e t)
theorem gb.mono {K:ja}{H H':Hp}(e:aG H H'):∀ {l:List (Int×D)} {m:List (Int×V)},gb K H l m->gb K H' l m
 | _,_,.nil=>.nil
 | _,_,.cons h t=>.cons (fP.mono e h) (gb.mono e t)
end
theorem lL.mono {K:ja}{H H':Hp}(e:aG H H'):∀ {l:List (D×D)} {m:List (D×Gj×V)},lL K H l m->lL K H' l m
 | _,_,.nil=>.nil
 | _,_,.cons k h t=>.cons (k.mono e) (h.mono e) (t.mono e)
theorem fg.length {K:ja}{H:Hp}:∀ {ds:List D} {vs:List V},fg K H ds vs->ds.length=vs.length
 | _,_,.nil=>rfl
 | _,_,.cons _ t=>congrArg uv t.length
theorem fg.get {K:ja}{H:Hp}:∀ {ds:List D} {vs:List V} {i:Nat} {d:D},fg K H ds vs->ds[i]?=Ga d->∃ v,vs[i]?=Ga v/\fP K H d v
 | _,_,_,_,.nil,e=>by simp at e
 | _,_,0,_,.cons h _,e=>by simp at e;subst e;exact⟨_,rfl,h⟩
 | _,_,i+1,d,.cons _ t,e=>by
  obtain⟨v,h1,h2⟩:=fg.get (i:=i) (d:=d) t (by simpa using e);exact⟨v,by simpa using h1,h2⟩
theorem fg.append {K:ja}{H:Hp}:∀ {ds es:List D} {vs ws:List V},fg K H ds vs->fg K H es ws->fg K H (ds++es) (vs++ws)
 | _,_,_,_,.nil,q=>q
 | _,_,_,_,.cons h t,q=>.cons h (t.append q)
theorem fg.take {K:ja}{H:Hp}:∀ {ds:List D} {vs:List V} (n:Nat),fg K H ds vs->fg K H (ds.take n) (vs.take n)
 | _,_,0,_=>.nil
 | _,_,_+1,.nil=>.nil
 | _,_,n+1,.cons h t=>.cons h (t.take n)
theorem fg.drop {K:ja}{H:Hp}:∀ {ds:List D} {vs:List V} (n:Nat),fg K H ds vs->fg K H (ds.drop n) (vs.drop n)
 | _,_,0,r=>r
 | _,_,_+1,.nil=>.nil
 | _,_,n+1,.cons _ t=>t.drop n
theorem fg.set {K:ja}{H:Hp}{d:D}{v:V}(q:fP K H d v):∀ {ds:List D} {vs:List V} (i:Nat),fg K H ds vs->fg K H (ds.set i d) (vs.set i v)
 | _,_,_,.nil=>.nil
 | _,_,0,.cons _ t=>.cons q t
 | _,_,i+1,.cons h t=>.cons h (t.set q i)
theorem fg.reverse {K:ja}{H:Hp}:∀ {ds:List D} {vs:List V},fg K H ds vs->fg K H ds.reverse vs.reverse
 | _,_,.nil=>.nil
 | _,_,.cons h t=>by
  rw[vH,vH];exact t.reverse.append (.cons h .nil)
theorem fg.ints {K:ja}{H:Hp}:∀ (ns:List Int),fg K H (ns.map jc) (ns.map V.int)
 | []=>.nil
 | n::ns=>.cons (.int n) (fg.ints ns)
def Fz (H H':Hp):Prop:=∀ b x,H b=Ga (.frz x (.own b))->H' b=Ga (.frz x (.own b))
theorem aG.fz {H H':Hp}(s:aG H H'):Fz H H':=λ_ _ h=>s _ _ h
theorem Fz.upd {H:Hp}{a:Gj}{ob:HO}(m:∀ o u,H a≠Ga (.frz o u)):Fz H (upd H a ob):=λb x h=>by
 rw[eQ (λz=>by subst z;exact m _ _ h)];exact h
structure gD where
 C:Gj->Hp->Hp->Prop
 mono:∀ f F F' H H',aG F F'->Fz H H'->C f F H->C f F' H'
inductive Sl where
 | no|val (d:D)|own (ds:List D)|dic (ks:List D)|dki (oa:Option Gj) (kvs:List (Int×D))|tab (P:Gj)|fn (c:gD)|owk (a:Gj) (ds:List D)|dkt (kvs:List (D×D))
 deriving Inhabited
abbrev En:=List Sl
def gJ:Sl->Bool
 | .own _=>true
 | .dic _=>true
 | .dki _ _=>true
 | .owk _ _=>true
 | .dkt _=>true
 | _=>false
def fR (F F' H:Hp):Prop:=∀ b o,F' b=Ga o->F b=Gb->H b=Gb
theorem fR.refl (F H:Hp):fR F F H:=λb o e n=>by rw[e] at n;cases n
theorem fR.trans {F F1 F2 H H1:Hp}(a:fR F F1 H)(b:fR F1 F2 H1)(s:aG H H1):fR F F2 H:=λc o e n=>by
 cases q:F1 c with
 | none=>exact s.free (b c o e q)
 | some u=>exact a c u q n
def mj (K:ja)(H0 F H:Hp):Sl->Option V->Prop
 | .no,_=>True
 | .val d,u=>∃ v,u=Ga v/\fP K F d v
 | .own ds,u=>∃ a xs,u=Ga (.ref a)/\H a=Ga (.lst xs)/\F a=Gb/\H0 a=Gb/\fg K F ds xs
 | .dic ks,u=>∃ a as ep,u=Ga (.ref a)/\H a=Ga (.ext (lW a ks as ep))/\F a=Gb/\H0 a=Gb/\fg K F ks (as.map V.ref)/\(a==sysModules)=false/\oq ks
 | .dki oa kvs,u=>∃ a ws ep,u=Ga (.ref a)/\H a=Ga (.ext (lN a ws ep))/\F a=Gb/\H0 a=Gb/\gb K F kvs ws/\(a==sysModules)=false/\xZ kvs/\∀ x,oa=Ga x->a=x
 | .tab P,_=>∃ ps,H0 P=Ga (.tbl ps)/\fV H0 ps.toList
 | .fn c,u=>∃ f,u=Ga (.ref f)/\c.C f F H
 | .dkt kvs,u=>∃ a ws ep,u=Ga (.ref a)/\H a=Ga (.ext (rj a ws ep))/\F a=Gb/\H0 a=Gb/\lL K F kvs ws/\(a==sysModules)=false/\zC kvs
 | .owk a ds,u=>∃ xs,u=Ga (.ref a)/\H a=Ga (.lst xs)/\F a=Gb/\H0 a=Gb/\fg K F ds xs
structure RS (K:ja)(H0 F H:Hp)(ψ:En)(σ:St):Prop where
 h0:aG H0 H
 fh:aG F H
 sl:∀ (i:Nat) (s:Sl),ψ[i]?=Ga s->∃ u,σ[i]?=Ga u/\mj K H0 F H s u
 ap:∀ (i j:Nat) (a:Gj) (s t:Sl),gJ s=true->gJ t=true->ψ[i]?=Ga s->ψ[j]?=Ga t->σ[i]?=Ga (Ga (.ref a))->σ[j]?=Ga (Ga (.ref a))->i=j
section
variable {K:ja}{H0 F F' H H':Hp}{ψ:En}{σ:St}
theorem mj.at {s:Sl}{u:Option V}(r:mj K H0 F H s u)(o:gJ s=true):∃ a ob,u=Ga (.ref a)/\H a=Ga ob/\F a=Gb/\H0 a=Gb/\Ow ob:=by
 cases s with
 | no=>cases o
 | val d=>cases o
 | own ds=>obtain⟨a,xs,e,h,f,g,_⟩:=r;exact⟨a,_,e,h,f,g,trivial⟩
 | dic ks=>obtain⟨a,as,ep,e,h,f,g,_⟩:=r;exact⟨a,_,e,h,f,g,trivial⟩
 | dki oa kvs=>obtain⟨a,ws,ep,e,h,f,g,_⟩:=r;exact⟨a,_,e,h,f,g,trivial⟩
 | tab P=>cases o
 | fn c=>cases o
 | owk a ds=>obtain⟨xs,e,h,f,g,_⟩:=r;exact⟨a,_,e,h,f,g,trivial⟩
 | dkt kvs=>obtain⟨a,ws,ep,e,h,f,g,_⟩:=r;exact⟨a,_,e,h,f,g,trivial⟩
theorem mj.to {s:Sl}{u:Option V}(r:mj K H0 F H s u)(f:aG F F')(zz:Fz H H')(k:∀ a ob,gJ s=true->u=Ga (.ref a)->H a=Ga ob->F a=Gb->Ow ob->H' a=Ga ob/\F' a=Gb):mj K H0 F' H' s u:=by
 cases s with
 | no=>trivial
 | val d=>obtain⟨v,e2,q⟩:=r;exact⟨v,e2,q.mono f⟩
 | own ds =>
  obtain⟨a,xs,e2,ha,fa,h0a,q⟩:=r;obtain⟨k1,k2⟩:=k a _ rfl e2 ha fa trivial;exact⟨a,xs,e2,k1,k2,h0a,q.mono f⟩
 | dic ks =>
  obtain⟨a,as,ep,e2,ha,fa,h0a,q,r2⟩:=r;obtain⟨k1,k2⟩:=k a _ rfl e2 ha fa trivial;exact⟨a,as,ep,e2,k1,k2,h0a,q.mono f,r2⟩
 | dki oa kvs =>
  obtain⟨a,ws,ep,e2,ha,fa,h0a,q,r2⟩:=r;obtain⟨k1,k2⟩:=k a _ rfl e2 ha fa trivial;exact⟨a,ws,ep,e2,k1,k2,h0a,q.mono f,r2⟩
 | tab P=>exact r
 | fn c=>obtain⟨g,e,q⟩:=r;exact⟨g,e,c.mono _ _ _ _ _ f zz q⟩
 | dkt kvs =>
  obtain⟨a,ws,ep,e2,ha,fa,h0a,q,r2⟩:=r;obtain⟨k1,k2⟩:=k a _ rfl e2 ha fa trivial;exact⟨a,ws,ep,e2,k1,k2,h0a,q.mono f,r2⟩
 | owk a ds =>
  obtain⟨xs,e2,ha,fa,h0a,q⟩:=r;obtain⟨k1,k2⟩:=k a _ rfl e2 ha fa trivial;exact⟨xs,e2,k1,k2,h0a,q.mono f⟩
theorem RS.ne_free (r:RS K H0 F H ψ σ){a:Gj}(n:H a=Gb):∀ (j:Nat) (s:Sl),gJ s=true->ψ[j]?=Ga s->σ[j]?≠Ga (Ga (.ref a)):=λj s o e z=>by
 obtain⟨u,e1,q⟩:=r.sl j s e;obtain⟨b,ob,e2,hb,_⟩:=q.at o;rw[z] at e1;cases e1;cases e2;rw[n] at hb;cases hb
theorem RS.grow (r:RS K H0 F H ψ σ)(g:aG H H')(f:aG F F')(fh:aG F' H')(n:fR F F' H):RS K H0 F' H' ψ σ:=by
 refine⟨r.h0.trans g,fh,λi s e=>?_,r.ap⟩;obtain⟨u,e1,q⟩:=r.sl i s e;refine⟨u,e1,q.to f g.fz λa ob _ _ ha fa ow=>⟨g.ow ha ow,?_⟩⟩;cases z:F' a with
 | none=>rfl
 | some o=>have:=n a o z fa;rw[ha] at this;cases this
theorem RS.later (r:RS K H0 F H ψ σ)(g:aG H H'):RS K H0 F H' ψ σ:=r.grow g (.refl _) (r.fh.trans g) (.refl _ _)
theorem RS.put (r:RS K H0 F H ψ σ){i:Nat}{d:D}{v:V}(hi:i<σ.length)(q:fP K F d v):RS K H0 F H (ψ.set i (.val d)) (σ.set i (Ga v)):=by
 refine⟨r.h0,r.fh,λj s e=>?_,λj k a s t o1 o2 e1 e2 e3 e4=>?_⟩
 .by_cases h:i=j
  .subst h;refine⟨Ga v,by rw[jN hi],?_⟩;by_cases hl:i<ψ.length
   .rw[jN hl] at e;cases e;exact⟨v,rfl,q⟩
   .rw[kq (by simpa using hl)] at e;cases e
  .rw[jI h] at e ⊢;exact r.sl j s e
 .have nj:∀ (j:Nat) (s:Sl),gJ s=true->(ψ.set i (.val d))[j]?=Ga s->i≠j:=λj s o e z=>by
   subst z;by_cases hl:i<ψ.length
   .rw[jN hl] at e;cases e;cases o
   .rw[kq (by simpa using hl)] at e;cases e
  have n1:=nj j s o1 e1;have n2:=nj k t o2 e2;rw[jI n1] at e1 e3;rw[jI n2] at e2 e4;exact r.ap j k a s t o1 o2 e1 e2 e3 e4
theorem RS.putG (r:RS K H0 F H ψ σ){i:Nat}{s0:Sl}{a:Gj}(hi:i<σ.length)(q:mj K H0 F H s0 (Ga (.ref a)))
  (ne:∀ (j:Nat) (s:Sl),gJ s=true->j≠i->ψ[j]?=Ga s->σ[j]?≠Ga (Ga (.ref a))):RS K H0 F H (ψ.set i s0) (σ.set i (Ga (.ref a))):=by
 refine⟨r.h0,r.fh,λj s e=>?_,λj k b s t o1 o2 e1 e2 e3 e4=>?_⟩
 .by_cases h:i=j
  .subst h;refine⟨Ga (.ref a),by rw[jN hi],?_⟩;by_cases hl:i<ψ.length
   .rw[jN hl] at e;cases e;exact q
   .rw[kq (by simpa using hl)] at e;cases e
  .rw[jI h] at e ⊢;exact r.sl j s e
 .by_cases hj:i=j
  .by_cases hk:i=k
   .exact hj.symm.trans hk
   .subst hj;rw[jN hi] at e3;rw[jI hk] at e2 e4;cases e3;exact absurd e4 (ne k t o2 (kT hk) e2)
  .by_cases hk:i=k
   .subst hk;rw[jN hi] at e4;rw[jI hj] at e1 e3;cases e4;exact absurd e3 (ne j s o1 (kT hj) e1)
   .rw[jI hj] at e1 e3;rw[jI hk] at e2 e4;exact r.ap j k b s t o1 o2 e1 e2 e3 e4
theorem RS.putO (r:RS K H0 F H ψ σ){i:Nat}{ds:List D}{a:Gj}{xs:List V}(hi:i<σ.length)(ha:H a=Ga (.lst xs))(fa:F a=Gb)(h0a:H0 a=Gb)(q:fg K F ds xs)
  (ne:∀ (j:Nat) (s:Sl),gJ s=true->j≠i->ψ[j]?=Ga s->σ[j]?≠Ga (Ga (.ref a))):RS K H0 F H (ψ.set i (.own ds)) (σ.set i (Ga (.ref a))) :=
 r.putG hi ⟨a,xs,rfl,ha,fa,h0a,q⟩ ne
theorem RS.chgG (r:RS K H0 F H ψ σ){i:Nat}{s0 s1:Sl}{a:Gj}{ob:HO}(e:ψ[i]?=Ga s0)(o0:gJ s0=true)(u:σ[i]?=Ga (Ga (.ref a)))(q:mj K H0 F (upd H a ob) s1 (Ga (.ref a))) :
  RS K H0 F (upd H a ob) (ψ.set i s1) σ:=by
 obtain⟨u',e',q'⟩:=r.sl i _ e;obtain⟨a',ob',z,ha,fa,h0a,ow0⟩:=q'.at o0;rw[u] at e';cases e';cases z;have hl:i<ψ.length:=(ji.mp e).1;refine⟨r.h0.put h0a (ow0.nf ha),r.fh.put fa (ow0.nf ha),λj s ej=>?_,λj k b s t o1 o2 e1 e2 e3 e4=>?_⟩
 .by_cases h:i=j
  .subst h;rw[jN hl] at ej;cases ej;exact⟨_,u,q⟩
  .rw[jI h] at ej;obtain⟨w,e2,q2⟩:=r.sl j s ej;refine⟨w,e2,q2.to (.refl _) (Fz.upd (ow0.nf ha)) λb ob2 ow z1 hb fb _=>⟨?_,fb⟩⟩;subst z1;rw[eQ (λz=>by subst z;exact h (r.ap i j b _ _ o0 ow e ej u e2))];exact hb
 .have f1:∀ (j:Nat) (s:Sl),gJ s=true->(ψ.set i s1)[j]?=Ga s->∃ s',gJ s'=true/\ψ[j]?=Ga s':=λj s o h=>by
   by_cases hj:i=j
   .subst hj;exact⟨_,o0,e⟩
   .rw[jI hj] at h;exact⟨_,o,h⟩
  obtain⟨_,o1,e1⟩:=f1 j _ o1 e1;obtain⟨_,o2,e2⟩:=f1 k _ o2 e2;exact r.ap j k b _ _ o1 o2 e1 e2 e3 e4
theorem RS.chg (r:RS K H0 F H ψ σ){i:Nat}{ds es:List D}{a:Gj}{ys:List V}(e:ψ[i]?=Ga (.own ds))(u:σ[i]?=Ga (Ga (.ref a)))(q:fg K F es ys) :
  RS K H0 F (upd H a (.lst ys)) (ψ.set i (.own es)) σ:=by
 obtain⟨u',e',a',xs,z,ha,fa,h0a,_⟩:=r.sl i _ e;rw[u] at e';cases e';cases z;exact r.chgG e rfl u ⟨a,ys,rfl,eZ,fa,h0a,q⟩
end
def sE:Sl->Sl
 | .own ds=>.val (.list ds)
 | .dic ks=>.val (AO ks)
 | .dki _ kvs=>.val (Lb kvs)
 | .owk _ ds=>.val (.list ds)
 | .dkt _=>.no
 | s=>s
theorem VG (s:Sl):gJ (sE s)=false:=by cases s<;>rfl
def frz (ψ:En):En:=ψ.map sE
theorem RS.frz {K:ja}{H0 F H:Hp}{ψ:En}{σ:St}(r:RS K H0 F H ψ σ):RS K H0 H H (T3.frz ψ) σ:=by
 refine⟨r.h0,.refl _,λi s e=>?_,λi j a s t o1 o2 e1=>?_⟩
 .unfold T3.frz at e;rw[jw] at e;cases z:ψ[i]? with
  | none=>rw[z] at e;cases e
  | some s' =>
   rw[z] at e;obtain⟨u,e1,q⟩:=r.sl i s' z;refine⟨u,e1,?_⟩;cases s' with
   | no=>cases e;trivial
   | val d=>cases e;obtain⟨v,e2,q⟩:=q;exact⟨v,e2,q.mono r.fh⟩
   | own ds =>
    cases e;obtain⟨a,xs,e2,ha,fa,h0a,q⟩:=q;exact⟨_,e2,.lst (gp.of ha) (q.mono r.fh)⟩
   | dic ks =>
    cases e;obtain⟨a,as,ep,e2,ha,fa,h0a,q,sm,ok⟩:=q;exact⟨_,e2,.dic sm ha ok (q.mono r.fh)⟩
   | dki oa kvs =>
    cases e;obtain⟨a,ws,ep,e2,ha,fa,h0a,q,sm,ok,_⟩:=q;exact⟨_,e2,.dci sm ha ok (q.mono r.fh)⟩
   | tab P=>cases e;exact q
   | fn c=>cases e;obtain⟨g,e2,q⟩:=q;exact⟨g,e2,c.mono _ _ _ _ _ r.fh (λ_ _ h=>h) q⟩
   | dkt kvs=>cases e;trivial
   | owk a ds =>
    cases e;obtain⟨xs,e2,ha,fa,h0a,q⟩:=q;exact⟨_,e2,.lst (gp.of ha) (q.mono r.fh)⟩
 .exfalso;unfold T3.frz at e1;rw[jw] at e1;cases z:ψ[i]? with
  | none=>rw[z] at e1;cases e1
  | some s'=>rw[z] at e1;cases e1;rw[VG] at o1;cases o1
def frzAt (i:Nat)(ψ:En):En:=match ψ[i]? with
 | some (.own ds)=>ψ.set i (.val (.list ds))
 | some (.dic ks)=>ψ.set i (.val (AO ks))
 | some (.dki _ kvs)=>ψ.set i (.val (Lb kvs))
 | _=>ψ
theorem RS.frzG {K:ja}{H0 F H:Hp}{ψ:En}{σ:St}(r:RS K H0 F H ψ σ){i:Nat}{s0 s1:Sl}{a:Gj}{ob:HO}(os:gJ s1=false)(e:ψ[i]?=Ga s0)(o0:gJ s0=true)(e1:σ[i]?=Ga (Ga (.ref a)))(ha:H a=Ga ob)(ow0:Ow ob)(fa:F a=Gb)(h0a:H0 a=Gb)
  (q:∀ F',aG F F'->F' a=Ga ob->mj K H0 F' H s1 (Ga (.ref a))):F a=Gb/\H a=Ga ob/\Ow ob/\aG F (upd F a ob)/\fR F (upd F a ob) H0/\RS K H0 (upd F a ob) H (ψ.set i s1) σ:=by
 have hi:i<σ.length:=(ji.mp e1).1;have hl:i<ψ.length:=(ji.mp e).1;have sF:aG F (upd F a ob):=aG.new fa;refine⟨fa,ha,ow0,sF,λb o h n=>?_,⟨r.h0,λb o h=>?_,λj s ej=>?_,λj k b s t o1 o2 x1 x2 x3 x4=>?_⟩⟩
 .by_cases hb:b=a
  .subst hb;exact h0a
  .rw[eQ hb,n] at h;cases h
 .by_cases hb:b=a
  .subst hb;rw[eZ] at h;cases h;cases ob<;>first|exact ha|exact ow0.elim
  .rw[eQ hb] at h;have g:=r.fh b o h;cases o<;>first|exact g|exact⟨g.choose,g.choose_spec.1,λz=>g.choose_spec.2 (z.un ow0.pl)⟩
 .by_cases h:i=j
  .subst h;rw[jN hl] at ej;cases ej;exact⟨_,e1,q _ sF eZ⟩
  .rw[jI h] at ej;obtain⟨w,z1,q2⟩:=r.sl j s ej;refine⟨w,z1,q2.to sF (λ_ _ h=>h) λb ob2 ow z2 hb fb _=>⟨hb,?_⟩⟩;subst z2;rw[eQ (λz=>by subst z;exact h (r.ap i j b _ _ o0 ow e ej e1 z1))];exact fb
 .have f1:∀ (j:Nat) (s:Sl),gJ s=true->(ψ.set i s1)[j]?=Ga s->ψ[j]?=Ga s:=λj s o h=>by
   by_cases hj:i=j
   .subst hj;rw[jN hl] at h;cases h;rw[os] at o;cases o
   .rw[jI hj] at h;exact h
  exact r.ap j k b _ _ o1 o2 (f1 j _ o1 x1) (f1 k _ o2 x2) x3 x4
theorem RS.frzAt2 {K:ja}{H0 F H:Hp}{ψ:En}{σ:St}(r:RS K H0 F H ψ σ)(i:Nat):T3.frzAt i ψ=ψ\/∃ a ob,F a=Gb/\H a=Ga ob/\Ow ob/\aG F (upd F a ob)/\fR F (upd F a ob) H0/\RS K H0 (upd F a ob) H (T3.frzAt i ψ) σ:=by
 unfold T3.frzAt;split
 .rename_i ds e;obtain⟨u,e1,a,xs,e2,ha,fa,h0a,q⟩:=r.sl i _ e;subst e2;exact .inr ⟨_,_,r.frzG rfl e rfl e1 ha trivial fa h0a λF' f h=>⟨_,rfl,.lst (gp.of h) (q.mono f)⟩⟩
 .rename_i ks e;obtain⟨u,e1,a,as,ep,e2,ha,fa,h0a,q,sm,ok⟩:=r.sl i _ e;subst e2;exact .inr ⟨_,_,r.frzG rfl e rfl e1 ha trivial fa h0a λF' f h=>⟨_,rfl,.dic sm h ok (q.mono f)⟩⟩
 .rename_i oa kvs e;obtain⟨u,e1,a,ws,ep,e2,ha,fa,h0a,q,sm,ok,_⟩:=r.sl i _ e;subst e2;exact .inr ⟨_,_,r.frzG rfl e rfl e1 ha trivial fa h0a λF' f h=>⟨_,rfl,.dci sm h ok (q.mono f)⟩⟩
 .exact .inl rfl
theorem RS.frzAt {K:ja}{H0 F H:Hp}{ψ:En}{σ:St}(r:RS K H0 F H ψ σ)(i:Nat):∃ F',aG F F'/\fR F F' H0/\RS K H0 F' H (T3.frzAt i ψ) σ:=by
 rcases r.frzAt2 i with e|⟨a,ob,_,_,_,f,n,q⟩
 .rw[e];exact⟨F,.refl _,.refl _ _,r⟩
 .exact⟨_,f,n,q⟩
abbrev FV:=En->Option D
abbrev FL:=En->Option (List D)
abbrev FB:=En->Option Bool
def tV (K:ja)(f:FV):TE:=λσ H Q=>∃ H0 F ψ d,RS K H0 F H ψ σ/\f ψ=Ga d/\∀ v H' F',aG H H'->aG F F'->aG F' H'->fR F F' H->fP K F' d v->Q v H'
def tO (K:ja)(f:FL):TE:=λσ H Q=>∃ H0 F ψ ds,RS K H0 F H ψ σ/\f ψ=Ga ds /\
 ∀ a xs H' F',aG H H'->aG F F'->aG F' H'->fR F F' H->H a=Gb->F' a=Gb->H' a=Ga (.lst xs)->fg K F' ds xs->Q (.ref a) H'
def tT (K:ja)(f:FB):TT:=λσ H Q=>∃ H0 F ψ b,RS K H0 F H ψ σ/\f ψ=Ga b/\∀ H',aG H H'->Q b H'
def tL (K:ja)(f:FL):TA:=λσ H Q=>∃ H0 F ψ ds,RS K H0 F H ψ σ/\f ψ=Ga ds/\∀ vs H' F',aG H H'->aG F F'->aG F' H'->fR F F' H->fg K F' ds vs->Q vs H'
abbrev PV (X:Cx)(e:Expr)(f:FV):Prop:=PE X e (tV X.K f)
abbrev PO (X:Cx)(e:Expr)(f:FL):Prop:=PE X e (tO X.K f)
abbrev PB (X:Cx)(e:Expr)(f:FB):Prop:=PT X e (tT X.K f)
abbrev nV (X:Cx)(e:Expr)(f:FB):Prop:=PW X e (tT X.K f)
structure PL (X:Cx)(es:List Expr)(f:FL):Prop where
 pa:PA X es (tL X.K f)
 len:∀ ψ ds,f ψ=Ga ds->ds.length=es.length
theorem gX {X:Cx}{e:Expr}{t t':TE}(h:PE X e t)(m:∀ σ H Q,t' σ H Q->t σ H Q):PE X e t':=λω s σ H Q I q=>h ω s σ H Q I (m σ H Q q)
theorem Il {X:Cx}{e:Expr}{t t':TT}(h:PT X e t)(m:∀ σ H Q,t' σ H Q->t σ H Q):PT X e t':=λω s σ H Q I q=>h ω s σ H Q I (m σ H Q q)
theorem NQ {X:Cx}{e:Expr}{t t':TT}(h:PW X e t)(m:∀ σ H Q,t' σ H Q->t σ H Q):PW X e t':=λwh ω s σ H Q I q=>h wh ω s σ H Q I (m σ H Q q)
theorem rG {X:Cx}{e:List Expr}{t t':TA}(h:PA X e t)(m:∀ σ H Q,t' σ H Q->t σ H Q):PA X e t':=λp ω s σ H Q I q=>h p ω s σ H Q I (m σ H Q q)
theorem ML {X:Cx}{e:List Stmt}{t t':TS}(h:nQ X e t)(m:∀ D σ H,t' D σ H->t D σ H):nQ X e t':=λω s σ H D I q=>h ω s σ H D I (m D σ H q)
theorem oF {X:Cx}{e:Stmt}{t t':TS}(h:PS X e t)(m:∀ D σ H,t' D σ H->t D σ H):PS X e t':=λω s σ H D I q=>h ω s σ H D I (m D σ H q)
theorem aj {α β:Type}{o:Option α}{f:α->Option β}{b:β}(h:o.bind f=Ga b):∃ a,o=Ga a/\f a=Ga b:=by
 cases o with
 | none=>cases h
 | some a=>exact⟨a,rfl,h⟩
section
variable {X:Cx}{pos:Pos}
theorem PO.v {e:Expr}{f:FL}(h:PO X e f):PV X e (λψ=>(f ψ).bind λds=>Ga (.list ds)):=by
 refine gX h λσ H Q=>?_;rintro⟨H0,F,ψ,d,r,e,q⟩;obtain⟨ds,z,e⟩:=aj e;cases e
 .refine⟨H0,F,ψ,ds,r,z,λa xs H' F' g f1 fh n ha fa ha' rr=>?_⟩;have sF:aG F' (upd F' a (.lst xs)):=aG.new fa;refine q (.ref a) H' (upd F' a (.lst xs)) g (f1.trans sF) (λb o h=>?_) (λb o h nb=>?_) (.lst (gp.of eZ) (rr.mono sF))
  .exact aG.upL fh ha' trivial b o h
  .by_cases hb:b=a
   .subst hb;exact ha
   .rw[eQ hb] at h;exact n b o h nb
noncomputable def gv (i:Nat):FV:=λψ=>match ψ[i]? with
 | some (.val d)=>Ga d
 | _=>Gb
theorem dh (i:Nat){x:Str}(hN:X.N[i]?=Ga x:=by rfl)(hv:mq X.env.scope x:=by first|exact kw rfl|exact jZ (kw rfl)|exact jZ (jZ rfl))(hd:(x==("__debug__":Str))=false:=by decide)
  (hcd:(x==("__classdict__":Str))=false:=by decide):PV X (.Name x pos) (gv i):=by
 refine gX (iJ hN hv hd hcd) λσ H Q=>?_;rintro⟨H0,F,ψ,d,r,e,q⟩;unfold gv at e;cases z:ψ[i]? with
 | none=>rw[z] at e;cases e
 | some s =>
  rw[z] at e;cases s with
  | val d' =>
   cases e;obtain⟨u,e1,v,e2,h⟩:=r.sl i _ z;subst e2;exact⟨v,e1,q v H F (.refl _) (.refl _) r.fh (.refl _ _) h⟩
  | no=>cases e
  | own _=>cases e
  | dic _=>cases e
  | dki _ _=>cases e
  | tab _=>cases e
  | fn _=>cases e
  | owk _ _=>cases e
  | dkt _=>cases e
theorem Ca {e:Expr}{d:D}{v:V}(h:PE X e (tC v))(r:∀ K F,fP K F d v):PV X e (λ_=>Ga d):=by
 refine gX h λσ H Q=>?_;rintro⟨H0,F,ψ,d',rs,e,q⟩;cases e;exact q v H F (.refl _) (.refl _) rs.fh (.refl _ _) (r _ _)
theorem fI {i j}:PV X (.Constant (.int i) j pos) (λ_=>Ga (.int i)):=Ca Gv λ_ _=>.int i
theorem yk {b j}:PV X (.Constant (.bool b) j pos) (λ_=>Ga (.bool b)):=Ca Ci λ_ _=>.bl b
theorem ol {j}:PV X (.Constant .none j pos) (λ_=>Ga .none):=Ca Iy λ_ _=>.non
theorem fG:PL X [] (λ_=>Ga []):=by
 refine⟨rG iL λσ H Q=>?_,λψ ds e=>by cases e;rfl⟩;rintro⟨H0,F,ψ,ds,r,e,q⟩;cases e;exact q [] H F (.refl _) (.refl _) r.fh (.refl _ _) .nil
theorem fj {e:Expr}{es:List Expr}{f:FV}{g:FL}(ha:PV X e f)(hr:PL X es g)(hs:starEach (e::es) X.env=(false,eval e X.env)::starEach es X.env:=by rfl) :
  PL X (e::es) (λψ=>(f ψ).bind λd=>(g ψ).bind λds=>Ga (d::ds)):=by
 refine⟨rG (gA ha hr.pa hs) λσ H Q=>?_,λψ ds e=>?_⟩
 .rintro⟨H0,F,ψ,ds,r,e,q⟩;obtain⟨d,e1,e⟩:=aj e;obtain⟨ds',e2,e⟩:=aj e;cases e;refine⟨H0,F,ψ,d,r,e1,λv H1 F1 g1 f1 fh1 n1 rv=>⟨H0,F1,ψ,ds',r.grow g1 f1 fh1 n1,e2,λvs H2 F2 g2 f2 fh2 n2 rvs=>?_⟩⟩;exact q (v::vs) H2 F2 (g1.trans g2) (f1.trans f2) fh2 (n1.trans n2 g1) (.cons (rv.mono f2) rvs)
 .obtain⟨d,e1,e⟩:=aj e;obtain⟨ds',e2,e⟩:=aj e;cases e;exact congrArg uv (hr.len ψ _ e2)
theorem tJ {es:List Expr}{x1}{g:FL}(h:PL X es g)(hz:es.length<=1000:=by decide):PV X (.Tuple es x1 pos) (λψ=>(g ψ).bind λds=>Ga (.tuple ds)):=by
 refine gX (FO h.pa) λσ H Q=>?_;rintro⟨H0,F,ψ,d,r,e,q⟩;obtain⟨ds,e1,e⟩:=aj e;cases e;refine⟨H0,F,ψ,ds,r,e1,λvs H1 F1 g1 f1 fh1 n1 rv=>⟨?_,λp hp=>?_⟩⟩
 .rw[<- rv.length,h.len ψ ds e1];exact uN (wE hz)
 .have fp:F1 p=Gb:=fh1.free hp;have s1:aG F1 (upd F1 p (.tup vs)):=aG.new fp;have s2:aG H1 (upd H1 p (.tup vs)):=aG.new hp;refine q (.ref p) (upd H1 p (.tup vs)) (upd F1 p (.tup vs)) (g1.trans s2) (f1.trans s1) (λb o h=>?_) (λb o h nb=>?_) (.tup (iQ.of eZ) (rv.mono s1))
  .exact aG.up2 (ob:=.tup vs) fh1 fp hp trivial b o h
  .by_cases hb:b=p
   .subst hb;exact g1.free hp
   .rw[eQ hb] at h;exact n1 b o h nb
theorem ng {es:List Expr}{g:FL}(h:PL X es g)(hz:es.length<=1000:=by decide):PO X (.List es pos) g:=by
 refine gX (EB h.pa) λσ H Q=>?_;rintro⟨H0,F,ψ,ds,r,e1,q⟩;refine⟨H0,F,ψ,ds,r,e1,λvs H1 F1 g1 f1 fh1 n1 rv=>⟨?_,λp hp=>?_⟩⟩
 .rw[<- rv.length,h.len ψ ds e1];exact uN (wE hz)
 .have s2:aG H1 (upd H1 p (.lst vs)):=aG.new hp;exact q p vs (upd H1 p (.lst vs)) F1 (g1.trans s2) f1 (fh1.trans s2) n1 (g1.free hp) (fh1.free hp) eZ rv
def rJ (K:ja)(r:R2)(g:D->D->Option D):Prop:=∀ (F H:Hp) (x y:V) (a b d:D) (Q:VK),aG F H->fP K F a x->fP K F b y->g a b=Ga d ->
 (∀ v H' F',aG H H'->aG F F'->aG F' H'->fR F F' H->fP K F' d v->Q v H')->r x y H Q
theorem CU {K:ja}{r:R2}{g:D->D->Option D}(hr:rJ K r g){fa fb:FV}{σ:St}{H:Hp}{Q:VK}(h:tV K (λψ=>(fa ψ).bind λa=>(fb ψ).bind λb=>g a b) σ H Q):AZ r (tV K fa) (tV K fb) σ H Q:=by
 obtain⟨H0,F,ψ,d,rs,e,q⟩:=h;obtain⟨a,e1,e⟩:=aj e;obtain⟨b,e2,e⟩:=aj e;refine⟨H0,F,ψ,a,rs,e1,λv H1 F1 g1 f1 fh1 n1 rv=>⟨H0,F1,ψ,b,rs.grow g1 f1 fh1 n1,e2,λu H2 F2 g2 f2 fh2 n2 ru=>?_⟩⟩;refine hr F2 H2 v u a b d Q fh2 (rv.mono f2) ru e λw H3 F3 g3 f3 fh3 n3 rw3=>?_;exact q w H3 F3 ((g1.trans g2).trans g3) ((f1.trans f2).trans f3) fh3 ((n1.trans n2 g1).trans n3 (g1.trans g2)) rw3
theorem pS {op:Operator}{r:R2}{g:D->D->Option D}(ho:ic X (binaryOp op) r)(hr:rJ X.K r g){a b:Expr}{fa fb:FV}(ha:PV X a fa)(hb:PV X b fb) :
  PV X (.BinOp a op b pos) (λψ=>(fa ψ).bind λx=>(fb ψ).bind λy=>g x y):=gX (BZ ho ha hb) λ_ _ _ h=>CU hr h
theorem xo {op:CmpOp}{r:R2}{g:D->D->Option D}(ho:ic X (compareOp op) r)(hr:rJ X.K r g){a b:Expr}{fa fb:FV}(ha:PV X a fa)(hb:PV X b fb)(hm:behindInMarks op b=false:=by first|exact Ap _|rfl|with_unfolding_all rfl) :
  PV X (.Compare a [op] [b] pos) (λψ=>(fa ψ).bind λx=>(fb ψ).bind λy=>g x y):=gX (Dv ho ha hb hm) λ_ _ _ h=>CU hr h
def iy:D->Option Bool
 | .bool b=>Ga b
 | _=>Gb
theorem AJ {d:D}{b:Bool}(h:iy d=Ga b):d=.bool b:=by cases d<;>cases h;rfl
theorem Qd {K:ja}{f:FV}{σ:St}{H:Hp}{Q:Bool->Hp->Prop}(h:tT K (λψ=>(f ψ).bind iy) σ H Q):tV K f σ H (λx H'=>∃ k,x=.bl k/\Q k H'):=by
 obtain⟨H0,F,ψ,b,rs,e,q⟩:=h;obtain⟨d,e1,e2⟩:=aj e;cases AJ e2;refine⟨H0,F,ψ,_,rs,e1,λv H1 F1 g1 f1 fh1 n1 rv=>?_⟩;cases rv;exact⟨b,rfl,q H1 g1⟩
theorem tq {op:CmpOp}{r:R2}{g:D->D->Option D}(ho:ic X (compareOp op) r)(hr:rJ X.K r g){a b:Expr}{fa fb:FV}(ha:PV X a fa)(hb:PV X b fb)(hm:behindInMarks op b=false:=by first|exact Ap _|rfl|with_unfolding_all rfl) :
  PB X (.Compare a [op] [b] pos) (λψ=>((fa ψ).bind λx=>(fb ψ).bind λy=>g x y).bind iy):=by
 refine Il (DC ho ha hb hm) λσ H Q h=>?_;exact CU hr (Qd h)
def xf:D->Option Bool
 | .none=>Ga false
 | .bool b=>Ga b
 | .int i=>Ga (i !=0)
 | .tuple xs=>Ga (!xs.isEmpty)
 | .list xs=>Ga (!xs.isEmpty)
 | _=>Gb
theorem fg.isEmpty {K:ja}{H:Hp}{ds:List D}{vs:List V}(r:fg K H ds vs):ds.isEmpty=vs.isEmpty:=by cases r<;>rfl
theorem VL {K:ja}{F H:Hp}{d:D}{v:V}{b:Bool}(e:xf d=Ga b)(r:fP K F d v)(s:aG F H):BA K v H b:=by
 cases r with
 | non=>cases e;rfl
 | bl c=>cases e;rfl
 | int i=>cases e;rfl
 | str x=>cases e
 | tup h r=>cases e;exact .inr (.inl ⟨_,lE s h,by rw[r.isEmpty]⟩)
 | lst h r=>cases e;exact .inl ⟨_,s.seq h,by rw[r.isEmpty]⟩
 | dic hs h ok r=>cases e
 | dci hs h ok r=>cases e
theorem pg {e:Expr}{f:FV}(h:PV X e f)(he:∀ whole,isTrue e X.env whole=(do let v <- whole;standAt e.pos;holding [v] (truthy v)):=by intro _;rfl):PB X e (λψ=>(f ψ).bind xf):=by
 refine Il (BK h he) λσ H Q=>?_;rintro⟨H0,F,ψ,b,rs,e,q⟩;obtain⟨d,e1,e2⟩:=aj e;exact⟨H0,F,ψ,d,rs,e1,λv H1 F1 g1 f1 fh1 n1 rv=>⟨b,VL e2 rv fh1,q H1 g1⟩⟩
theorem De {e:Expr}{f:FB}(h:PB X e f):PB X (.UnaryOp .Not e pos) (λψ=>(f ψ).bind λc=>Ga (!c)):=by
 refine Il (EN h) λσ H Q=>?_;rintro⟨H0,F,ψ,b,rs,e,q⟩;obtain⟨c,z,e⟩:=aj e;cases e;exact⟨H0,F,ψ,c,rs,z,q⟩
theorem Fc {a:Expr}{f:FB}(h:PB X a f):nV X (.BoolOp .And [a] pos) f:=Dy h
theorem Al {a:Expr}{f:FB}(h:PB X a f):nV X (.BoolOp .Or [a] pos) f:=Fe h
theorem DR {a b:Expr}{rest:List Expr}{f g:FB}(ha:PB X a f)(hb:nV X (.BoolOp .And (b::rest) pos) g):nV X (.BoolOp .And (a::b::rest) pos) (λψ=>(f ψ).bind λc=>if c then g ψ else Ga false):=by
 refine NQ (EE ha hb) λσ H Q=>?_;rintro⟨H0,F,ψ,b,rs,e,q⟩;obtain⟨c,e1,e2⟩:=aj e;refine⟨H0,F,ψ,c,rs,e1,λH1 g1=>?_⟩;cases c with
 | true=>exact pD ⟨H0,F,ψ,b,rs.later g1,e2,λH2 g2=>q H2 (g1.trans g2)⟩
 | false=>cases e2;exact pH (q H1 g1)
theorem xV {a b:Expr}{rest:List Expr}{f g:FB}(ha:PB X a f)(hb:nV X (.BoolOp .Or (b::rest) pos) g):nV X (.BoolOp .Or (a::b::rest) pos) (λψ=>(f ψ).bind λc=>if c then Ga true else g ψ):=by
 refine NQ (Kg ha hb) λσ H Q=>?_;rintro⟨H0,F,ψ,b,rs,e,q⟩;obtain⟨c,e1,e2⟩:=aj e;refine⟨H0,F,ψ,c,rs,e1,λH1 g1=>?_⟩;cases c with
 | false=>exact pH ⟨H0,F,ψ,b,rs.later g1,e2,λH2 g2=>q H2 (g1.trans g2)⟩
 | true=>cases e2;exact pD (q H1 g1)
theorem nV.b {e:Expr}{f:FB}(h:nV X e f):PB X e f:=PW.pt h
theorem xu {op}{a:Expr}{f:FV}(h:PV X a f):PV X (.BoolOp op [a] pos) f:=Iu h
theorem AB {a b:Expr}{rest:List Expr}{f g:FV}(ha:PV X a f)(hb:PV X (.BoolOp .And (b::rest) pos) g):PV X (.BoolOp .And (a::b::rest) pos) (λψ=>((f ψ).bind iy).bind λc=>if c then g ψ else Ga (.bool false)):=by
 refine gX (Iv ha hb) λσ H Q=>?_;rintro⟨H0,F,ψ,d,rs,e,q⟩;obtain⟨c,e1,e2⟩:=aj e;obtain⟨d',e3,e4⟩:=aj e1;cases AJ e4;refine⟨H0,F,ψ,_,rs,e3,λv H1 F1 g1 f1 fh1 n1 rv=>?_⟩;cases rv;refine⟨c,rfl,?_⟩;cases c with
 | true=>exact pD ⟨H0,F1,ψ,d,rs.grow g1 f1 fh1 n1,e2,λw H2 F2 g2 f2 fh2 n2 rw2=>q w H2 F2 (g1.trans g2) (f1.trans f2) fh2 (n1.trans n2 g1) rw2⟩
 | false=>cases e2;exact pH (q (.bl false) H1 F1 g1 f1 fh1 n1 (.bl false))
theorem GC {a b:Expr}{rest:List Expr}{f g:FV}(ha:PV X a f)(hb:PV X (.BoolOp .Or (b::rest) pos) g):PV X (.BoolOp .Or (a::b::rest) pos) (λψ=>((f ψ).bind iy).bind λc=>if c then Ga (.bool true) else g ψ):=by
 refine gX (Ku ha hb) λσ H Q=>?_;rintro⟨H0,F,ψ,d,rs,e,q⟩;obtain⟨c,e1,e2⟩:=aj e;obtain⟨d',e3,e4⟩:=aj e1;cases AJ e4;refine⟨H0,F,ψ,_,rs,e3,λv H1 F1 g1 f1 fh1 n1 rv=>?_⟩;cases rv;refine⟨c,rfl,?_⟩;cases c with
 | false=>exact pH ⟨H0,F1,ψ,d,rs.grow g1 f1 fh1 n1,e2,λw H2 F2 g2 f2 fh2 n2 rw2=>q w H2 F2 (g1.trans g2) (f1.trans f2) fh2 (n1.trans n2 g1) rw2⟩
 | true=>cases e2;exact pD (q (.bl true) H1 F1 g1 f1 fh1 n1 (.bl true))
theorem Mq {a:Expr}{f:FV}(ha:PV X a f):PV X (.UnaryOp .Not a pos) (λψ=>((f ψ).bind iy).bind λc=>Ga (.bool (!c))):=by
 refine gX (IE ha) λσ H Q=>?_;rintro⟨H0,F,ψ,d,rs,e,q⟩;obtain⟨c,e1,e2⟩:=aj e;obtain⟨d',e3,e4⟩:=aj e1;cases AJ e4;cases e2;refine⟨H0,F,ψ,_,rs,e3,λv H1 F1 g1 f1 fh1 n1 rv=>?_⟩;cases rv;exact⟨c,rfl,q (.bl (!c)) H1 F1 g1 f1 fh1 n1 (.bl _)⟩
theorem zE {c a b:Expr}{fc:FB}{f g:FV}(hc:PB X c fc)(ha:PV X a f)(hb:PV X b g):PV X (.IfExp c a b pos) (λψ=>(fc ψ).bind λk=>if k then f ψ else g ψ):=by
 refine gX (BP hc ha hb) λσ H Q=>?_;rintro⟨H0,F,ψ,d,rs,e,q⟩;obtain⟨k,e1,e2⟩:=aj e;refine⟨H0,F,ψ,k,rs,e1,λH1 g1=>?_⟩;cases k with
 | true=>exact pD ⟨H0,F,ψ,d,rs.later g1,e2,λw H2 F2 g2 f2 fh2 n2 rw2=>q w H2 F2 (g1.trans g2) f2 fh2 (λb o h nb=>g1.free (n2 b o h nb)) rw2⟩
 | false=>exact pH ⟨H0,F,ψ,d,rs.later g1,e2,λw H2 F2 g2 f2 fh2 n2 rw2=>q w H2 F2 (g1.trans g2) f2 fh2 (λb o h nb=>g1.free (n2 b o h nb)) rw2⟩
end
section
variable {X:Cx}{ω:List (Gj×Obj)}{σ:St}{F H:Hp}{s:Gh}
theorem GF:∀ ks:List D,(ks.map λk=>(k,j3 true)).map (·.1)=ks
 | []=>rfl
 | k::ks=>congrArg (k::·) (GF ks)
mutual
def mM:D->Bool
 | .dict _=>false
 | .list xs=>mD xs
 | .tuple xs=>mD xs
 | _=>true
def mD:List D->Bool
 | []=>true
 | x::xs=>mM x&&mD xs
end
mutual
theorem wy:∀ {d:D},d.canLay0=true->mM d=true
 | .none,_=>by rw[mM]<;>(intros;contradiction)
 | .bool _,_=>by rw[mM]<;>(intros;contradiction)
 | .int _,_=>by rw[mM]<;>(intros;contradiction)
 | .str _,_=>by rw[mM]<;>(intros;contradiction)
 | .list xs,h=>by rw[qY] at h;rw[mM];exact Bs h
 | .tuple xs,h=>by rw[qY] at h;rw[mM];exact Bs h
 | .dict _,h=>by rw[qY] at h;cases h
theorem Bs:∀ {ds:List D},jE ds=true->mD ds=true
 | [],_=>by rw[mD]
 | x::xs,h=>by
  rw[jE,jo] at h;rw[mD,wy h.1,Bs h.2];rfl
end
mutual
theorem AM:∀ {d:D} {n:Nat},fA d n=true->mM d=true
 | .none,_,_=>by rw[mM]<;>(intros;contradiction)
 | .int _,_,_=>by rw[mM]<;>(intros;contradiction)
 | .tuple xs,0,h=>by rw[fA] at h;cases h
 | .tuple xs,n+1,h=>by rw[fA] at h;rw[mM];exact NG h
 | .bool _,_,h=>by rw[fA] at h;cases h
 | .str _,_,h=>by rw[fA] at h;cases h
 | .list _,_,h=>by rw[fA] at h;cases h
 | .dict _,_,h=>by rw[fA] at h;cases h
theorem NG:∀ {ds:List D} {n:Nat},ij ds n=true->mD ds=true
 | [],_,_=>by rw[mD]
 | x::xs,n,h=>by
  rw[ij,jo] at h;rw[mD,AM h.1,NG h.2];rfl
end
mutual
theorem fP.reads (I:eS X ω σ H s)(g:aG F H):∀ {d:D} {v:V},fP X.K F d v->mM d=true->∀ {u:Gg},fC v u->∃ as,Reads s.heap u d as
 | _,_,.non,_,u,r=>by cases r;exact⟨_,.none⟩
 | _,_,.bl b,_,u,r=>by cases r;exact⟨_,.bool b⟩
 | _,_,.int i,_,u,r=>by obtain⟨t,rfl⟩:=r;exact⟨_,.int i t⟩
 | _,_,.str x,_,u,r=>by obtain⟨t,rfl⟩:=r;exact⟨_,.str x t⟩
 | _,_,.tup h q,pl,u,r=>by
  cases r;rw[mM] at pl;obtain⟨its,rv,⟨o,e,c,n,d⟩,_⟩:=I.tuple (lE g h);obtain⟨as,ra⟩:=fg.reads I g q pl rv;exact⟨_,.tuple e c d (by simpa using ra)⟩
 | _,_,.lst h q,pl,u,r=>by
  cases r;rw[mM] at pl;obtain⟨its,rv,⟨o,n,e,c,_,d⟩,_⟩:=I.list (g.seq h);obtain⟨as,ra⟩:=fg.reads I g q pl rv;exact⟨_,.list e c d (by simpa using ra)⟩
 | _,_,.dic _ _ _ _,pl,u,r=>by rw[mM] at pl;cases pl
 | _,_,.dci _ _ _ _,pl,u,r=>by rw[mM] at pl;cases pl
theorem fg.reads (I:eS X ω σ H s)(g:aG F H):∀ {ds:List D} {vs:List V},fg X.K F ds vs->mD ds=true->∀ {us:List Gg},fw vs us->∃ as,ReadsAll s.heap us ds as
 | _,_,.nil,_,us,r=>by cases r;exact⟨_,.nil⟩
 | _,_,.cons h t,pl,us,r=>by
  rw[mD,jo] at pl;cases r with
  | cons r1 r2 =>
   obtain⟨as,a⟩:=fP.reads I g h pl.1 r1;obtain⟨bs,b⟩:=fg.reads I g t pl.2 r2;exact⟨_,.cons a b⟩
end
end
def oY (a b:D):Bool:=a.canLay0&&b.canLay0&&decide (min a.depth b.depth<=100)
def gz (a b:D):Option D:=if oY a b then Ga (.bool (jW a b)) else Gb
def ia (a b:D):Option D:=if oY a b then Ga (.bool (!PyData.eqv a b)) else Gb
def si (K:ja)(g:D->D->Option D):R2:=λx y H Q=>∃ F a b d,aG F H/\fP K F a x/\fP K F b y/\g a b=Ga d/\∀ k,d=.bool k->Q (.bl k) H
theorem Mo {a b:D}(h:oY a b=true):a.canLay0=true/\b.canLay0=true/\min a.depth b.depth<=100:=by
 unfold oY at h;simp only[jo,decide_eq_true_eq] at h;exact⟨h.1.1,h.1.2,h.2⟩
theorem Ni {X:Cx}(hu:X.A.units+100<cLine):ic X (compareOp .Eq) (si X.K gz):=by
 intro ω s σ H x y v u Q I rx ry h;obtain⟨F,a,b,d,g,ra,rb,e,q⟩:=h;unfold gz at e;split at e
 .rename_i ok;obtain⟨h1,h2,h3⟩:=Mo ok;obtain⟨as,ha⟩:=ra.reads I g (wy h1) rx;obtain⟨bs,hb⟩:=rb.reads I g (wy h2) ry;refine SeqAt.compareEq_reads ha hb h1 h2 (by omega) ⟨.bl _,H,I,rfl,q _ (jy e).symm⟩
 .cases e
theorem OT {X:Cx}(hu:X.A.units+100<cLine):ic X (compareOp .NotEq) (si X.K ia):=by
 intro ω s σ H x y v u Q I rx ry h;obtain⟨F,a,b,d,g,ra,rb,e,q⟩:=h;unfold ia at e;split at e
 .rename_i ok;obtain⟨h1,h2,h3⟩:=Mo ok;obtain⟨as,ha⟩:=ra.reads I g (wy h1) rx;obtain⟨bs,hb⟩:=rb.reads I g (wy h2) ry;refine SeqAt.compareNe_reads ha hb h1 h2 (by omega) ⟨.bl _,H,I,rfl,q _ (jy e).symm⟩
 .cases e
theorem tS {K:ja}{g:D->D->Option D}(hg:∀ a b d,g a b=Ga d->∃ k,d=.bool k):rJ K (si K g) g:=by
 intro F H x y a b d Q s ra rb e q;refine⟨F,a,b,d,s,ra,rb,e,λk ek=>?_⟩;subst ek;exact q (.bl k) H F (.refl _) (.refl _) s (.refl _ _) (.bl k)
theorem Nl:∀ a b d,gz a b=Ga d->∃ k,d=.bool k:=λa b d h=>by unfold gz at h;split at h<;>cases h;exact⟨_,rfl⟩
theorem NI:∀ a b d,ia a b=Ga d->∃ k,d=.bool k:=λa b d h=>by unfold ia at h;split at h<;>cases h;exact⟨_,rfl⟩
def dI (C:Int->Int->Bool)(g:Int->Int->D):D->D->Option D
 | .int i,.int j=>if C i j then Ga (g i j) else Gb
 | _,_=>Gb
theorem zq {K:ja}{C:Int->Int->Prop}{C':Int->Int->Bool}{g:Int->Int->V}{g':Int->Int->D}(hC:∀ i j,C' i j=true->C i j)(hg:∀ i j F,fP K F (g' i j) (g i j)):rJ K (rI C g) (dI C' g'):=by
 intro F H x y a b d Q s ra rb e q;cases ra<;>cases rb<;>first|(cases e;done)|skip
 rename_i i j;unfold dI at e;dsimp only at e;split at e
 .rename_i c;cases e;exact⟨i,j,rfl,rfl,hC i j c,q _ H F (.refl _) (.refl _) s (.refl _ _) (hg i j F)⟩
 .cases e
def rF (g:Int->Int->D):D->D->Option D
 | .int i,.int j=>Ga (g i j)
 | _,_=>Gb
theorem pM {K:ja}{g:Int->Int->V}{g':Int->Int->D}(hg:∀ i j F,fP K F (g' i j) (g i j)):rJ K (pQ g) (rF g'):=by
 intro F H x y a b d Q s ra rb e q;cases ra<;>cases rb<;>first|(cases e;done)|skip
 rename_i i j;cases e;exact⟨i,j,rfl,rfl,q _ H F (.refl _) (.refl _) s (.refl _ _) (hg i j F)⟩
def iz:D->D->Option D:=rF λi j=>.int (i-j)
def pJ (i j:Int):Bool:=(decide (-(2^64)<i)&&decide (i<2^64))||(decide (-(2^64)<j)&&decide (j<2^64))
def lH:D->D->Option D:=dI pJ λi j=>.int (i*j)
def oW:D->D->Option D:=dI (λ_ j=>decide (0<j)&&decide (j<1073741824)) λi j=>.int (i/j)
def iW:D->D->Option D:=dI (λ_ j=>decide (0<j)) λi j=>.int (i%j)
def rB:D->D->Option D:=dI (λi j=>decide (0<=j)&&decide (j<=1000000)&&decide (i.natAbs<2^64)) λi j=>.int (i^j.toNat)
def Hy:D->D->Option D:=rF λi j=>.int (uI i j)
def xy:D->D->Option D:=rF λi j=>.int (vT i j)
def nO:D->D->Option D:=rF λi j=>.bool (decide (i<j))
def lI:D->D->Option D:=rF λi j=>.bool (decide (i<=j))
def Ak:D->D->Option D:=rF λi j=>.bool (decide (j<i))
def HK:D->D->Option D:=rF λi j=>.bool (decide (j<=i))
def ge:D->D->Option D
 | .int i,.int j=>Ga (.int (i+j))
 | .tuple xs,.tuple ys=>if xs.length+ys.length<=sizeLine then Ga (.tuple (xs++ys)) else Gb
 | .list xs,.list ys=>if xs.length+ys.length<=sizeLine then Ga (.list (xs++ys)) else Gb
 | .str x,.str y=>if x.length+y.length<=sizeLine then Ga (.str (x++y)) else Gb
 | _,_=>Gb
section
variable {X:Cx}
theorem QV {ω:List (Gj×Obj)}{s:Gh}{σ:St}{H:Hp}{a b:Gj}{ys:List V}{Q:Gg->Gh->Prop}(I:eS X ω σ H s)(ha:iQ X.K H a [])(hb:iQ X.K H b ys)(h:Q (.ref b) s) :
  wpAny (model X.prog X.w) X.A (binaryOp .Add (.ref a) (.ref b)) Q X.xe s:=by
 obtain⟨its,r1,p1,_⟩:=I.tuple ha;obtain⟨its2,r2,p2,_⟩:=I.tuple hb;cases r1;obtain⟨⟨cls,dd,data,sl⟩,ho,hc,n,hd⟩:=id p1;obtain⟨⟨cls2,dd2,data2,sl2⟩,ho2,hc2,n2,hd2⟩:=id p2;simp only at hc hd hc2 hd2;subst hc hd hc2 hd2;exact concat_meets ⟨_,ho,rfl⟩ ⟨_,ho2,rfl⟩ noFill_tuple_add seq_tuple_add vF vn (vf _ _)
   (tuple_addW0 a b #[] its2.toArray n n2 dd dd2 sl sl2 (by rfl)) ⟨ho,ho2,h⟩
def Df (K:ja):R2:=λx y H Q=>∃ F a b d,aG F H/\fP K F a x/\fP K F b y/\ge a b=Ga d/\∀ v H' F',aG H H'->aG F F'->aG F' H'->fR F F' H->fP K F' d v->Q v H'
theorem rP {F H:Hp}{p:Gj}{o:HO}(g:aG F H)(hp:H p=Gb)(pl:Pl o:=by trivial):aG H (upd H p o)/\aG F (upd F p o)/\aG (upd F p o) (upd H p o)/\fR F (upd F p o) H:=by
 have fp:F p=Gb:=g.free hp;refine⟨aG.new hp,aG.new fp,aG.up2 g fp hp pl,λb u h nb=>?_⟩
 .by_cases hb:b=p
  .subst hb;exact hp
  .rw[eQ hb,nb] at h;cases h
theorem Tw:ic X (binaryOp .Add) (Df X.K):=by
 intro ω s σ H x y v u Q I rx ry h;obtain⟨F,a,b,d,g,ra,rb,e,q⟩:=h;cases ra with
 | int i =>
  cases rb<;>first|(cases e;done)|skip
  cases e;exact EZ ω s σ H _ _ v u Q I rx ry ⟨i,_,rfl,rfl,q _ H F (.refl _) (.refl _) g (.refl _ _) (.int _)⟩
 | str i =>
  cases rb<;>first|(cases e;done)|skip
  unfold ge at e;dsimp only at e;split at e
  .rename_i c;cases e;exact zH ω s σ H _ _ v u Q I rx ry ⟨i,_,rfl,rfl,c,q _ H F (.refl _) (.refl _) g (.refl _ _) (.str _)⟩
  .cases e
 | @tup p xs ds h1 q1 =>
  cases rb<;>first|(cases e;done)|skip
  rename_i p2 xs2 ds2 h2 q2;unfold ge at e;dsimp only at e;split at e
  .rename_i c;cases e;by_cases hx:xs=[]
   .subst hx;cases q1;cases rx;cases ry;exact QV I (lE g h1) (lE g h2) ⟨.ref p2,H,I,rfl,q _ H F (.refl _) (.refl _) g (.refl _ _) (.tup h2 q2)⟩
   .refine Dw ω s σ H _ _ v u Q I rx ry ⟨p,p2,xs,xs2,rfl,rfl,lE g h1,lE g h2,hx,by rw[<- q1.length,<- q2.length];exact c,λz=>?_,λz l hl=>?_⟩
    .subst z;cases q2;exact q _ H F (.refl _) (.refl _) g (.refl _ _) (by rw[j4];exact .tup h1 q1)
    .obtain⟨s1,s2,s3,s4⟩:=rP (o:=.tup (xs++xs2)) g hl;exact q _ _ _ s1 s2 s3 s4 (.tup (iQ.of eZ) ((q1.append q2).mono s2))
  .cases e
 | @lst p xs ds h1 q1 =>
  cases rb<;>first|(cases e;done)|skip
  rename_i p2 xs2 ds2 h2 q2;unfold ge at e;dsimp only at e;split at e
  .rename_i c;cases e;cases rx;cases ry;obtain⟨its,r,pl,hz⟩:=I.list (g.seq h1);obtain⟨its2,r2,pl2,hz2⟩:=I.list (g.seq h2);obtain⟨o,n,e1,c1,d1,k1⟩:=pl;obtain⟨o2,n2,e2,c2,d2,k2⟩:=pl2;have l1:=q1.length;have l2:=q2.length;have l3:=r.length;have l4:=r2.length;obtain⟨oc,od,oda,osl⟩:=o;obtain⟨oc2,od2,oda2,osl2⟩:=o2;simp only at c1 d1 k1 c2 d2 k2;subst c1 d1 k1 c2 d2 k2;refine concat_meets ⟨_,e1,rfl⟩ ⟨_,e2,rfl⟩ noFill_list_add seq_list_add PySem.F.slot_list_add PySem.F.entry_list_add (PySem.F.args_list_add_2 _ _)
    (list_addW p p2 its.toArray its2.toArray n n2 _ _ _ _ (by rw[jn,jn];omega)) ⟨e1,e2,?_⟩
   have ea:its.toArray++its2.toArray=(its++its2).toArray:=by simp
   rw[ea];obtain⟨s1,s2,s3,s4⟩:=rP (o:=.lst (xs++xs2)) g I.fresh;exact⟨.ref _,_,I.lnew (t':=s.toks) (r.append r2) (by rw[jC];omega),rfl,q _ _ _ s1 s2 s3 s4 (.lst (gp.of eZ) ((q1.append q2).mono s2))⟩
  .cases e
 | non=>cases e
 | bl k=>cases e
 | dic hs h ok r=>cases e
 | dci hs h ok r=>cases e
theorem RX {K:ja}:rJ K (Df K) ge:=λF H x y a b d Q s ra rb e q=>⟨F,a,b,d,s,ra,rb,e,q⟩
end
section
variable {X:Cx}{pos:Pos}{a b:Expr}{f g:FV}
theorem mw (ha:PV X a f)(hb:PV X b g):PV X (.BinOp a .Add b pos) (λψ=>(f ψ).bind λx=>(g ψ).bind λy=>ge x y):=pS Tw RX ha hb
theorem pY (ha:PV X a f)(hb:PV X b g):PV X (.BinOp a .Sub b pos) (λψ=>(f ψ).bind λx=>(g ψ).bind λy=>iz x y):=pS IC (pM λ_ _ _=>.int _) ha hb
theorem Hn (ha:PV X a f)(hb:PV X b g):PV X (.BinOp a .Mult b pos) (λψ=>(f ψ).bind λx=>(g ψ).bind λy=>lH x y) :=
 pS GU (zq (λi j h=>by simpa [pJ,zy] using h) λ_ _ _=>.int _) ha hb
theorem Lu (ha:PV X a f)(hb:PV X b g):PV X (.BinOp a .FloorDiv b pos) (λψ=>(f ψ).bind λx=>(g ψ).bind λy=>oW x y) :=
 pS DG (zq (λi j h=>by simpa [Gk] using h) λ_ _ _=>.int _) ha hb
theorem AL (ha:PV X a f)(hb:PV X b g):PV X (.BinOp a .Mod b pos) (λψ=>(f ψ).bind λx=>(g ψ).bind λy=>iW x y) :=
 pS Ek (zq (λi j h=>by simpa using h) λ_ _ _=>.int _) ha hb
theorem CP (ha:PV X a f)(hb:PV X b g):PV X (.BinOp a .Pow b pos) (λψ=>(f ψ).bind λx=>(g ψ).bind λy=>rB x y) :=
 pS GD (zq (λi j h=>by simpa [IL,and_assoc] using h) λ_ _ _=>.int _) ha hb
theorem Tq (ha:PV X a f)(hb:PV X b g):PV X (.BinOp a .BitAnd b pos) (λψ=>(f ψ).bind λx=>(g ψ).bind λy=>Hy x y):=pS GP (pM λ_ _ _=>.int _) ha hb
theorem MJ (ha:PV X a f)(hb:PV X b g):PV X (.BinOp a .BitOr b pos) (λψ=>(f ψ).bind λx=>(g ψ).bind λy=>xy x y):=pS Kh (pM λ_ _ _=>.int _) ha hb
theorem BB (ha:PV X a f)(hb:PV X b g):PV X (.Compare a [.Lt] [b] pos) (λψ=>(f ψ).bind λx=>(g ψ).bind λy=>nO x y):=xo Cq (pM λ_ _ _=>.bl _) ha hb
theorem Qr (ha:PV X a f)(hb:PV X b g):PV X (.Compare a [.LtE] [b] pos) (λψ=>(f ψ).bind λx=>(g ψ).bind λy=>lI x y):=xo wV (pM λ_ _ _=>.bl _) ha hb
theorem Pr (ha:PV X a f)(hb:PV X b g):PV X (.Compare a [.Gt] [b] pos) (λψ=>(f ψ).bind λx=>(g ψ).bind λy=>Ak x y):=xo BX (pM λ_ _ _=>.bl _) ha hb
theorem PH (ha:PV X a f)(hb:PV X b g):PV X (.Compare a [.GtE] [b] pos) (λψ=>(f ψ).bind λx=>(g ψ).bind λy=>HK x y):=xo JY (pM λ_ _ _=>.bl _) ha hb
theorem zt (hu:X.A.units+100<cLine)(ha:PV X a f)(hb:PV X b g):PV X (.Compare a [.Eq] [b] pos) (λψ=>(f ψ).bind λx=>(g ψ).bind λy=>gz x y):=xo (Ni hu) (tS Nl) ha hb
theorem Pw (hu:X.A.units+100<cLine)(ha:PV X a f)(hb:PV X b g):PV X (.Compare a [.NotEq] [b] pos) (λψ=>(f ψ).bind λx=>(g ψ).bind λy=>ia x y):=xo (OT hu) (tS NI) ha hb
theorem Fp (ha:PV X a f)(hb:PV X b g):PB X (.Compare a [.Lt] [b] pos) (λψ=>((f ψ).bind λx=>(g ψ).bind λy=>nO x y).bind iy):=tq Cq (pM λ_ _ _=>.bl _) ha hb
theorem Qw (ha:PV X a f)(hb:PV X b g):PB X (.Compare a [.LtE] [b] pos) (λψ=>((f ψ).bind λx=>(g ψ).bind λy=>lI x y).bind iy):=tq wV (pM λ_ _ _=>.bl _) ha hb
theorem QH (ha:PV X a f)(hb:PV X b g):PB X (.Compare a [.Gt] [b] pos) (λψ=>((f ψ).bind λx=>(g ψ).bind λy=>Ak x y).bind iy):=tq BX (pM λ_ _ _=>.bl _) ha hb
theorem yj (hu:X.A.units+100<cLine)(ha:PV X a f)(hb:PV X b g):PB X (.Compare a [.Eq] [b] pos) (λψ=>((f ψ).bind λx=>(g ψ).bind λy=>gz x y).bind iy):=tq (Ni hu) (tS Nl) ha hb
theorem zv (hu:X.A.units+100<cLine)(ha:PV X a f)(hb:PV X b g):PB X (.Compare a [.NotEq] [b] pos) (λψ=>((f ψ).bind λx=>(g ψ).bind λy=>ia x y).bind iy):=tq (OT hu) (tS NI) ha hb
end
def SB (K:ja)(f:FL):TE:=λσ H Q=>∃ H0 F ψ ds,RS K H0 F H ψ σ/\f ψ=Ga ds /\
 ∀ a xs H' F',aG H H'->aG F F'->aG F' H'->fR F F' H->gp K H' a xs->fg K F' ds xs->Q (.ref a) H'
abbrev pN (X:Cx)(e:Expr)(f:FL):Prop:=PE X e (SB X.K f)
def wQ:D->Option (List D)
 | .list xs=>Ga xs
 | _=>Gb
def yR:D->Option (List D)
 | .tuple xs=>Ga xs
 | _=>Gb
theorem Mc {d:D}{xs:List D}(h:wQ d=Ga xs):d=.list xs:=by cases d<;>cases h;rfl
theorem zsS {d:D}{xs:List D}(h:yR d=Ga xs):d=.tuple xs:=by cases d<;>cases h;rfl
def gl (i:Nat):FL:=λψ=>match ψ[i]? with
 | some (.own ds)=>Ga ds
 | some (.val (.list ds))=>Ga ds
 | _=>Gb
section
variable {X:Cx}{pos:Pos}
theorem PV.sh {e:Expr}{f:FV}(h:PV X e f):pN X e (λψ=>(f ψ).bind wQ):=by
 refine gX h λσ H Q=>?_;rintro⟨H0,F,ψ,ds,r,e,q⟩;obtain⟨d,e1,e2⟩:=aj e;cases Mc e2;refine⟨H0,F,ψ,_,r,e1,λv H' F' g f1 fh n rv=>?_⟩;cases rv with
 | lst h1 h2=>exact q _ _ H' F' g f1 fh n (fh.seq h1) h2
theorem PO.sh {e:Expr}{f:FL}(h:PO X e f):pN X e f:=by
 refine gX h λσ H Q=>?_;rintro⟨H0,F,ψ,ds,r,e,q⟩;exact⟨H0,F,ψ,ds,r,e,λa xs H' F' g f1 fh n ha fa ha' rr=>q a xs H' F' g f1 fh n (gp.of ha') rr⟩
theorem HV (i:Nat){x:Str}(hN:X.N[i]?=Ga x:=by rfl)(hv:mq X.env.scope x:=by first|exact kw rfl|exact jZ (kw rfl)|exact jZ (jZ rfl))(hd:(x==("__debug__":Str))=false:=by decide)
  (hcd:(x==("__classdict__":Str))=false:=by decide):pN X (.Name x pos) (gl i):=by
 refine gX (iJ hN hv hd hcd) λσ H Q=>?_;rintro⟨H0,F,ψ,ds,r,e,q⟩;unfold gl at e;split at e
 .rename_i ds' z;cases e;obtain⟨u,e1,a,xs,e2,ha,fa,h0a,rr⟩:=r.sl i _ z;subst e2;exact⟨.ref a,e1,q a xs H F (.refl _) (.refl _) r.fh (.refl _ _) (gp.of ha) rr⟩
 .rename_i ds' z;cases e;obtain⟨u,e1,v,e2,h⟩:=r.sl i _ z;subst e2;cases h with
  | lst h1 h2=>exact⟨_,e1,q _ _ H F (.refl _) (.refl _) r.fh (.refl _ _) (r.fh.seq h1) h2⟩
 .cases e
def eY:D->D->Option D
 | .list xs,.int i=>atI xs i
 | .tuple xs,.int i=>atI xs i
 | _,_=>Gb
theorem fg.at {K:ja}{F:Hp}{ds:List D}{vs:List V}(r:fg K F ds vs){i:Int}{d:D}(h:atI ds i=Ga d):∃ v,atI vs i=Ga v/\fP K F d v:=by
 unfold atI at h ⊢;rw[<- r.length];obtain⟨j,e1,e2⟩:=aj h;obtain⟨v,e3,e4⟩:=r.get e2;exact⟨v,by rw[e1];exact e3,e4⟩
theorem zBf {K:ja}:rJ K (Ou K) eY:=by
 intro F H x y a b d Q s ra rb e q;cases ra<;>first|(cases e;done)|skip
 .rename_i p xs ds h1 h2;cases rb<;>first|(cases e;done)|skip
  rename_i i;obtain⟨v,e1,e2⟩:=h2.at e;exact .inr (.inl ⟨p,xs,i,v,rfl,rfl,lE s h1,e1,q v H F (.refl _) (.refl _) s (.refl _ _) e2⟩)
 .rename_i p xs ds h1 h2;cases rb<;>first|(cases e;done)|skip
  rename_i i;obtain⟨v,e1,e2⟩:=h2.at e;exact .inl ⟨p,xs,i,v,rfl,rfl,s.seq h1,e1,q v H F (.refl _) (.refl _) s (.refl _ _) e2⟩
theorem gq {a b:Expr}{f g:FV}(ha:PV X a f)(hb:PV X b g)(hs:wo b:=by exact λ_ _=>rfl):PV X (.Subscript a b pos) (λψ=>(f ψ).bind λx=>(g ψ).bind λy=>eY x y) :=
 gX (Cb Eg ha hb hs) λ_ _ _ h=>CU zBf h
def wp (xs:List D):D->Option D
 | .int i=>atI xs i
 | _=>Gb
theorem CB {a b:Expr}{f:FL}{g:FV}(ha:pN X a f)(hb:PV X b g)(hs:wo b:=by exact λ_ _=>rfl):PV X (.Subscript a b pos) (λψ=>(f ψ).bind λx=>(g ψ).bind λy=>wp x y):=by
 refine gX (Cb yT ha hb hs) λσ H Q=>?_;rintro⟨H0,F,ψ,d,r,e,q⟩;obtain⟨ds,e1,e⟩:=aj e;obtain⟨b,e2,e⟩:=aj e;refine⟨H0,F,ψ,ds,r,e1,λp xs H1 F1 g1 f1 fh1 n1 hl rr=>⟨H0,F1,ψ,b,r.grow g1 f1 fh1 n1,e2,λu H2 F2 g2 f2 fh2 n2 ru=>?_⟩⟩;cases ru<;>first|(cases e;done)|skip
 rename_i i;obtain⟨v,e3,e4⟩:=rr.at e;exact⟨p,xs,i,v,rfl,rfl,g2.seq hl,e3,q v H2 F2 (g1.trans g2) (f1.trans f2) fh2 (n1.trans n2 g1) (e4.mono f2)⟩
theorem yp {e:Expr}{te:TE}{p:Pos}{x:Str}{id:String}{r:List V->Hp->VK->Prop}(hc:hJ X (.builtin id) r)(hg:Gl X x)(hm:X.mg x=Gb)(hv:bootBuiltins x=Ga (.builtin id))(ha:PE X e te)
  (hn:x≠"__name__":=by decide) (hdb:(x==("__debug__":Str))=false:=by decide) (hs:starEach [e] X.env=[(false,eval e X.env)]:=by rfl):PE X (.Call (.Name x p) [e] [] pos) (λσ H Q=>te σ H λv H1=>r [v] H1 Q) :=
 gX (sJ hc hg hm hv (gA ha iL hs) hn hdb hs (by rfl)) λσ H Q h=>h
theorem AX {e:Expr}{te:TE}{p:Pos}{x:Str}{id:String}{r:List V->Hp->VK->Prop}(hc:hJ X (.type id) r)(hg:Gl X x)(hm:X.mg x=Gb)(hv:bootBuiltins x=Ga (.type id))(ha:PE X e te)
  (hn:x≠"__name__":=by decide) (hdb:(x==("__debug__":Str))=false:=by decide) (hs:starEach [e] X.env=[(false,eval e X.env)]:=by rfl):PE X (.Call (.Name x p) [e] [] pos) (λσ H Q=>te σ H λv H1=>r [v] H1 Q) :=
 gX (Aq hc hg hm hv (gA ha iL hs) hn hdb hs (by rfl)) λσ H Q h=>h
def fU:D->Option D
 | .list xs=>Ga (.int xs.length)
 | .tuple xs=>Ga (.int xs.length)
 | _=>Gb
theorem mZ {e:Expr}{f:FV}{p:Pos}(hg:Gl X "len")(hm:X.mg "len"=Gb)(ha:PV X e f)(hs:starEach [e] X.env=[(false,eval e X.env)]:=by rfl):PV X (.Call (.Name "len" p) [e] [] pos) (λψ=>(f ψ).bind fU):=by
 refine gX (yp ya hg hm PySem.boot_len ha (hs:=hs)) λσ H Q=>?_;rintro⟨H0,F,ψ,d,r,e,q⟩;obtain⟨d',e1,e⟩:=aj e;refine⟨H0,F,ψ,d',r,e1,λv H1 F1 g1 f1 fh1 n1 rv=>?_⟩;cases rv<;>first|(cases e;done)|skip
 .rename_i p xs ds h1 h2;cases e;exact⟨p,xs,rfl,.inr (lE fh1 h1),q _ H1 F1 g1 f1 fh1 n1 (by rw[h2.length];exact .int _)⟩
 .rename_i p xs ds h1 h2;cases e;exact⟨p,xs,rfl,.inl (fh1.seq h1),q _ H1 F1 g1 f1 fh1 n1 (by rw[h2.length];exact .int _)⟩
theorem XO {e:Expr}{f:FL}{p:Pos}(hg:Gl X "tuple")(hm:X.mg "tuple"=Gb)(ha:pN X e f)(hs:starEach [e] X.env=[(false,eval e X.env)]:=by rfl):PV X (.Call (.Name "tuple" p) [e] [] pos) (λψ=>(f ψ).bind λxs=>Ga (.tuple xs)):=by
 refine gX (AX wT hg hm boot_tuple ha (hs:=hs)) λσ H Q=>?_;rintro⟨H0,F,ψ,d,r,e,q⟩;obtain⟨ds,e1,e⟩:=aj e;cases e;refine⟨H0,F,ψ,ds,r,e1,λp xs H1 F1 g1 f1 fh1 n1 hl rr=>⟨p,xs,rfl,.inl ⟨hl,λl hl'=>?_⟩⟩⟩;obtain⟨s1,s2,s3,s4⟩:=rP (o:=.tup xs) fh1 hl';exact q _ _ _ (g1.trans s1) (f1.trans s2) s3 (n1.trans s4 g1) (.tup (iQ.of eZ) (rr.mono s2))
def CC:D->String
 | .none=>"NoneType"|.bool _=>"bool"|.int _=>"int"|.str _=>"str"|.list _=>"list"|.tuple _=>"tuple"|.dict _=>"dict"
def Cy (T:String)(d:D):Bool:=CC d==T||(T=="int"&&CC d=="bool")
def Co:List String:=["int","bool","str","list","tuple"]
theorem Ta {K:ja}{T:String}(hT:T∈Co)(d:D):PySem.W.kitOne K (.type (CC d)) (.type T)=Ga (Cy T d):=by
 simp only[Co,jx,k9,or_false] at hT;rcases hT with rfl|rfl|rfl|rfl|rfl<;>cases d<;>kernel_rfl
theorem Xa {ω:List (Gj×Obj)}{σ:St}{F H:Hp}{s:Gh}(I:eS X ω σ H s)(g:aG F H){d:D}{v:V}(r:fP X.K F d v){u:Gg}(ru:fC v u):∃ P,PySem.W.KitX X.K u (.type (CC d)) P/\P s.heap:=by
 cases r with
 | non=>cases ru;exact⟨_,PySem.W.kitx_none,True.intro⟩
 | bl b=>cases ru;exact⟨_,PySem.W.kitx_bool,True.intro⟩
 | int i=>obtain⟨t,rfl⟩:=ru;exact⟨_,PySem.W.kitx_int,True.intro⟩
 | str x=>obtain⟨t,rfl⟩:=ru;exact⟨_,PySem.W.kitx_str,True.intro⟩
 | tup h q=>cases ru;obtain⟨its,rv,⟨o,e,c,n,d⟩,_⟩:=I.tuple (lE g h);exact⟨_,PySem.W.kitx_tuple,⟨o,e,c⟩⟩
 | lst h q=>cases ru;obtain⟨its,rv,⟨o,n,e,c,_,d⟩,_⟩:=I.list (g.seq h);exact⟨_,PySem.W.kitx_list,⟨o,e,c⟩⟩
 | dic sm h ok q=>cases ru;obtain⟨⟨o,es,e,c,d,k⟩,_,_⟩:=(show hZ X.prog X.w H s.heap _ (.ext _) from I.hok _ _ (g _ _ h));exact⟨_,Jw,⟨o,e,c.1⟩⟩
 | dci sm h ok q=>cases ru;obtain⟨⟨o,es,e,c,d,k⟩,_,_⟩:=(show hZ X.prog X.w H s.heap _ (.ext _) from I.hok _ _ (g _ _ h));exact⟨_,Jw,⟨o,e,c.1⟩⟩
theorem Tk {v:V}{u:Gg}(r:fC v u):u≠.builtin "__main__.__loader__#opaque":=by
 intro z;subst z;cases v<;>first|(cases r;done)|(obtain⟨t,q⟩:=r;cases q)
theorem Rv {T:String}(hT:T∈Co):hJ X (.builtin "isinstance") (λxs H Q=>∃ F d x,xs=[x,.ty T]/\aG F H/\fP X.K F d x/\Q (.bl (Cy T d)) H):=by
 intro ω s σ H xs us Q I r h;obtain⟨F,d,x,rfl,g,rx,q⟩:=h;obtain⟨u,w',rfl,r1,r2⟩:=zO r;cases r2;obtain⟨P,Z,z⟩:=Xa I g rx r1;exact PySem.W.kia_one Z I.kIn z (Ta hT d) (Tk r1) λtk=>⟨.bl _,H,I.tok tk,rfl,q⟩
theorem zBh {x:Str}{T:String}(hg:Gl X x)(hm:X.mg x=Gb)(hv:bootBuiltins x=Ga (.type T))(hn:x≠"__name__":=by decide)(hd:(x==("__debug__":Str))=false:=by decide):PE X (.Name x pos) (tC (.ty T)) :=
 λ_ _ _ H _ I h=>nG I hg hm hv ⟨.ty T,H,I,rfl,h⟩ hn hd
theorem HR {e:Expr}{f:FV}{p p2:Pos}{x:Str}{T:String}(hT:T∈Co)(hg:Gl X "isinstance")(hm:X.mg "isinstance"=Gb)(hg2:Gl X x)(hm2:X.mg x=Gb)(hv:bootBuiltins x=Ga (.type T))(ha:PV X e f)
  (hn:x≠"__name__":=by decide) (hd:(x==("__debug__":Str))=false:=by decide)
  (hs:starEach [e,.Name x p2] X.env=(false,eval e X.env)::starEach [.Name x p2] X.env:=by rfl) (hs2:starEach [.Name x p2] X.env=[(false,eval (.Name x p2) X.env)]:=by rfl) :
  PV X (.Call (.Name "isinstance" p) [e,.Name x p2] [] pos) (λψ=>(f ψ).bind λd=>Ga (.bool (Cy T d))):=by
 refine gX (sJ (Rv hT) hg hm boot_isinstance (gA ha (gA (zBh (pos:=p2) hg2 hm2 hv hn hd) iL hs2) hs) (by decide) (by decide) hs (by rw[hs2];rfl)) λσ H Q=>?_;rintro⟨H0,F,ψ,d,r,e,q⟩;obtain⟨d',e1,e⟩:=aj e;cases e;refine⟨H0,F,ψ,d',r,e1,λv H1 F1 g1 f1 fh1 n1 rv=>?_⟩;exact⟨F1,d',v,rfl,fh1,rv,q _ H1 F1 g1 f1 fh1 n1 (.bl _)⟩
end
inductive pv where
 | nx (ψ:En)|rt (d:D)|ro (ds:List D)|bk (ψ:En)|ct (ψ:En)|rm (a:Gj) (kvs:List (Int×D))|rc (d:D) (ψ:En)
abbrev FS:=En->Option pv
def zd (K:ja)(H0 F:Hp)(E:sn):pv->Prop
 | .nx ψ=>∀ σ' H' F',aG F F'->fR F F' H0->RS K H0 F' H' ψ σ'->E.nx σ' H'
 | .bk ψ=>∀ σ' H' F',aG F F'->fR F F' H0->RS K H0 F' H' ψ σ'->E.bk σ' H'
 | .ct ψ=>∀ σ' H' F',aG F F'->fR F F' H0->RS K H0 F' H' ψ σ'->E.ct σ' H'
 | .rt d=>∀ v H' F',aG H0 H'->aG F F'->aG F' H'->fR F F' H0->fP K F' d v->E.rt v H'
 | .ro ds=>∀ a xs H' F',aG H0 H'->aG F F'->aG F' H'->fR F F' H0->H0 a=Gb->F' a=Gb->H' a=Ga (.lst xs)->fg K F' ds xs->E.rt (.ref a) H'
 | .rm a kvs=>∀ ws ep H' F',aG H0 H'->aG F F'->aG F' H'->fR F F' H0->F' a=Gb->H' a=Ga (.ext (lN a ws ep))->gb K F' kvs ws->xZ kvs->E.rt (.ref a) H'
 | .rc d ψ=>∀ v σ' H' F',aG F F'->fR F F' H0->RS K H0 F' H' ψ σ'->fP K F' d v->E.rt v H'
theorem fR.up {F F1 F2 H0:Hp}(a:fR F F1 H0)(b:fR F1 F2 H0):fR F F2 H0:=a.trans b (.refl _)
theorem fR.dn {F F1 H H0:Hp}(a:fR F F1 H)(s:aG H0 H):fR F F1 H0:=λb o h n=>s.free (a b o h n)
theorem zd.mono {K:ja}{H0 F F1:Hp}{E:sn}{o:pv}(f:aG F F1)(n:fR F F1 H0)(p:zd K H0 F E o):zd K H0 F1 E o:=by
 cases o with
 | nx ψ=>exact λσ' H' F' f2 n2 r=>p σ' H' F' (f.trans f2) (n.up n2) r
 | bk ψ=>exact λσ' H' F' f2 n2 r=>p σ' H' F' (f.trans f2) (n.up n2) r
 | ct ψ=>exact λσ' H' F' f2 n2 r=>p σ' H' F' (f.trans f2) (n.up n2) r
 | rt d=>exact λv H' F' g f2 fh n2 r=>p v H' F' g (f.trans f2) fh (n.up n2) r
 | ro ds=>exact λa xs H' F' g f2 fh n2 h1 h2 h3 r=>p a xs H' F' g (f.trans f2) fh (n.up n2) h1 h2 h3 r
 | rm a kvs=>exact λws ep H' F' g f2 fh n2 h1 h2 h3 r=>p ws ep H' F' g (f.trans f2) fh (n.up n2) h1 h2 h3 r
 | rc d ψ=>exact λv σ' H' F' f2 n2 r q=>p v σ' H' F' (f.trans f2) (n.up n2) r q
def Ha (K:ja)(g:FS):TS:=λE σ H=>∃ H0 F ψ o,RS K H0 F H ψ σ/\g ψ=Ga o/\zd K H0 F E o
abbrev lG (X:Cx)(st:Stmt)(g:FS):Prop:=PS X st (Ha X.K g)
abbrev lz (X:Cx)(st:List Stmt)(g:FS):Prop:=nQ X st (Ha X.K g)
noncomputable def iB (o:Option pv)(k:FS):Option pv:=o.bind λo=>match o with
 | .nx ψ=>k ψ
 | o=>Ga o
section
variable {X:Cx}{pos:Pos}
theorem ou:lz X [] (λψ=>Ga (.nx ψ)):=by
 refine ML DB λE σ H=>?_;rintro⟨H0,F,ψ,o,r,e,p⟩;cases e;exact p σ H F (.refl _) (.refl _ _) r
theorem fT {st:Stmt}{rest:List Stmt}{g k:FS}(h1:lG X st g)(h2:lz X rest k):lz X (st::rest) (λψ=>iB (g ψ) k):=by
 refine ML (sD h1 h2) λE σ H=>?_;rintro⟨H0,F,ψ,o,r,e,p⟩;obtain⟨o1,e1,e2⟩:=aj e;refine⟨H0,F,ψ,o1,r,e1,?_⟩;cases o1 with
 | nx env1=>exact λσ' H' F' f n r'=>⟨H0,F',env1,o,r',e2,p.mono f n⟩
 | rt d=>cases e2;exact p
 | ro d=>cases e2;exact p
 | rm a d=>cases e2;exact p
 | rc a d=>cases e2;exact p
 | bk d=>cases e2;exact p
 | ct d=>cases e2;exact p
theorem fM {st:Stmt}{g:FS}(h1:lG X st g):lz X [st] g:=wl h1
theorem ED (i:Nat){st:Stmt}{g:FS}(h:lG X st g):lG X st (λψ=>g (frzAt i ψ)):=by
 refine oF h λE σ H=>?_;rintro⟨H0,F,ψ,o,r,e,p⟩;obtain⟨F',f,n,r'⟩:=r.frzAt i;exact⟨H0,F',_,o,r',e,p.mono f n⟩
theorem gK {e:Expr}{f:FV}(h:PV X e f):lG X (.Return (Ga e) pos) (λψ=>(f ψ).bind λd=>Ga (.rt d)):=by
 refine oF (rz h) λE σ H=>?_;rintro⟨H0,F,ψ,o,r,e,p⟩;obtain⟨d,e1,e⟩:=aj e;cases e;exact⟨H0,F,ψ,d,r,e1,λv H' F' g f1 fh n rv=>p v H' F' (r.h0.trans g) f1 fh (n.dn r.h0) rv⟩
theorem OF {e:Expr}{f:FL}(h:PO X e f):lG X (.Return (Ga e) pos) (λψ=>(f ψ).bind λd=>Ga (.ro d)):=by
 refine oF (rz h) λE σ H=>?_;rintro⟨H0,F,ψ,o,r,e,p⟩;obtain⟨d,e1,e⟩:=aj e;cases e;exact⟨H0,F,ψ,d,r,e1,λa xs H' F' g f1 fh n ha fa ha' rr=>p a xs H' F' (r.h0.trans g) f1 fh (n.dn r.h0) (r.h0.free ha) fa ha' rr⟩
def go (i:Nat):FL:=λψ=>match ψ[i]? with
 | some (.own ds)=>Ga ds
 | _=>Gb
theorem Hc (i:Nat){x:Str}{p:Pos}(hN:X.N[i]?=Ga x:=by rfl)(hv:mq X.env.scope x:=by first|exact kw rfl|exact jZ (kw rfl)|exact jZ (jZ rfl))(hd:(x==("__debug__":Str))=false:=by decide)
  (hcd:(x==("__classdict__":Str))=false:=by decide):lG X (.Return (Ga (.Name x p)) pos) (λψ=>(go i ψ).bind λd=>Ga (.ro d)):=by
 refine oF (rz (iJ hN hv hd hcd)) λE σ H=>?_;rintro⟨H0,F,ψ,o,r,e,p⟩;obtain⟨ds,e1,e⟩:=aj e;cases e;unfold go at e1;split at e1
 .rename_i ds' z;cases e1;obtain⟨u,e1,a,xs,e2,ha,fa,h0a,rr⟩:=r.sl i _ z;subst e2;exact⟨.ref a,e1,p a xs H F r.h0 (.refl _) r.fh (.refl _ _) h0a fa ha rr⟩
 .cases e1
theorem lV {c:Expr}{a b:List Stmt}{fc:FB}{g k:FS}(hc:PB X c fc)(ha:lz X a g)(hb:lz X b k):lG X (.If c a b pos) (λψ=>(fc (frz ψ)).bind λt=>if t then g ψ else k ψ):=by
 refine oF (Km hc ha hb) λE σ H=>?_;rintro⟨H0,F,ψ,o,r,e,p⟩;obtain⟨t,e1,e⟩:=aj e;refine⟨H0,H,frz ψ,t,r.frz,e1,λH' g'=>?_⟩;cases t with
 | true=>exact pD ⟨H0,F,ψ,o,r.later g',e,p⟩
 | false=>exact pH ⟨H0,F,ψ,o,r.later g',e,p⟩
theorem gW (i:Nat){x:Str}{e:Expr}{f:FV}{pos':Pos}(h:PV X e f)(hN:X.N.Nodup)(hi:X.N[i]?=Ga x:=by rfl)(hx:oZ X.env.scope x:=by first|exact kw rfl|exact jZ rfl)
  (hs:swapsWith e (Ga (.Name x pos')) pos.line X.env=pure false:=by rfl) (hf:X.fn x=true\/X.env.scope.names.lookup x=Ga .local:=by first|exact .inl rfl|exact .inr rfl) :
  lG X (.Assign [.Name x pos'] e pos) (λψ=>(f ψ).bind λd=>Ga (.nx (ψ.set i (.val d)))):=by
 intro ω s σ H D I hw;refine pj hN hi hx h hs hf ω s σ H D I ?_;obtain⟨H0,F,ψ,o,r,e,p⟩:=hw;obtain⟨d,e1,e⟩:=aj e;cases e;have hl:i<σ.length:=by rw[I.len];exact(ji.mp hi).1
 exact⟨H0,F,ψ,d,r,e1,λv H' F' g f1 fh n rv=>p _ H' F' f1 (n.dn r.h0) ((r.grow g f1 fh n).put hl rv)⟩
theorem wG (i:Nat){x:Str}{e:Expr}{f:FL}{pos':Pos}(h:PO X e f)(hN:X.N.Nodup)(hi:X.N[i]?=Ga x:=by rfl)(hx:oZ X.env.scope x:=by first|exact kw rfl|exact jZ rfl)
  (hs:swapsWith e (Ga (.Name x pos')) pos.line X.env=pure false:=by rfl) (hf:X.fn x=true\/X.env.scope.names.lookup x=Ga .local:=by first|exact .inl rfl|exact .inr rfl) :
  lG X (.Assign [.Name x pos'] e pos) (λψ=>(f ψ).bind λd=>Ga (.nx (ψ.set i (.own d)))):=by
 intro ω s σ H D I hw;refine pj hN hi hx h hs hf ω s σ H D I ?_;obtain⟨H0,F,ψ,o,r,e,p⟩:=hw;obtain⟨d,e1,e⟩:=aj e;cases e;have hl:i<σ.length:=by rw[I.len];exact(ji.mp hi).1
 refine⟨H0,F,ψ,d,r,e1,λa xs H' F' g f1 fh n ha fa ha' rr=>p _ H' F' f1 (n.dn r.h0) ((r.grow g f1 fh n).putO hl ha' fa (r.h0.free ha) rr ?_)⟩;exact λj s o _ ej=>r.ne_free ha j s o ej
theorem Pe (i:Nat){x:Str}{e:Expr}{f:FV}{p p2 p3:Pos}(h:PV X e f)(hN:X.N[i]?=Ga x:=by rfl)(hv:mq X.env.scope x:=by first|exact kw rfl|exact jZ (kw rfl)|exact jZ (jZ rfl))
  (hst:starEach [e] X.env=[(false,eval e X.env)]:=by rfl) (hline:(p2.endLine==p3.line)=true:=by rfl)
  (hd:(x==("__debug__":Str))=false:=by decide) (hcd:(x==("__classdict__":Str))=false:=by decide)
  (hs:swapsWith (.Call (.Attribute (.Name x p) "append" p2) [e] [] p3) Gb pos.line X.env=pure false:=by rfl) :
  lG X (.Expr (.Call (.Attribute (.Name x p) "append" p2) [e] [] p3) pos) (λψ=>(go i ψ).bind λds=>(f ψ).bind λd=>if ds.length<1000000 then Ga (.nx (ψ.set i (.own (ds++[d])))) else Gb):=by
 refine oF (rN (zD vo qm qo rp (iJ (pos:=p) hN hv hd hcd) (gA h iL hst) rfl (by rw[hst];rfl) hline hst rfl) hs) λE σ H=>?_;rintro⟨H0,F,ψ,o,r,e,p⟩;obtain⟨ds,e1,e⟩:=aj e;obtain⟨d,e2,e⟩:=aj e;split at e;rotate_left
 .cases e
 rename_i hz;cases e;unfold go at e1;split at e1;rotate_left
 .cases e1
 rename_i ds' z;cases e1;obtain⟨u,e3,a,xs,e4,ha,fa,h0a,rr⟩:=r.sl i _ z;subst e4;refine⟨.ref a,e3,.inl ⟨rfl,xs,gp.of ha⟩,H0,F,ψ,d,r,e2,λv H' F' g f1 fh n rv=>?_⟩;have r2:=r.grow g f1 fh n;obtain⟨u2,e5,a2,xs2,e6,ha2,fa2,h0a2,rr2⟩:=r2.sl i _ z;rw[e3] at e5;cases e5;cases e6;have ex:xs2=xs:=by have:=g a _ ha;rw[ha2] at this;cases this;rfl
 subst ex;refine⟨a,xs2,v,rfl,rfl,ha2,?_,?_⟩
 .rw[<- rr2.length];exact jz hz (by rw[sizeLine_eq];decide)
 .exact p σ _ F' f1 (n.dn r.h0) (r2.chg z e3 (rr2.append (.cons rv .nil)))
abbrev FT:=D->En->Option En
def tG (K:ja)(t:FT):TG:=λv σ H Q=>∃ H0 F ψ d env',RS K H0 F H ψ σ/\fP K F d v/\t d ψ=Ga env'/\∀ σ',RS K H0 F H env' σ'->Q σ' H
abbrev tj (X:Cx)(tg:Expr)(t:FT):Prop:=PG X tg (tG X.K t)
def XG (K:ja)(t:List D->En->Option En):tR:=λvs σ H Q=>∃ H0 F ψ ds env',RS K H0 F H ψ σ/\fg K F ds vs/\t ds ψ=Ga env'/\∀ σ',RS K H0 F H env' σ'->Q σ' H
abbrev xT (X:Cx)(tg:List Expr)(t:List D->En->Option En):Prop:=ye X tg (XG X.K t)
theorem Yn {tg:Expr}{t t':TG}(h:PG X tg t)(m:∀ v σ H Q,t' v σ H Q->t v σ H Q):PG X tg t':=λω s σ H v u Q I r q=>h ω s σ H v u Q I r (m _ _ _ _ q)
theorem OX {tg:List Expr}{t t':tR}(h:ye X tg t)(m:∀ v σ H Q,t' v σ H Q->t v σ H Q):ye X tg t':=λω s σ H v u Q I r q=>h ω s σ H v u Q I r (m _ _ _ _ q)
theorem HH (i:Nat){x:Str}(hN:X.N.Nodup)(hi:X.N[i]?=Ga x:=by rfl)(hx:oZ X.env.scope x:=by first|exact kw rfl|exact jZ rfl)(hf:X.fn x=true\/X.env.scope.names.lookup x=Ga .local:=by first|exact .inl rfl|exact .inr rfl) :
  tj X (.Name x pos) (λd ψ=>Ga (ψ.set i (.val d))):=by
 intro ω s σ H v u Q I r hw;refine yn hN hi hx hf ω s σ H v u Q I r ?_;obtain⟨H0,F,ψ,d,env',rs,rv,e,q⟩:=hw;cases e;have hl:i<σ.length:=by rw[I.len];exact(ji.mp hi).1
 exact q _ (rs.put hl rv)
theorem zzG:xT X [] (λds ψ=>match ds with|[]=>Ga ψ|_=>Gb):=by
 refine OX Du λvs σ H Q=>?_;rintro⟨H0,F,ψ,ds,env',rs,rv,e,q⟩;cases rv with
 | nil=>cases e;exact⟨rfl,q σ rs⟩
 | cons _ _=>cases e
theorem SZ {e:Expr}{es:List Expr}{t:FT}{u:List D->En->Option En}(h1:tj X e t)(h2:xT X es u)(hs:(assignEach (e::es) X.env).map (·.2)=assign e X.env::(assignEach es X.env).map (·.2):=by rfl) :
  xT X (e::es) (λds ψ=>match ds with|d::r=>(t d ψ).bind λenv1=>u r env1|[]=>Gb):=by
 refine OX (BC h1 h2 hs) λvs σ H Q=>?_;rintro⟨H0,F,ψ,ds,env',rs,rv,e,q⟩;cases rv with
 | nil=>cases e
 | @cons d v ds vs h t =>
  obtain⟨env1,e1,e2⟩:=aj e;exact⟨v,vs,rfl,H0,F,ψ,d,env1,rs,h,e1,λσ1 r1=>⟨H0,F,env1,ds,env',r1,t,e2,q⟩⟩
theorem Tx {es:List Expr}{k:Nat}{t:List D->En->Option En}(hc:X.calm=true)(h:xT X es t)(hl:∀ ds ψ env',t ds ψ=Ga env'->ds.length=es.length)
  (hn:(assignEach es X.env).length=es.length:=by rfl) (hst:(assignEach es X.env).findIdx? (·.1)=Gb:=by rfl):tj X (.Tuple es k pos) (λd ψ=>(yR d).bind λds=>t ds ψ):=by
 refine Yn (EY hc h hn hst) λv σ H Q=>?_;rintro⟨H0,F,ψ,d,env',rs,rv,e,q⟩;obtain⟨ds,e1,e2⟩:=aj e;cases zsS e1;cases rv with
 | @tup a xs _ h1 rr=>exact⟨a,xs,rfl,lE rs.fh h1,by rw[<- rr.length];exact hl _ _ _ e2,H0,F,ψ,ds,env',rs,rr,e2,q⟩
def fY (t:FT)(body:FS):List D->FS
 | [],ψ=>Ga (.nx ψ)
 | x::r,ψ=>(t x ψ).bind λe1=>(body e1).bind λo=>match o with
  | .nx e=>fY t body r e
  | .ct e=>fY t body r e
  | .bk e=>Ga (.nx e)
  | .rt d=>Ga (.rt d)
  | .ro ds=>Ga (.ro ds)
  | .rm a kvs=>Ga (.rm a kvs)
  | .rc d e=>Ga (.rc d e)
def nJ (K:ja)(J:It)(F:Hp)(items:List D):Prop:=∀ (H:Hp),aG F H->∀ i,(items.length<=i->J.stop i H) /\
 ∀ d,items[i]?=Ga d->J.go i H/\∀ x H',J.yld i H x H'->aG H H'/\∃ F',aG F F'/\aG F' H'/\fR F F' H/\fP K F' d x
def tI (K:ja)(f:FL):TI:=λσ H R=>∃ H0 F ψ ds,RS K H0 F H ψ σ/\f ψ=Ga ds/\∀ J H' F',aG H H'->aG F F'->aG F' H'->fR F F' H->(∀ F2,aG F' F2->nJ K J F2 ds)->R J H'
abbrev wx (X:Cx)(tg iter:Expr)(f:FL):Prop:=PI X tg iter (tI X.K f)
theorem Ia {tg it:Expr}{t t':TI}(h:PI X tg it t)(m:∀ σ H Q,t' σ H Q->t σ H Q):PI X tg it t':=λω s σ H Q I q=>h ω s σ H Q I (m σ H Q q)
theorem lO {tg iter:Expr}{body:List Stmt}{f:FL}{t:FT}{g:FS}(hp:PassesOwn (model X.prog X.w) X.A X.env X.xe)(hc:X.calm=true)(hi:wx X tg iter f)(hg:tj X tg t)(hb:lz X body g)
  (hs:∀ x,foldedSetIterable iter X.env x=pure x:=by intro _;rfl):lG X (.For tg iter body [] pos) (λψ=>(f ψ).bind λds=>fY t g ds ψ):=by
 refine oF (Aa hp hc hi hg hb hs) λE σ H=>?_;rintro⟨H0,F,ψ,o,r,e,p⟩;obtain⟨ds,e1,e⟩:=aj e;refine⟨H0,F,ψ,ds,r,e1,λJ H1 F1 g1 f1 fh1 n1 Y=>?_⟩;have p1:=p.mono f1 (n1.dn r.h0);have r1:=r.grow g1 f1 fh1 n1;refine⟨λi m σ H=>i+m=ds.length/\∃ F2 ψ,RS X.K H0 F2 H ψ σ/\aG F1 F2/\fR F1 F2 H0/\fY t g (ds.drop i) ψ=Ga o,⟨ds.length,by omega,F1,ψ,r1,.refl _,.refl _ _,e⟩,?_⟩;rintro i m σ' H' ⟨hm,F2,env2,r2,f2,n2,e2⟩;have p2:=p1.mono f2 n2;obtain⟨yd,yg⟩:=Y F2 f2 H' r2.fh i;by_cases hlt:i<ds.length
 .obtain⟨go,yy⟩:=yg ds[i] (by simp[hlt]);rw[vb hlt] at e2;unfold fY at e2;obtain⟨e3,x1,x2⟩:=aj e2;obtain⟨o1,x3,x4⟩:=aj x2;refine .inr ⟨go,λσ3 H3=>i+1+(m-1)=ds.length/\∃ F3 ψ,RS X.K H0 F3 H3 ψ σ3/\aG F1 F3/\fR F1 F3 H0/\fY t g (ds.drop (i+1)) ψ=Ga o,λσ3 H3 h3=>⟨m-1,by omega,h3⟩,λx Hx yl=>?_⟩;obtain⟨gx,F4,f4,fh4,n4,rx⟩:=yy x Hx yl;have r4:=r2.grow gx f4 fh4 n4;refine⟨H0,F4,env2,ds[i],e3,r4,rx,x1,λσ5 r5=>⟨H0,F4,e3,o1,r5,x3,?_⟩⟩;have p4:=p2.mono f4 (n4.dn r2.h0);cases o1 with
  | nx e5=>exact λσ6 H6 F6 f6 n6 r6=>⟨by omega,F6,e5,r6,f2.trans (f4.trans f6),n2.up ((n4.dn r2.h0).up n6),x4⟩
  | ct e5=>exact λσ6 H6 F6 f6 n6 r6=>⟨by omega,F6,e5,r6,f2.trans (f4.trans f6),n2.up ((n4.dn r2.h0).up n6),x4⟩
  | bk e5=>cases x4;exact p4
  | rt d=>cases x4;exact p4
  | ro d=>cases x4;exact p4
  | rm a d=>cases x4;exact p4
  | rc a d=>cases x4;exact p4
 .rw[vI (by omega)] at e2;cases e2;exact .inl ⟨yd (by omega),p2 σ' H' F2 (.refl _) (.refl _ _) r2⟩
def toS:D->Option (List D)
 | .list xs=>Ga xs
 | .tuple xs=>Ga xs
 | _=>Gb
theorem WW {K:ja}{F:Hp}{a:Gj}{xs:List V}{ds:List D}(h:gp K F a xs)(r:fg K F ds xs):nJ K (HX K a) F ds:=by
 intro H g i;refine⟨λhi=>⟨xs,g.seq h,by rw[<- r.length];exact hi⟩,λd hd=>?_⟩;obtain⟨v,e1,e2⟩:=r.get hd;refine⟨⟨xs,v,g.seq h,e1⟩,λx H' y=>?_⟩;obtain⟨rfl,y⟩:=y;have:=y xs (g.seq h);rw[e1] at this;cases this;exact⟨.refl _,F,.refl _,g,.refl _ _,e2⟩
theorem UY {K:ja}{F:Hp}{a:Gj}{xs:List V}{ds:List D}(h:iQ K F a xs)(r:fg K F ds xs):nJ K (GN K a) F ds:=by
 intro H g i;refine⟨λhi=>⟨xs,lE g h,by rw[<- r.length];exact hi⟩,λd hd=>?_⟩;obtain⟨v,e1,e2⟩:=r.get hd;refine⟨⟨xs,v,lE g h,e1⟩,λx H' y=>?_⟩;obtain⟨rfl,y⟩:=y;have:=y xs (lE g h);rw[e1] at this;cases this;exact⟨.refl _,F,.refl _,g,.refl _ _,e2⟩
end
theorem CQ {ψ:Env}:∀ (names:List (Str×NameKind)) (cs:List (Str×Gj)),(∀ y∈names,y.2=.free->∃ c,ψ.cells.lookup y.1=Ga c)->(∀ x c,cs.lookup x=Ga c->ψ.cells.lookup x=Ga c) ->
  ∃ cl,(forIn names cs λ(y:Str×NameKind) (r:List (Str×Gj))=>(if (y.2==.free)=true then(do let a <- cellOf ψ y.1;pure (ForInStep.yield ((y.1,a)::r))) else pure (ForInStep.yield r):Sem (ForInStep (List (Str×Gj)))))=(pure cl:Sem (List (Str×Gj))) /\
   (∀ x c,cl.lookup x=Ga c->ψ.cells.lookup x=Ga c)/\(∀ x,(x,jY)∈names->∃ c,cl.lookup x=Ga c)/\∀ x c,cs.lookup x=Ga c->∃ c',cl.lookup x=Ga c'
 | [],cs,_,h2=>⟨cs,rfl,h2,λx hx=>by simp at hx,λx c h=>⟨c,h⟩⟩
 | (n,k)::r,cs,h1,h2=>by
  have h1':∀ y∈r,y.2=.free->∃ c,ψ.cells.lookup y.1=Ga c:=λy hy=>h1 y (jj _ hy);by_cases hk:k=.free
  .obtain⟨c,hc⟩:=h1 (n,k) jf hk;have h2':∀ x c',((n,c)::cs).lookup x=Ga c'->ψ.cells.lookup x=Ga c':=λx c' h=>by
    rw[kj] at h;cases hx:x==n with
    | true=>rw[hx] at h;cases h;rw[beq_iff_eq.mp hx];exact hc
    | false=>rw[hx] at h;exact h2 x c' h
   obtain⟨cl,e,a,b,d⟩:=CQ r ((n,c)::cs) h1' h2';refine⟨cl,?_,a,λx hx=>?_,λx c' h=>?_⟩
   .rw[qM];have hb:(k==jY)=true:=by simp[hk]
    simp only[hb,if_true];have hcell:cellOf ψ n=pure c:=by unfold cellOf;rw[hc]
    rw[hcell];exact e
   .rcases jx.mp hx with z|z
    .cases z;exact d n c (by simp[kj])
    .exact b x z
   .cases hx:x==n with
    | true=>exact d x c (by rw[kj,hx])
    | false=>exact d x c' (by rw[kj,hx];exact h)
  .obtain⟨cl,e,a,b,d⟩:=CQ r cs h1' h2;refine⟨cl,?_,a,λx hx=>?_,d⟩
   .rw[qM];have hb:(k==jY)=false:=by simpa using hk
    simp only[hb,kA,if_false];exact e
   .rcases jx.mp hx with z|z
    .cases z;exact absurd rfl hk
    .exact b x z
theorem Ob {scope:Scope}{ψ:Env}:closureFor scope ψ=(forIn scope.names [] λ(y:Str×NameKind) (r:List (Str×Gj))=>(if (y.2==.free)=true then(do let a <- cellOf ψ y.1;pure (ForInStep.yield ((y.1,a)::r))) else pure (ForInStep.yield r):Sem (ForInStep (List (Str×Gj))))) >>= pure:=by
 unfold closureFor;rfl
theorem ON {ψ:Env}:∀ {names:List (Str×NameKind)} {x:Str},names.lookup x=Ga .free ->
  (names.map λ(n,k)=>if (k==jY&&ψ.scope.kind==.function&&ψ.kindOf n==Ga .cell) then(n,vg) else(n,k)).lookup x=Ga .cell \/
  (names.map λ(n,k)=>if (k==jY&&ψ.scope.kind==.function&&ψ.kindOf n==Ga .cell) then(n,vg) else(n,k)).lookup x=Ga .free
 | [],_,h=>by simp at h
 | (n,k)::r,x,h=>by
  have ih:=@ON ψ r x;show List.lookup x ((if (k==jY&&ψ.scope.kind==.function&&ψ.kindOf n==Ga .cell)=true then(n,vg) else(n,k))::_)=_\/List.lookup x ((if (k==jY&&ψ.scope.kind==.function&&ψ.kindOf n==Ga .cell)=true then(n,vg) else(n,k))::_)=_;cases hx:x==n with
  | true =>
   simp only[kj,hx] at h;cases h;by_cases hc:(jY==jY&&ψ.scope.kind==.function&&ψ.kindOf n==Ga .cell)=true
   .rw[Ge hc];simp[kj,hx]
   .rw[Gf hc];simp[kj,hx]
  | false =>
   simp only[kj,hx] at h;by_cases hc:(k==jY&&ψ.scope.kind==.function&&ψ.kindOf n==Ga .cell)=true
   .rw[Ge hc];simp only[kj,hx];exact ih h
   .rw[Gf hc];simp only[kj,hx];exact ih h
structure rl (N:List Str)(osc:Scope)(scope:Scope)(x:Str)(fr:List Str)(ix:List Nat):Prop where
 kind:scope.kind=.function
 nocell:∀ y∈scope.names,y.2≠.cell
 locs:∀ y∈scope.names,y.2=.local->scope.names.lookup y.1=Ga .local
 tgt:scope.names.lookup x=Ga .local
 outs:∀ y∈scope.names,y.2=.free->osc.names.lookup y.1=Ga .cell\/osc.names.lookup y.1=Ga .free
 free:∀ y∈fr,scope.names.lookup y=Ga .free
 len:fr.length=ix.length
 at_:∀ (j i:Nat) (y:Str),ix[j]?=Ga i->fr[j]?=Ga y->N[i]?=Ga y
 apart:ix.Nodup
def prj (ix:List Nat)(σ:St):St:=Gb::ix.map λi=>(σ[i]?).join
def ib (X:Cx)(scope:Scope)(cl:List (Str×Gj))(C:Gj)(N':List Str)(s:Gh)(H:Hp)(fp:List Gj)(ω:List (Gj×Obj)):Cx :=
 { X with N:=N',s₀:=s,H₀:=H,env:=compEnvC scope cl C X.env,outer:=X.stack,ex:=fp,fn:=λ_=>false,pn:=X.pn++ω,xe:=λ_ _=>False }
def CD (J:It)(g:TG)(tc:TT)(te:TE)(D0:Gj)(σ:St)(H:Hp)(Qv:Hp->Prop):Prop:=∃ W:Nat->Nat->St->Hp->Prop,(∃ m,W 0 m σ H)/\∀ i m σ H,W i m σ H ->
 (J.stop i H/\Qv H)\/(J.go i H/\∃ N:St->Hp->Prop,(∀ σ' H',N σ' H'->∃ m',m'<m/\W (i+1) m' σ' H') /\
  ∀ x H',J.yld i H x H'->g x σ H' λσ2 H2=>tc σ2 H2 λb H3=>if b=true then te σ2 H3 λy H4=>∃ ys,H4 D0=Ga (.lst ys)/\ys.length<sizeLine/\N σ2 (upd H4 D0 (.lst (ys++[y]))) else N σ2 H3)
def Hv (X:Cx):List Expr->TT->Prop
 | [],t=>t=λ_ H Q=>Q true H
 | [c],t=>PT X c t
 | _,_=>False
section
variable {X:Cx}{ω:List (Gj×Obj)}{σ:St}{H2:Hp}{s2:Gh}{elt iter:Expr}{x:Str}{px pos:Pos}{ifs:List Expr}{scope:Scope}{cl:List (Str×Gj)}{fr:List Str}{ix:List Nat}
theorem Oz {E:Gg->Gh->Prop}(S:rl X.N X.env.scope scope x fr ix)(hl1:∀ x c,cl.lookup x=Ga c->X.env.cells.lookup x=Ga c)(hl2:∀ x,(x,jY)∈scope.names->∃ c,cl.lookup x=Ga c)
  {it:Gj} {fp:List Gj} {tn:Nat->Heap->Prop} {J:It} (I:eS X ω σ H2 s2) (T:tY X.prog X.w X.K (.Name x px) J fp it tn) (st:tn 0 s2.heap) (hf:∀ b∈fp,ot X ω H2 b) (hc:X.calm=true)
  {Qv:Gj->Hp->Prop} {g:TG} {tc:TT} {te:TE}
  (hblk:∀ C s H,PG (ib X scope cl C (x::fr) s H fp ω) (.Name x px) g/\Hv (ib X scope cl C (x::fr) s H fp ω) ifs tc/\PE (ib X scope cl C (x::fr) s H fp ω) elt te)
  (hW:∀ D0,H2 D0=Gb->CD J g tc te D0 (prj ix σ) (upd H2 D0 (.lst [])) (Qv D0))
  {RR:Gg->Gj->Result->Gh->Prop}
  (hRR:∀ D0 C s' H',eS X ω σ H' s'->s2.heap.objs.size<=C->(∃ m,s'.heap.Ns C m)->H' C=Gb->Qv D0 H'->RR (.ref D0) C (.ok .next) s') :
  wpAny (model X.prog X.w) X.A (newList []) (λacc s3=>wpAny (model X.prog X.w) X.A (newFunctionEnv scope X.env.globals cl [] X.env.qual Gb .none (Ga X.env)) (λcenv s4 =>
   codeAny (model X.prog X.w) X.A (.compStart (.ListComp elt [⟨.Name x px,iter,ifs,0⟩] scope pos) 0 (.ref it) acc { cenv with scope:=relabel scope X.env }) (RR acc cenv.locals) s4) E s3) E s2:=by
 have hD0:H2 s2.heap.objs.size=Gb:=I.fresh;obtain⟨W,⟨m0,w0⟩,turn⟩:=hW s2.heap.objs.size hD0;have I3:=I.lnew (t':=s2.toks) (ys:=[]) (its:=[]) .nil (jX _);refine wpAny_newList (wpAny_newFunctionEnv S.nocell (by intro y hy;simp at hy) (λh1 hns hsb=>?_) S.kind);dsimp only at hns hsb ⊢;generalize hHp:s2.heap.push { cls:=.type "list",dict:=Gb,data:=.seq ([]:List Gg).toArray }=P2 at hns hsb I3 ⊢;have hC:P2.objs.size=s2.heap.objs.size+1:=by rw[<- hHp,qZ]
 have keep:∀ b o,P2.get? b=Ga o->h1.get? b=Ga o:=λb o e=>hsb.extBut b o (jG (ju e)) (jg _ e);have neC:∀ b o,P2.get? b=Ga o->b≠P2.objs.size:=λb o e=>jG (ju e);have keep2:∀ b o,s2.heap.get? b=Ga o->P2.get? b=Ga o:=λb o e=>by rw[<- hHp];exact jg _ e
 have fpo:∀ b∈fp,∃ o,s2.heap.get? b=Ga o/\∀ v,o.data≠.cell v:=λb hb=>T.obj 0 _ st b hb;have fpC:∀ b∈fp,b≠P2.objs.size:=λb hb=>by obtain⟨o,e,_⟩:=fpo b hb;exact neC b o (keep2 b o e)
 have fpD:∀ b∈fp,b≠s2.heap.objs.size:=λb hb=>by obtain⟨o,e,_⟩:=fpo b hb;exact jG (ju e)
 have fpS:∀ b∈fp,b∉mL X.stack:=λb hb z=>by
  obtain⟨_,f1,f2,_⟩:=hf b hb;rcases jx.mp (I.stkSub b z) with q|q
  .exact f1 q
  .exact f2 q
 have cellK:∀ x c,cl.lookup x=Ga c->∃ v,P2.IsCell c v:=λx c e=>by
  obtain⟨v,o,ho,hd⟩:=I.cell x c (hl1 x c e);exact⟨v,o,keep2 c o ho,hd⟩
 have AS:(ib X scope cl P2.objs.size (x::fr) { s2 with heap:=P2 } (upd H2 s2.heap.objs.size (.lst [])) fp ω).Ok:=by
  refine⟨I.ok.mod,by show(relabel scope X.env).kind=_;exact S.kind,I.ok.glob,I.ok.blt,jr _,λy z c e1 e2=>?_,λy hy=>?_,λy c hfn _=>?_,I.ok.hd,I.ok.frames,.inl rfl,λb hb=>⟨fpC b hb,λy c e=>?_⟩,λb o e=>?_,?_,λb o e hb=>?_,fpS,I3.stack,I3.stkFree⟩
  .exact I.ok.inj y z c (hl1 y c e1) (hl1 z c e2)
  .
   have hy':(relabel scope X.env).names.lookup y=Ga .cell\/(relabel scope X.env).names.lookup y=Ga .free:=hy;have mem:(y,jY)∈scope.names:=by
    have hfind:∀ (names:List (Str×NameKind)),(∀ z∈names,z.2≠.cell)->((names.map λ(n,k)=>if (k==jY&&X.env.scope.kind==.function&&X.env.kindOf n==Ga .cell) then(n,vg) else(n,k)).lookup y=Ga .cell \/
      (names.map λ(n,k)=>if (k==jY&&X.env.scope.kind==.function&&X.env.kindOf n==Ga .cell) then(n,vg) else(n,k)).lookup y=Ga .free)->(y,jY)∈names:=by
     intro names;induction names with
     | nil=>intro _ h;simp at h
     | cons p r ih =>
      obtain⟨n,k⟩:=p;intro hn h;have ih':=ih (λz hz=>hn z (jj _ hz));have hk:k≠.cell:=hn (n,k) jf;rw[jB] at h;dsimp only at h;by_cases hcnd:(k==jY&&X.env.scope.kind==.function&&X.env.kindOf n==Ga .cell)=true
      .rw[Ge hcnd] at h;have hkf:k=.free:=by simp only[jo,beq_iff_eq] at hcnd;exact hcnd.1.1
       cases hx:y==n with
       | true=>rw[beq_iff_eq.mp hx,hkf];exact jf
       | false =>
        rw[kj,hx] at h;exact jj _ (ih' h)
      .rw[Gf hcnd] at h;cases hx:y==n with
       | true =>
        rw[kj,hx] at h;rcases h with h|h
        .exact absurd (jy h) hk
        .rw[beq_iff_eq.mp hx,<- jy h];exact jf
       | false =>
        rw[kj,hx] at h;exact jj _ (ih' h)
    exact hfind scope.names S.nocell hy'
   exact hl2 y mem
  .cases hfn
  .obtain⟨_,_,_,_,f4,_⟩:=hf b hb;exact f4 y c (hl1 y c e)
  .obtain⟨e1,e2⟩:=I3.bs b o e;exact⟨e1,e2⟩
  .exact j6 I.ok.bsz I3.sz
  .obtain⟨_,_,_,f3,_⟩:=hf b hb;rcases f3 with z|z
   .exact I.ok.noex b o e z
   .exact absurd (jz (ju e) (j6 I.ok.bsz z)) (ko _)
 have i4:eS (ib X scope cl P2.objs.size (x::fr) { s2 with heap:=P2 } (upd H2 s2.heap.objs.size (.lst [])) fp ω) [] (prj ix σ) (upd H2 s2.heap.objs.size (.lst [])) { s2 with heap:=h1,toks:=s2.toks+([]:List (Str×Gg)).length }:=by
  refine⟨AS,rfl,I.bare,Un.kept keep,⟨_,hns,λi y v e1 e2 e3=>?_⟩,λy c e=>?_,?_,λy c e=>?_,λp hp=>?_,I3.hok.kept keep,?_⟩
  .cases i with
   | zero=>simp[prj] at e2
   | succ j =>
    have e1':fr[j]?=Ga y:=by simpa [ib] using e1
    have hj:j<ix.length:=by rw[<- S.len];exact(ji.mp e1').1
    have eix:ix[j]?=Ga ix[j]:=jh hj;have e2':(σ[ix[j]]?).join=Ga v:=by simpa [prj,eix] using e2
    have e2'':σ[ix[j]]?=Ga (Ga v):=by
     cases z:σ[ix[j]]? with
     | none=>rw[z] at e2';cases e2'
     | some w=>rw[z] at e2';cases e2';rfl
    have hN:=S.at_ j ix[j] y eix e1';have hfree:=S.free y (jM e1');have hmem:(y,jY)∈scope.names:=kE hfree;have hout:=S.outs _ hmem rfl;obtain⟨m,hn,hl⟩:=I.loc;obtain⟨u,ru,lk⟩:=hl ix[j] y v hN e2'' (hout.elim (λz=>.inr (.inl z)) λz=>.inr (.inr z));refine⟨u,ru,.inr ?_⟩;rcases lk with ⟨k,_⟩|⟨k,c,ec,hcell⟩
    .exfalso;have k':X.env.scope.names.lookup y=Ga .local:=k;rcases hout with z|z
     .rw[z] at k';cases k'
     .rw[z] at k';cases k'
    .obtain⟨c',ec'⟩:=hl2 y hmem;have:c'=c:=by have:=hl1 y c' ec';rw[ec] at this;cases this;rfl
     subst this;obtain⟨o,ho,hd⟩:=hcell;exact⟨ON (ψ:=X.env) hfree,c',ec',o,keep _ o (keep2 _ o ho),hd⟩
  .obtain⟨v,o,ho,hd⟩:=cellK y c e;exact⟨v,o,keep _ o ho,hd⟩
  .show upd H2 s2.heap.objs.size (.lst []) P2.objs.size=Gb;exact I3.hok.fresh (jr _)
  .exact I3.freeC y c (hl1 y c e)
  .have hp':p∈X.pn++ω:=by simpa [ib] using hp
   obtain⟨e,n,ne,nf,d⟩:=I3.pin p hp';refine⟨keep _ _ e,n,neC _ _ e,λz=>?_,d⟩;rcases jx.mp (I.stkSub _ z) with q|q
   .exact ne q
   .exact nf q
  .simp[prj,ib,S.len]
 obtain⟨hg,hif,he⟩:=hblk P2.objs.size { s2 with heap:=P2 } (upd H2 s2.heap.objs.size (.lst []));generalize hX':ib X scope cl P2.objs.size (x::fr) { s2 with heap:=P2 } (upd H2 s2.heap.objs.size (.lst [])) fp ω=X' at AS i4 hg hif he;have xA:X'.A=X.A:=by rw[<- hX'];rfl
 have xP:X'.prog=X.prog:=by rw[<- hX'];rfl
 have xw:X'.w=X.w:=by rw[<- hX'];rfl
 have xK:X'.K=X.K:=by rw[<- hX'];rfl
 have xc:X'.calm=true:=by rw[<- hX'];exact hc
 have xe:X'.env=compEnvC scope cl P2.objs.size X.env:=by rw[<- hX'];rfl
 have xx:∀ v s,X'.xe v s->False:=by rw[<- hX'];exact λ_ _ z=>z
 have stat:∀ {H':Hp},(∀ b∈fp,H' b=Gb)->∀ b∈fp,ot X' [] H' b:=λhn b hb=>by
  obtain⟨_,f1,f2,f3,f4,f5⟩:=hf b hb;refine⟨hn b hb,?_,?_,?_,?_,?_⟩
  .rw[xe];exact fpC b hb
  .rw[<- hX'];exact fpS b hb
  .rw[<- hX'];exact .inl hb
  .rw[<- hX'];exact λy c e=>f4 y c (hl1 y c e)
  .rw[<- hX'];intro p hp;exact f5 p (by simpa [ib] using hp)
 have st1:tn 0 h1:=T.keep 0 _ _ st λb hb o e=>keep b o (keep2 b o e);have fr0:∀ b∈fp,upd H2 s2.heap.objs.size (.lst []) b=Gb:=λb hb=>by rw[eQ (fpD b hb)];exact(hf b hb).1
 have loop:∀ s4:Gh,s4={ s2 with heap:=h1,toks:=s2.toks+([]:List (Str×Gg)).length } ->
   codeAny (model X.prog X.w) X.A (.compLoop (.ListComp elt [⟨.Name x px,iter,ifs,0⟩] scope pos) 0 (.ref it) (.ref s2.heap.objs.size) (compEnvC scope cl P2.objs.size X.env)) (RR (.ref s2.heap.objs.size) P2.objs.size) s4:=by
  rintro s4 rfl;refine codeAny_compLoop_tests (λn s'=>∃ i σ' H',eS X' [] σ' H' s'/\tn i s'.heap/\(∀ b∈fp,H' b=Gb)/\W i n σ' H') ?_ m0 ⟨0,_,_,i4,st1,fr0,w0⟩;rintro n s5 ⟨i,σ5,H5,I5,st5,fr5,w5⟩;rcases turn i n σ5 H5 w5 with ⟨stop,qn⟩|⟨go,N,hN,step⟩
  .have dn:=T.done X' xP xw xK xc i [] s5 σ5 H5 (λ_ _=>False) I5 (stat fr5) st5 stop;rw[xA] at dn;refine wpAny_mono dn (λr s6 ⟨hr,I6⟩=>?_) λ_ _ z=>z.elim;subst hr;have base6:Un (mL X.stack) fp (upd H2 s2.heap.objs.size (.lst [])) H5 P2 s6.heap:=by have:=I6.base;rw[<- hX'] at this;exact this
   have os6:s6.os=s2.os:=by have:=I6.os;rw[<- hX'] at this;exact this
   have hok6:HOk X.prog X.w H5 s6.heap:=by have:=I6.hok;rw[xP,xw] at this;exact this
   have I7:eS X ω σ H5 s6:=eS.call' (s:={ s2 with heap:=P2,toks:=s2.toks }) I3 os6 base6 hok6 I6.bare λb hb=>by
    obtain⟨_,f1,_,f3,f4,f5⟩:=hf b hb;exact⟨f3,f1,f4,f5⟩
   refine hRR _ _ s6 H5 I7 (by rw[hC];exact vt _) ?_ ?_ qn
   .obtain⟨m,hm,_⟩:=I6.loc;rw[xe] at hm;exact⟨m,hm⟩
   .have:=I6.free;rw[xe] at this;exact this
  .have itm:=T.item X' xP xw xK xc i [] s5 σ5 H5 (λ_ _=>False) I5 (stat fr5) st5 go;rw[xA] at itm;refine wpAny_mono itm (λr s6 ⟨u,hr,h6⟩=>?_) λ_ _ z=>z.elim;subst hr;show wpAny _ _ ((letOwnedTupleGo (.Name x px) (.ref it) u) >>= λ_=>assign (.Name x px) (compEnvC scope cl P2.objs.size X.env) u) _ _ _;refine eN (wpAny_mono h6 (λ_ s7 ⟨xv,H7,I7,r7,y7,st7,fr7⟩=>?_) λ_ _ z=>z.elim);have I7':=I7.pinned (stat fr7) (T.obj _ _ st7);have stepx:=step xv H7 y7;have asg:=hg _ s7 σ5 H7 xv u _ I7' r7 stepx;rw[xA,xP,xw,xe] at asg;refine wpAny_mono asg (λ_ s8 ⟨σ8,H8,I8,q8⟩=>?_) λ_ _ z=>(xx _ _ z).elim;have again:∀ {H9:Hp} {s9:Gh},eS X' ([]++po fp s7.heap) σ8 H9 s9->N σ8 H9->∃ m,m<n/\∃ i σ' H',eS X' [] σ' H' s9/\tn i s9.heap/\(∀ b∈fp,H' b=Gb)/\W i m σ' H':=λ{H9 s9} I9 n9=>by
    obtain⟨m',hm,w9⟩:=hN σ8 H9 n9;refine⟨m',hm,i+1,σ8,H9,I9.unpinned,T.keep _ _ _ st7 λb hb o e=>(I9.pin (b,o) (jH _ (jH _ (nY hb e)))).1,λb hb=>?_,w9⟩;obtain⟨o,e,d⟩:=T.obj _ _ st7 b hb;exact(I9.pin (b,o) (jH _ (jH _ (nY hb e)))).2.1
   have fin:∀ (ok:Bool) (H9:Hp) (s9:Gh),eS X' ([]++po fp s7.heap) σ8 H9 s9->(if ok=true then te σ8 H9 λy H4=>∃ ys,H4 s2.heap.objs.size=Ga (.lst ys)/\ys.length<sizeLine/\N σ8 (upd H4 s2.heap.objs.size (.lst (ys++[y]))) else N σ8 H9) ->
     if ok=true then wpAny (model X.prog X.w) X.A (eval elt (compEnvC scope cl P2.objs.size X.env)) (λxv s10=>wpAny (model X.prog X.w) X.A (call (.builtin "list.append") [.ref s2.heap.objs.size,xv]) (λ_ s11=>∃ m,m<n/\∃ i σ' H',eS X' [] σ' H' s11/\tn i s11.heap/\(∀ b∈fp,H' b=Gb)/\W i m σ' H')
      (notedBy (model X.prog X.w) X.A (compEnvC scope cl P2.objs.size X.env) λe s'=>RR (.ref s2.heap.objs.size) P2.objs.size (.error e) s') s10) (notedBy (model X.prog X.w) X.A (compEnvC scope cl P2.objs.size X.env) λe s'=>RR (.ref s2.heap.objs.size) P2.objs.size (.error e) s') s9
     else ∃ m,m<n/\∃ i σ' H',eS X' [] σ' H' s9/\tn i s9.heap/\(∀ b∈fp,H' b=Gb)/\W i m σ' H':=by
    intro ok H9 s9 I9 q9;cases ok with
    | false =>
     rw[Gf jv] at q9 ⊢;exact again I9 q9
    | true =>
     rw[Ge rfl] at q9 ⊢;have ev:=he _ s9 σ8 H9 _ I9 q9;rw[xA,xP,xw,xe] at ev;refine wpAny_mono ev (λu s10 ⟨y,H10,I10,r10,ys,hys,hz,q10⟩=>?_) λ_ _ z=>(xx _ _ z).elim;have ap:=rp (X:=X') _ s10 σ8 H10 (.ref s2.heap.objs.size) [y] (.ref s2.heap.objs.size) [u] (λ_ H'=>N σ8 H') I10 rfl (.cons r10 .nil) ⟨_,ys,y,rfl,rfl,hys,hz,q10⟩;rw[xA,xP,xw] at ap;refine wpAny_mono ap (λ_ s11 ⟨_,H11,I11,_,q11⟩=>again I11 q11) λ_ _ z=>(xx _ _ z).elim
   match ifs,hif with
   | [],hif=>exact wpAny_tests_nil (by
     have hif':tc=λ_ H Q=>Q true H:=hif;rw[hif'] at q8;exact fin true H8 s8 I8 q8)
   | [c],hif =>
    have lF:=(show PT X' c tc from hif) _ s8 σ8 H8 _ I8 q8;rw[xA,xP,xw,xe] at lF;exact wpAny_tests_one (wpAny_mono lF (λok s9 ⟨H9,I9,q9⟩=>fin ok H9 s9 I9 q9) λ_ _ z=>(xx _ _ z).elim)
   | _::_::_,hif=>exact hif.elim
 exact codeAny_compStart_list (loop _ rfl) (T.self _ 0 _ _ _ st1 (loop _ rfl))
end
def oD:Option Sl->Sl
 | some (.val d)=>.val d
 | some (.own ds)=>.own ds
 | some (.fn c)=>.fn c
 | _=>.no
def lr (ix:List Nat)(ψ:En):En:=ix.map λ(i:Nat)=>oD ψ[i]?
def iq (fc:FB)(fe:FV)(base:En):List D->Option (List D)
 | []=>Ga []
 | x::r=>(fc (.val x::base)).bind λb=>if b then(fe (.val x::base)).bind λy=>(iq fc fe base r).bind λys=>Ga (y::ys) else iq fc fe base r
theorem RS.lend {K:ja}{H0 F H:Hp}{ψ:En}{σ:St}(r:RS K H0 F H ψ σ){a:Gj}{o:HO}(ha:H a=Gb)(pl:Pl o:=by trivial):RS K (upd H0 a o) F (upd H a o) ψ σ:=by
 have fa:=r.fh.free ha;refine⟨aG.up2 r.h0 (r.h0.free ha) ha pl,r.fh.put fa (λx u z=>by rw[ha] at z;cases z),λi s e=>?_,r.ap⟩
 .obtain⟨u,e1,q⟩:=r.sl i s e;refine⟨u,e1,?_⟩;cases s with
  | no=>trivial
  | val d=>exact q
  | own ds=>obtain⟨b,xs,e2,hb,fb,h0b,rr⟩:=q;have n:=gQ hb ha;exact⟨b,xs,e2,by rw[eQ n];exact hb,fb,by rw[eQ n];exact h0b,rr⟩
  | owk b ds=>obtain⟨xs,e2,hb,fb,h0b,rr⟩:=q;have n:=gQ hb ha;exact⟨xs,e2,by rw[eQ n];exact hb,fb,by rw[eQ n];exact h0b,rr⟩
  | dic ks=>obtain⟨b,as,ep,e2,hb,fb,h0b,rr⟩:=q;have n:=gQ hb ha;exact⟨b,as,ep,e2,by rw[eQ n];exact hb,fb,by rw[eQ n];exact h0b,rr⟩
  | dki oa kvs=>obtain⟨b,ws,ep,e2,hb,fb,h0b,rr⟩:=q;have n:=gQ hb ha;exact⟨b,ws,ep,e2,by rw[eQ n];exact hb,fb,by rw[eQ n];exact h0b,rr⟩
  | dkt kvs=>obtain⟨b,ws,ep,e2,hb,fb,h0b,rr⟩:=q;have n:=gQ hb ha;exact⟨b,ws,ep,e2,by rw[eQ n];exact hb,fb,by rw[eQ n];exact h0b,rr⟩
  | tab P=>obtain⟨ps,q,g⟩:=q;exact⟨ps,by rw[eQ (gQ q (r.h0.free ha))];exact q,g.updG λx u z=>by rw[r.h0.free ha] at z;cases z⟩
  | fn c=>obtain⟨g,e,q⟩:=q;exact⟨g,e,c.mono _ _ _ _ _ (.refl _) (Fz.upd λx u z=>by rw[ha] at z;cases z) q⟩
theorem fV.swp {H:Hp}{a:Gj}{o o':HO}(p:Pl o){l:List Gg}(g:fV (upd H a o) l):fV (upd H a o') l :=
 ⟨g.1,λpos cv e=>by
  obtain⟨c,x,vs,v,e1,e2,e3⟩:=g.2 pos cv e;have ne:c≠a:=λz=>by subst z;rw[eZ] at e2;cases e2;exact p
  rw[eQ ne] at e2;exact⟨c,x,vs,v,e1,by rw[eQ ne];exact e2,e3⟩⟩
theorem RS.swap {K:ja}{H0 F H:Hp}{ψ:En}{σ:St}{a:Gj}{o o':HO}(r:RS K (upd H0 a o) F H ψ σ)(fa:F a=Gb)(pl:Pl o:=by trivial)(pl':Pl o':=by trivial):RS K (upd H0 a o') F (upd H a o') ψ σ:=by
 refine⟨r.h0.swp pl pl',r.fh.put fa (pl.nf (r.h0.pl eZ pl)),λi s e=>?_,r.ap⟩
 .obtain⟨u,e1,q⟩:=r.sl i s e;have ne:∀ b,upd H0 a o b=Gb->b≠a:=λb h z=>by subst z;rw[eZ] at h;cases h
  refine⟨u,e1,?_⟩;cases s with
  | no=>trivial
  | val d=>exact q
  | own ds=>obtain⟨b,xs,e2,hb,fb,h0b,rr⟩:=q;have n:=ne b h0b;exact⟨b,xs,e2,by rw[eQ n];exact hb,fb,by rw[eQ n] at h0b ⊢;exact h0b,rr⟩
  | owk b ds=>obtain⟨xs,e2,hb,fb,h0b,rr⟩:=q;have n:=ne b h0b;exact⟨xs,e2,by rw[eQ n];exact hb,fb,by rw[eQ n] at h0b ⊢;exact h0b,rr⟩
  | dic ks=>obtain⟨b,as,ep,e2,hb,fb,h0b,rr⟩:=q;have n:=ne b h0b;exact⟨b,as,ep,e2,by rw[eQ n];exact hb,fb,by rw[eQ n] at h0b ⊢;exact h0b,rr⟩
  | dki oa kvs=>obtain⟨b,ws,ep,e2,hb,fb,h0b,rr⟩:=q;have n:=ne b h0b;exact⟨b,ws,ep,e2,by rw[eQ n];exact hb,fb,by rw[eQ n] at h0b ⊢;exact h0b,rr⟩
  | dkt kvs=>obtain⟨b,ws,ep,e2,hb,fb,h0b,rr⟩:=q;have n:=ne b h0b;exact⟨b,ws,ep,e2,by rw[eQ n];exact hb,fb,by rw[eQ n] at h0b ⊢;exact h0b,rr⟩
  | tab P =>
   obtain⟨ps,q,g⟩:=q;have n:P≠a:=λz=>by subst z;rw[eZ] at q;cases q;exact pl
   exact⟨ps,by rw[eQ n] at q ⊢;exact q,g.swp pl⟩
  | fn c=>obtain⟨g,e,q⟩:=q;exact⟨g,e,c.mono _ _ _ _ _ (.refl _) (Fz.upd (pl.nf (r.h0.pl eZ pl))) q⟩
theorem LC {ix:List Nat}{ψ:En}{j:Nat}{s:Sl}(h:(lr ix ψ)[j]?=Ga s)(o:gJ s=true):∃ k ds,ix[j]?=Ga k/\ψ[k]?=Ga (.own ds)/\s=.own ds:=by
 unfold lr at h;rw[jw] at h;cases z:ix[j]? with
 | none=>rw[z] at h;cases h
 | some k =>
  rw[z] at h;have h2:=jy h;unfold oD at h2;dsimp only at h2;split at h2
  .subst h2;cases o
  .rename_i ds hd;subst h2;exact⟨k,ds,rfl,hd,rfl⟩
  .subst h2;cases o
  .subst h2;cases o
theorem RS.prj {K:ja}{H0 F H:Hp}{ψ:En}{σ:St}(r:RS K H0 F H ψ σ)(ix:List Nat)(nd:ix.Nodup):RS K H0 F H (.no::lr ix ψ) (T3.prj ix σ):=by
 refine⟨r.h0,r.fh,λi s e=>?_,λi j a s t o1 o2 e1 e2 e3 e4=>?_⟩
 .cases i with
  | zero=>simp at e;subst e;exact⟨Gb,rfl,trivial⟩
  | succ j =>
   have e':(lr ix ψ)[j]?=Ga s:=by simpa using e
   unfold lr at e';rw[jw] at e';cases z:ix[j]? with
   | none=>rw[z] at e';cases e'
   | some k =>
    rw[z] at e';have e2:=jy e';refine⟨(σ[k]?).join,by simp[T3.prj,z],?_⟩;unfold oD at e2;dsimp only at e2;split at e2
    .rename_i d hd;subst e2;obtain⟨u,e3,v,e4,rv⟩:=r.sl k _ hd;exact⟨v,by rw[e3,e4];rfl,rv⟩
    .rename_i ds hd;subst e2;obtain⟨u,e3,a,xs,e4,rv⟩:=r.sl k _ hd;exact⟨a,xs,by rw[e3,e4];rfl,rv⟩
    .rename_i c hd;subst e2;obtain⟨u,e3,f,e4,rv⟩:=r.sl k _ hd;exact⟨f,by rw[e3,e4];rfl,rv⟩
    .subst e2;trivial
 .cases i with
  | zero=>simp at e1;subst e1;cases o1
  | succ i =>
   cases j with
   | zero=>simp at e2;subst e2;cases o2
   | succ j =>
    obtain⟨k1,d1,x1,y1,z1⟩:=LC (by simpa using e1) o1;obtain⟨k2,d2,x2,y2,z2⟩:=LC (by simpa using e2) o2;have g1:σ[k1]?=Ga (Ga (.ref a)):=by
     obtain⟨u,e5,b,xs,e6,_⟩:=r.sl k1 _ y1;have:(T3.prj ix σ)[i+1]?=Ga ((σ[k1]?).join):=by simp[T3.prj,x1]
     rw[e3] at this;rw[e5,e6] at this ⊢;exact congrArg Ga (jy this).symm
    have g2:σ[k2]?=Ga (Ga (.ref a)):=by
     obtain⟨u,e5,b,xs,e6,_⟩:=r.sl k2 _ y2;have:(T3.prj ix σ)[j+1]?=Ga ((σ[k2]?).join):=by simp[T3.prj,x2]
     rw[e4] at this;rw[e5,e6] at this ⊢;exact congrArg Ga (jy this).symm
    have ek:k1=k2:=r.ap k1 k2 a _ _ rfl rfl y1 y2 g1 g2;subst ek;have hi:i<ix.length:=(ji.mp x1).1;have hj:j<ix.length:=(ji.mp x2).1;have:i=j:=(JB (h₀:=hi) (h₁:=hj) nd).mp (by rw[(ji.mp x1).2,(ji.mp x2).2]);rw[this]
theorem LL {K:ja}{J:It}{H0 F1 H1:Hp}{ψ:En}{σ:St}{ds rs:List D}{fc:FB}{fe:FV}{ix:List Nat}{tc:TT}{D0:Gj}{Qv:Hp->Prop}{g:TG}
  (hg:∀ v σ H Q,tG K (λd ψ=>Ga (ψ.set 0 (.val d))) v σ H Q->g v σ H Q)
  (htc:∀ σ H Q,tT K fc σ H Q->tc σ H Q) (nd:ix.Nodup) (r:RS K H0 F1 H1 ψ σ) (Y:∀ F2,aG F1 F2->nJ K J F2 ds) (e:iq fc fe (lr ix ψ) ds=Ga rs) (hz:ds.length<=1000000) (hD:H1 D0=Gb)
  (q:∀ xs H' F',aG H1 H'->aG F1 F'->aG F' H'->fR F1 F' H1->F' D0=Gb->H' D0=Ga (.lst xs)->fg K F' rs xs->Qv H') :
  CD J g tc (tV K fe) D0 (prj ix σ) (upd H1 D0 (.lst [])) Qv:=by
 have fD:F1 D0=Gb:=r.fh.free hD;have h0D:H0 D0=Gb:=r.h0.free hD;have g0:aG H1 (upd H1 D0 (.lst [])):=aG.new hD;refine⟨λi m σ' H'=>i+m=ds.length/\∃ F2 sx don ys rest,RS K (upd H0 D0 (.lst ys)) F2 H' (sx::lr ix ψ) σ'/\aG F1 F2/\fR F1 F2 H1/\aG H1 H'/\F2 D0=Gb/\H' D0=Ga (.lst ys)/\fg K F2 don ys/\don.length<=i /\
  iq fc fe (lr ix ψ) (ds.drop i)=Ga rest/\rs=don++rest,⟨ds.length,by omega,F1,.no,[],[],rs,(r.prj ix nd).lend hD,.refl _,.refl _ _,g0,fD,eZ,.nil,jr _,e,rfl⟩,?_⟩
 rintro i m σ' H' ⟨hm,F2,sx,don,ys,rest,r2,f2,n2,g2,fd2,hd2,rr2,hl2,e2,ers⟩;obtain⟨yd,yg⟩:=Y F2 f2 H' r2.fh i;by_cases hlt:i<ds.length
 .obtain⟨go,yy⟩:=yg ds[i] (by simp[hlt]);rw[vb hlt] at e2;unfold iq at e2;obtain⟨b,x1,x2⟩:=aj e2;refine .inr ⟨go,λσ3 H3=>i+1+(m-1)=ds.length/\∃ F2 sx don ys rest,RS K (upd H0 D0 (.lst ys)) F2 H3 (sx::lr ix ψ) σ3/\aG F1 F2/\fR F1 F2 H1/\aG H1 H3/\F2 D0=Gb/\H3 D0=Ga (.lst ys)/\fg K F2 don ys/\don.length<=i+1 /\
   iq fc fe (lr ix ψ) (ds.drop (i+1))=Ga rest/\rs=don++rest,λσ3 H3 h3=>⟨m-1,by omega,h3⟩,λx Hx yl=>?_⟩
  obtain⟨gx,F4,f4,fh4,n4,rx⟩:=yy x Hx yl;have r4:=r2.grow gx f4 fh4 n4;have noD:∀ {F F' H:Hp},F D0=Gb->(∃ o,H D0=Ga o)->fR F F' H->F' D0=Gb:=λ{F F' H} a ⟨o,b⟩ n=>by
   cases z:F' D0 with
   | none=>rfl
   | some o'=>have:=n D0 o' z a;rw[b] at this;cases this
  have fd4:F4 D0=Gb:=noD fd2 ⟨_,hd2⟩ n4;refine hg _ _ _ _ ⟨upd H0 D0 (.lst ys),F4,sx::lr ix ψ,ds[i],.val ds[i]::lr ix ψ,r4,rx,rfl,λσ5 r5=>?_⟩;refine htc _ _ _ ⟨upd H0 D0 (.lst ys),F4,.val ds[i]::lr ix ψ,b,r5,x1,λH6 g6=>?_⟩;have r6:=r5.later g6;have hd6:H6 D0=Ga (.lst ys):=g6 _ _ (gx _ _ hd2);have s6:aG H1 H6:=g2.trans (gx.trans g6);have nn4:fR F1 F4 H1:=n2.trans n4 g2;cases b with
  | true =>
   obtain⟨y,x3,x4⟩:=aj x2;obtain⟨ys',x5,x6⟩:=aj x4;cases x6;refine pD ⟨upd H0 D0 (.lst ys),F4,.val ds[i]::lr ix ψ,y,r6,x3,λv H7 F7 g7 f7 fh7 n7 rv=>⟨ys,g7 _ _ hd6,?_,by omega,F7,.val ds[i],don++[y],ys++[v],ys',?_,f2.trans (f4.trans f7),?_,?_,noD fd4 ⟨_,hd6⟩ n7,eZ,?_,?_,x5,?_⟩⟩
   .rw[<- rr2.length];have:don.length<1000000:=by omega
    exact jz this (by rw[sizeLine_eq];decide)
   .exact(r6.grow g7 f7 fh7 n7).swap (noD fd4 ⟨_,hd6⟩ n7)
   .exact nn4.trans n7 s6
   .exact(s6.trans g7).put hD (Ow.nf (ob:=.lst ys) trivial (g7 _ _ hd6))
   .exact((rr2.mono f4).mono f7).append (.cons rv .nil)
   .rw[jC,uW];omega
   .rw[ers,uX];rfl
  | false =>
   exact pH ⟨by omega,F4,.val ds[i],don,ys,rest,r6,f2.trans f4,nn4,s6,fd4,hd6,rr2.mono f4,by omega,x2,ers⟩
 .rw[vI (by omega)] at e2;cases e2;refine .inl ⟨yd (by omega),q ys H' F2 g2 f2 r2.fh n2 fd2 hd2 ?_⟩;rw[ers,j4];exact rr2
def fQ (fi:FL)(fc:FB)(fe:FV)(ix:List Nat):FL:=λψ=>(fi ψ).bind λds=>if ds.length<=1000000 then iq fc fe (lr ix ψ) ds else Gb
section
variable {X:Cx}{elt iter:Expr}{x:Str}{px pos:Pos}{ifs:List Expr}{scope:Scope}{fr:List Str}{ix:List Nat}{fi:FL}{fc:FB}{fe:FV}
def wf (K:ja)(ifs:List Expr)(fc:FB):TT:=match ifs with
 | []=>λ_ H Q=>Q true H
 | _=>tT K fc
structure yX (X:Cx)(scope:Scope)(x:Str)(px:Pos)(fr:List Str)(ifs:List Expr)(elt:Expr)(fc:FB)(fe:FV):Prop where
 h:∀ cl C s H fp ω,tj (ib X scope cl C (x::fr) s H fp ω) (.Name x px) (λd ψ=>Ga (ψ.set 0 (.val d))) /\
  Hv (ib X scope cl C (x::fr) s H fp ω) ifs (wf X.K ifs fc)/\PV (ib X scope cl C (x::fr) s H fp ω) elt fe
 hn:ifs=[]->fc=λ_=>Ga true
theorem nu (nd:(x::fr).Nodup)(hl:scope.names.lookup x=Ga .local)(he:∀ cl C s H fp ω,PV (ib X scope cl C (x::fr) s H fp ω) elt fe):yX X scope x px fr [] elt (λ_=>Ga true) fe :=
 ⟨λcl C s H fp ω=>⟨HH 0 nd rfl (.inl (lookup_relabel_local hl)) (.inr (lookup_relabel_local hl)),rfl,he cl C s H fp ω⟩,λ_=>rfl⟩
theorem tU {c:Expr}(nd:(x::fr).Nodup)(hl:scope.names.lookup x=Ga .local)(hc:∀ cl C s H fp ω,PB (ib X scope cl C (x::fr) s H fp ω) c fc)(he:∀ cl C s H fp ω,PV (ib X scope cl C (x::fr) s H fp ω) elt fe) :
  yX X scope x px fr [c] elt fc fe :=
 ⟨λcl C s H fp ω=>⟨HH 0 nd rfl (.inl (lookup_relabel_local hl)) (.inr (lookup_relabel_local hl)),hc cl C s H fp ω,he cl C s H fp ω⟩,λh=>nomatch h⟩
theorem yX.tc (B:yX X scope x px fr ifs elt fc fe):∀ σ H Q,tT X.K fc σ H Q->wf X.K ifs fc σ H Q:=by
 intro σ H Q h;cases ifs with
 | nil =>
  obtain⟨H0,F,ψ,b,r,e,q⟩:=h;rw[B.hn rfl] at e;cases e;exact q H (.refl _)
 | cons c r=>exact h
theorem Lw {ω:List (Gj×Obj)}{σ:St}{H:Hp}{s:Gh}(I:eS X ω σ H s)(S:rl X.N X.env.scope scope x fr ix):∃ cl,closureFor scope X.env=pure cl/\(∀ x c,cl.lookup x=Ga c->X.env.cells.lookup x=Ga c)/\∀ x,(x,jY)∈scope.names->∃ c,cl.lookup x=Ga c:=by
 obtain⟨cl,e,a,b,_⟩:=CQ (ψ:=X.env) scope.names [] (λy hy hf=>I.ok.has y.1 (S.outs y hy hf)) (λx c h=>by simp at h);refine⟨cl,?_,a,b⟩;rw[Ob,e];rfl
theorem om (hc:X.calm=true)(S:rl X.N X.env.scope scope x fr ix)(hi:wx X (.Name x px) iter fi)(B:yX X scope x px fr ifs elt fc fe)(hs:∀ v,foldedSetIterable iter X.env v=pure v:=by intro _;rfl) :
  PO X (.ListComp elt [⟨.Name x px,iter,ifs,0⟩] scope pos) (fQ fi fc fe ix):=by
 intro ω s σ H Q I hw;obtain⟨cl,hclos,hl1,hl2⟩:=Lw I S;obtain⟨H0,F,ψ,rs,r,e,q⟩:=hw;obtain⟨ds,e1,e⟩:=aj e;split at e;rotate_left
 .cases e
 rename_i hz;rw[eval_ListComp];refine wpAny_comprehension_free (use:=Gb) rfl hs hclos S.kind S.locs (wpAny_mono (hi ω s σ H (λJ H1=>∃ F1,aG H H1/\aG F F1/\aG F1 H1/\fR F F1 H/\∀ F2,aG F1 F2->nJ X.K J F2 ds) I ⟨H0,F,ψ,ds,r,e1,λJ H1 F1 g1 f1 fh1 n1 Y=>⟨F1,g1,f1,fh1,n1,Y⟩⟩)
  (λxv s1 h1=>wpAny_mono h1 (λitv s2 h2=>?_) λ_ _ z=>z) λ_ _ z=>z)
 obtain⟨it,fp,tn,J,H2,eit,I2,T,st2,f2,F1,g1,f1,fh1,n1,Y⟩:=h2;subst eit;refine Oz (g:=tG X.K (λd ψ=>Ga (ψ.set 0 (.val d)))) (te:=tV X.K fe) (tc:=wf X.K ifs fc) (RR:=λacc C=>compPost (model X.prog X.w) X.A X.xe Gb (EP X ω σ Q) acc C) (Qv:=λD0 H'=>Q (.ref D0) H') S hl1 hl2 I2 T st2 f2 hc (λC s' H'=>B.h cl C s' H' fp ω) (λD0 hD=>?_) λD0 C s' H' I' hC hn hf hq=>?_
 .exact LL (λ_ _ _ _ h=>h) B.tc S.apart (r.grow g1 f1 fh1 n1) Y e hz hD λxs H' F' g2 f2' fh2 n2 fd hd rr=>q D0 xs H' F' (g1.trans g2) (f1.trans f2') fh2 (n1.trans n2 g1) (g1.free hD) fd hd rr
 .obtain⟨m,hm⟩:=hn;refine⟨m,hm,λh' sb=>?_⟩;have nC:∀ p o,s2.heap.get? p=Ga o->p≠C:=λp o e=>jG (jz (ju e) hC);refine⟨.ref D0,H',?_,rfl,hq⟩;refine I'.turned (it:=C) (t':=s'.toks) (λb o hb e=>sb.extBut b o hb e) hf (vC (jz I2.lt hC)) (.inr (j6 I2.sz hC)) (λy c ec z=>?_) λp hp z=>?_
  .obtain⟨v,qv⟩:=I2.cell y c ec;exact absurd (jz qv.lt (by rw[z];exact hC)) (ko _)
  .exact nC _ _ (I2.pin p hp).1 z
end
section
variable {X:Cx}{elt iter:Expr}{x y:Str}{px py pos spos:Pos}{ifs:List Expr}{scope:Scope}{fr:List Str}{ix:List Nat}{fi:FL}{fc:FB}{fe:FV}
theorem CF (i:Nat)(hc:X.calm=true)(S:rl X.N X.env.scope scope x fr ix)(hit:wx X (.Name x px) iter fi)(B:yX X scope x px fr ifs elt fc fe)(hN:X.N.Nodup)(hi:X.N[i]?=Ga y:=by rfl)(hy:X.env.scope.names.lookup y=Ga .local:=by rfl)
  (hsw:swapsWith (.ListComp elt [⟨.Name x px,iter,ifs,0⟩] scope pos) (Ga (.Name y py)) spos.line X.env=pure true:=by rfl) (hs:∀ v,foldedSetIterable iter X.env v=pure v:=by intro _;rfl) :
  lG X (.Assign [.Name y py] (.ListComp elt [⟨.Name x px,iter,ifs,0⟩] scope pos) spos) (λψ=>(fQ fi fc fe ix ψ).bind λd=>Ga (.nx (ψ.set i (.own d)))):=by
 intro ω s σ H D I hw;obtain⟨cl,hclos,hl1,hl2⟩:=Lw I S;obtain⟨H0,F,ψ,o,r,e,p⟩:=hw;obtain⟨rs,e0,e⟩:=aj e;cases e;obtain⟨ds,e1,e⟩:=aj e0;split at e;rotate_left
 .cases e
 rename_i hz;have hl:i<σ.length:=by rw[I.len];exact(ji.mp hi).1
 rw[exec_Assign_Name_used _ _ _ _ hsw];refine eN (wpAny_standAt (eN ?_));show wpAny _ X.A (do let _ <- comprehension (.ListComp elt [⟨.Name x px,iter,ifs,0⟩] scope pos) scope X.env _ (newList []) false (eval iter X.env) (Ga (assign (.Name y py) X.env))) _ _ s;refine eN (wpAny_mono (wpAny_comprehension_free (use:=Ga (assign (.Name y py) X.env)) (Q:=λ_ s'=>SP X ω D .next s') rfl hs hclos S.kind S.locs
  (wpAny_mono (hit ω s σ H (λJ H1=>∃ F1,aG H H1/\aG F F1/\aG F1 H1/\fR F F1 H/\∀ F2,aG F1 F2->nJ X.K J F2 ds) I ⟨H0,F,ψ,ds,r,e1,λJ H1 F1 g1 f1 fh1 n1 Y=>⟨F1,g1,f1,fh1,n1,Y⟩⟩)
  (λxv s1 h1=>wpAny_mono h1 (λitv s2 h2=>?_) λ_ _ z=>z) λ_ _ z=>z)) (λ_ s' hq=>eO (eO hq)) λ_ _ z=>z)
 obtain⟨it,fp,tn,J,H2,eit,I2,T,st2,f2,F1,g1,f1,fh1,n1,Y⟩:=h2;subst eit;refine Oz (g:=tG X.K (λd ψ=>Ga (ψ.set 0 (.val d)))) (te:=tV X.K fe) (tc:=wf X.K ifs fc) (RR:=λacc C=>compPost (model X.prog X.w) X.A X.xe (Ga (assign (.Name y py) X.env)) (λ_ s'=>SP X ω D .next s') acc C) (Qv:=λD0 H'=>D.nx (σ.set i (Ga (.ref D0))) H') S hl1 hl2 I2 T st2 f2 hc
  (λC s' H'=>B.h cl C s' H' fp ω) (λD0 hD=>?_) λD0 C s' H' I' hC hn hf hq=>?_
 .refine LL (λ_ _ _ _ h=>h) B.tc S.apart (r.grow g1 f1 fh1 n1) Y e hz hD λxs H' F' g2 f2' fh2 n2 fd hd rr=>?_;have nn:fR F F' H:=n1.trans n2 g1;have r':=r.grow (g1.trans g2) (f1.trans f2') fh2 nn;refine p _ H' F' (f1.trans f2') (nn.dn r.h0) (r'.putO hl hd fd (r.h0.free (g1.free hD)) rr ?_);exact λj s o _ ej=>r.ne_free (g1.free hD) j s o ej
 .obtain⟨m,hm⟩:=hn;have nC:∀ p o,s2.heap.get? p=Ga o->p≠C:=λp o e=>jG (jz (ju e) hC);have cC:∀ y c,X.env.cells.lookup y=Ga c->c≠C:=λy c ec z=>by
   obtain⟨v,qv⟩:=I2.cell y c ec;exact absurd (jz qv.lt (by rw[z];exact hC)) (ko _)
  have lC:C≠X.env.locals:=vC (jz I2.lt hC);show wpAny _ X.A (assign (.Name y py) X.env (.ref D0)) _ _ _;refine wpAny_assign_Name (wq I' hN hi (.inl hy) (v:=.ref D0) rfl (λs'' I'' ⟨a,sb,ha⟩=>?_) (.inr hy));have aC:C≠a:=by
   rcases ha with z|z
   .rw[z];exact lC
   .exact(cC _ _ z).symm
  refine⟨m,hm.sameBut sb aC,λh' sb2=>⟨_,H',?_,hq⟩⟩;refine I''.turned (it:=C) (t':=s''.toks) (λb o hb e=>sb2.extBut b o hb e) hf lC (.inr (j6 I2.sz hC)) cC λp hp z=>nC _ _ (I2.pin p hp).1 z
end
def yc (i:Nat):pv->pv
 | .nx e=>.nx (frzAt i e)
 | o=>o
theorem Ct (i:Nat){X:Cx}{st:Stmt}{g:FS}(h:lG X st g):lG X st (λψ=>(g ψ).bind λo=>Ga (yc i o)):=by
 refine oF h λE σ H=>?_;rintro⟨H0,F,ψ,o,r,e,p⟩;obtain⟨o1,e1,e2⟩:=aj e;cases e2;refine⟨H0,F,ψ,o1,r,e1,?_⟩;cases o1 with
 | nx e3 =>
  intro σ' H' F' f n r';obtain⟨F2,f2,n2,r2⟩:=r'.frzAt i;exact p σ' H' F2 (f.trans f2) (n.up n2) r2
 | rt d=>exact p
 | ro d=>exact p
 | rm a d=>exact p
 | rc a d=>exact p
 | bk d=>exact p
 | ct d=>exact p
section
variable {X:Cx}{tg:Expr}{pos:Pos}
theorem Ww {l:Expr}{tl:TE}(hl:PE X l tl):PI X tg l (λσ H R=>tl σ H λx H1=>∃ a,x=.ref a/\(((∃ xs,gp X.K H1 a xs)/\R (HX X.K a) H1)\/((∃ xs,iQ X.K H1 a xs)/\R (GN X.K a) H1))):=by
 intro ω s σ H R I h;refine fW (hl ω s σ H _ I h) λv s1 ⟨x,H1,I1,r1,a,e,q1⟩=>?_;subst e;cases r1;rcases q1 with ⟨⟨xs,hq⟩,q⟩|⟨⟨xs,hq⟩,q⟩
 .obtain⟨its,rv,p,hz⟩:=I1.list hq;refine wpAny_pyIter_list p.isList ⟨s1.heap.objs.size,[s1.heap.objs.size],_,_,H1,rfl,I1.kept (t':=s1.toks) λb o e=>jg _ e,AR a _,⟨_,jD _ rfl,rfl,rfl⟩,λb hb=>?_,q⟩;cases jp.mp hb;exact I1.fpOk (jr _) I1.fresh
 .obtain⟨its,rv,p,hz⟩:=I1.tuple hq;refine wpAny_pyIter_tuple (show s1.heap.IsTuple a its.toArray from p) ⟨s1.heap.objs.size,[s1.heap.objs.size],_,_,H1,rfl,I1.kept (t':=s1.toks) λb o e=>jg _ e,zo a _,⟨_,jD _ rfl,rfl,rfl⟩,λb hb=>?_,q⟩;cases jp.mp hb;exact I1.fpOk (jr _) I1.fresh
theorem mi {l:Expr}{f:FV}(h:PV X l f):wx X tg l (λψ=>(f ψ).bind toS):=by
 refine Ia (Ww h) λσ H R=>?_;rintro⟨H0,F,ψ,ds,r,e,q⟩;obtain⟨d,e1,e2⟩:=aj e;refine⟨H0,F,ψ,d,r,e1,λv H1 F1 g1 f1 fh1 n1 rv=>?_⟩;cases rv<;>first|(cases e2;done)|skip
 .rename_i a xs ds' h1 rr;cases e2;exact⟨a,rfl,.inr ⟨⟨xs,lE fh1 h1⟩,q _ H1 F1 g1 f1 fh1 n1 λF2 f2=>UY (lE f2 h1) (rr.mono f2)⟩⟩
 .rename_i a xs ds' h1 rr;cases e2;exact⟨a,rfl,.inl ⟨⟨xs,fh1.seq h1⟩,q _ H1 F1 g1 f1 fh1 n1 λF2 f2=>WW (f2.seq h1) (rr.mono f2)⟩⟩
def gT (lo:Int)(n:Nat):List D:=(jb n).map λk=>.int (lo+(k:Nat))
theorem Ny {K:ja}{F:Hp}{lo:Int}{n:Nat}:nJ K (AG lo n) F (gT lo n):=by
 intro H g i;refine⟨λhi=>(by simpa [gT] using hi:n<=i),λd hd=>?_⟩;have hi:i<n:=by have:=(ji.mp hd).1;simpa [gT] using this
 refine⟨hi,λx H' y=>?_⟩;obtain⟨rfl,rfl⟩:=y;have:d=.int (lo+(i:Nat)):=by
  have h2:(gT lo n)[i]?=Ga (.int (lo+(i:Nat))):=by simp[gT,hi]
  rw[h2] at hd;exact(jy hd).symm
 subst this;exact⟨.refl _,F,.refl _,g,.refl _ _,.int _⟩
def gf:D->Option (List D)
 | .int j=>if -(2^62)<=j/\j<2^62 then Ga (gT 0 j.toNat) else Gb
 | _=>Gb
def nr:D->D->Option (List D)
 | .int i,.int j=>if -(2^62)<=i/\i<2^62/\-(2^62)<=j/\j<2^62 then Ga (gT i (j-i).toNat) else Gb
 | _,_=>Gb
theorem nK {a:Expr}{f:FV}{p:Pos}(hg:Gl X "range")(hm:X.mg "range"=Gb)(ha:PV X a f)(hs:starEach [a] X.env=[(false,eval a X.env)]:=by rfl):wx X tg (.Call (.Name "range" p) [a] [] pos) (λψ=>(f ψ).bind gf):=by
 refine Ia (zT hg hm (gA ha iL hs) hs) λσ H R=>?_;rintro⟨H0,F,ψ,ds,r,e,q⟩;obtain⟨d,e1,e2⟩:=aj e;refine⟨H0,F,ψ,d,r,e1,λv H1 F1 g1 f1 fh1 n1 rv=>?_⟩;cases rv<;>first|(cases e2;done)|skip
 rename_i j;unfold gf at e2;dsimp only at e2;split at e2
 .rename_i c;cases e2;exact⟨j,rfl,c.1,c.2,q _ H1 F1 g1 f1 fh1 n1 λF2 f2=>Ny⟩
 .cases e2
theorem BW {a b:Expr}{f g:FV}{p:Pos}(hg:Gl X "range")(hm:X.mg "range"=Gb)(ha:PV X a f)(hb:PV X b g)(hs:starEach [a,b] X.env=[(false,eval a X.env),(false,eval b X.env)]:=by rfl)(hs2:starEach [b] X.env=[(false,eval b X.env)]:=by rfl) :
  wx X tg (.Call (.Name "range" p) [a,b] [] pos) (λψ=>(f ψ).bind λx=>(g ψ).bind λy=>nr x y):=by
 refine Ia (Bk hg hm (gA ha (gA hb iL hs2) (by rw[hs,hs2])) hs hs2) λσ H R=>?_;rintro⟨H0,F,ψ,ds,r,e,q⟩;obtain⟨d,e1,e2⟩:=aj e;obtain⟨d2,e3,e4⟩:=aj e2;refine⟨H0,F,ψ,d,r,e1,λv H1 F1 g1 f1 fh1 n1 rv=>⟨H0,F1,ψ,d2,r.grow g1 f1 fh1 n1,e3,λv2 H2 F2 g2 f2 fh2 n2 rv2=>?_⟩⟩;cases rv<;>first|(cases e4;done)|skip
 cases rv2<;>first|(cases e4;done)|skip
 rename_i i j;unfold nr at e4;dsimp only at e4;split at e4
 .rename_i c;cases e4;exact⟨i,j,rfl,c,q _ H2 F2 (g1.trans g2) (f1.trans f2) fh2 (n1.trans n2 g1) λF2 f2=>Ny⟩
 .cases e4
end
def gP (K:ja)(fm:List D->Option D):Sp:=λvs H Q _=>∃ F ds d,aG F H/\fg K F ds vs/\fm ds=Ga d/\∀ v H' F',aG H H'->aG F F'->aG F' H'->fR F F' H->fP K F' d v->Q v H'
def wN (K:ja)(fm:List D->Option (List D)):Sp:=λvs H Q _=>∃ F ds d,aG F H/\fg K F ds vs/\fm ds=Ga d/\∀ a xs H' F',aG H H'->aG F F'->aG F' H'->fR F F' H->H a=Gb->F' a=Gb->H' a=Ga (.lst xs)->fg K F' d xs->Q (.ref a) H'
def lR (n:Nat)(ds:List D):En:=ds.map Sl.val++jP (n-ds.length) Sl.no
theorem RS.start {K:ja}{F H:Hp}{N:List Str}{ds:List D}{vs:List V}(g:aG F H)(r:fg K F ds vs):RS K H F H (lR N.length ds) (start N vs):=by
 have hl:=r.length;refine⟨.refl _,g,λi s e=>?_,λi j a s t o1 o2 e1=>?_⟩
 .unfold lR at e;by_cases hi:i<ds.length
  .rw[ky (by simpa using hi),jw] at e;obtain⟨v,e1,e2⟩:=r.get (jh hi);rw[jh hi] at e;cases e;refine⟨Ga v,?_,v,rfl,e2⟩;unfold L2.start;rw[ky (by rw[jd];omega),jw,e1];rfl
  .rw[kH (by simpa using hi),ue] at e;split at e
   .rename_i hlt;cases e;refine⟨Gb,?_,trivial⟩;unfold L2.start;rw[kH (by rw[jd];omega),ue];rw[jd] at hlt ⊢;rw[Ge (by omega)]
   .cases e
 .exfalso;unfold lR at e1;by_cases hi:i<ds.length
  .rw[ky (by simpa using hi),jw,jh hi] at e1;cases e1;cases o1
  .rw[kH (by simpa using hi),ue] at e1;split at e1<;>cases e1;cases o1
section
variable {P:Program}{w:World}{K:ja}{mg:Str->Option Gg}{base:Heap}{x qual:Str}{st:Stmt}{f:Gj}{fd:Gi}{N ps:List Str}{k:Nat}
theorem RJ {fm:List D->Option D}(F:nW K x qual st f fd)(S:fo N ps (eP st))(hlen:∀ ds d,fm ds=Ga d->ds.length=ps.length)
  (hb:∀ (cdv:Gg) (A:Around) (outer:List Env) (s:Gh) (H:Hp) (E:XK),gr k (A.deeper (envOfC qual (eP st) s.heap.objs.size f cdv)) ->
   ∃ g,lz (lX fL P w K mg base N qual (eP st) f cdv A outer s H E).nox (gE st) g/\∀ ds d,fm ds=Ga d->g (lR N.length ds)=Ga (.rt d)\/(∃ xs,d=.list xs/\g (lR N.length ds)=Ga (.ro xs))) :
  fB P w K mg base fL (k+1) f fd ps (gP K fm):=by
 refine F.ok S (λvs H Q E h=>?_) (λcdv A outer s H vs Q E hr h=>?_)
 .obtain⟨F0,ds,d,_,r,e,_⟩:=h;rw[<- r.length];exact hlen ds d e
 .obtain⟨F0,ds,d,g0,r,e,q⟩:=h;obtain⟨g,hg,hm⟩:=hb cdv A outer s H E hr;rcases hm ds d e with z|⟨xs,rfl,z⟩
  .exact⟨_,hg,H,F0,_,_,RS.start g0 r,z,λv H' F' g1 f1 fh1 n1 rv=>q v H' F' g1 f1 fh1 n1 rv⟩
  .refine⟨_,hg,H,F0,_,_,RS.start g0 r,z,λa ys H' F' g1 f1 fh1 n1 ha fa ha' rr=>?_⟩;have sF:aG F' (upd F' a (.lst ys)):=aG.new fa;refine q (.ref a) H' (upd F' a (.lst ys)) g1 (f1.trans sF) (λb o h=>?_) (λb o h nb=>?_) (.lst (gp.of eZ) (rr.mono sF))
   .exact aG.upL fh1 ha' trivial b o h
   .by_cases hb:b=a
    .subst hb;exact ha
    .rw[eQ hb] at h;exact n1 b o h nb
theorem Xp {fm:List D->Option (List D)}(F:nW K x qual st f fd)(S:fo N ps (eP st))(hlen:∀ ds d,fm ds=Ga d->ds.length=ps.length)
  (hb:∀ (cdv:Gg) (A:Around) (outer:List Env) (s:Gh) (H:Hp) (E:XK),gr k (A.deeper (envOfC qual (eP st) s.heap.objs.size f cdv)) ->
   ∃ g,lz (lX fL P w K mg base N qual (eP st) f cdv A outer s H E).nox (gE st) g/\∀ ds d,fm ds=Ga d->g (lR N.length ds)=Ga (.ro d)) :
  fB P w K mg base fL (k+1) f fd ps (wN K fm):=by
 refine F.ok S (λvs H Q E h=>?_) (λcdv A outer s H vs Q E hr h=>?_)
 .obtain⟨F0,ds,d,_,r,e,_⟩:=h;rw[<- r.length];exact hlen ds d e
 .obtain⟨F0,ds,d,g0,r,e,q⟩:=h;obtain⟨g,hg,hm⟩:=hb cdv A outer s H E hr;exact⟨_,hg,H,F0,_,_,RS.start g0 r,hm ds d e,λa xs H' F' g1 f1 fh1 n1 ha fa ha' rr=>q a xs H' F' g1 f1 fh1 n1 ha fa ha' rr⟩
end
section
variable {X:Cx}{k:Nat}{f:Gj}{fd:Gi}{ps:List Str}{x:Str}{p pos:Pos}{e:Expr}{es:List Expr}{g:FL}
theorem Xc {fm:List D->Option D}(F:fB X.prog X.w X.K X.mg X.base fL k f fd ps (gP X.K fm))(hr:gr k X.A)(hm:X.mg x=Ga (.ref f))(hk:kG X.K (.ref f)=true)(hb:lS X.K fd ps [])(ha:PL X (e::es) g)(hg:Gl X x:=by rfl)
  (hdb:(x==("__debug__":Str))=false:=by decide) (he:starEach (e::es) X.env=(false,eval e X.env)::starEach es X.env:=by rfl) (hpl:(backTo pos (starEach es X.env)).any (·.1)=false:=by rfl) :
  PV X (.Call (.Name x p) (e::es) [] pos) (λψ=>(g ψ).bind fm):=by
 refine gX (ph F hr hg hm hk hb .nil tB ha.pa hdb he hpl) λσ H Q=>?_;rintro⟨H0,F,ψ,d,r,e,q⟩;obtain⟨ds,e1,e2⟩:=aj e;refine⟨H0,F,ψ,ds,r,e1,λvs H1 F1 g1 f1 fh1 n1 rv=>⟨F1,ds,d,fh1,by rw[j4];exact rv,e2,λv H2 F2 g2 f2 fh2 n2 rv2=>?_⟩⟩;exact q v H2 F2 (g1.trans g2) (f1.trans f2) fh2 (n1.trans n2 g1) rv2
theorem Am {fm:List D->Option (List D)}(F:fB X.prog X.w X.K X.mg X.base fL k f fd ps (wN X.K fm))(hr:gr k X.A)(hm:X.mg x=Ga (.ref f))(hk:kG X.K (.ref f)=true)(hb:lS X.K fd ps [])(ha:PL X (e::es) g)(hg:Gl X x:=by rfl)
  (hdb:(x==("__debug__":Str))=false:=by decide) (he:starEach (e::es) X.env=(false,eval e X.env)::starEach es X.env:=by rfl) (hpl:(backTo pos (starEach es X.env)).any (·.1)=false:=by rfl) :
  PO X (.Call (.Name x p) (e::es) [] pos) (λψ=>(g ψ).bind fm):=by
 refine gX (ph F hr hg hm hk hb .nil tB ha.pa hdb he hpl) λσ H Q=>?_;rintro⟨H0,F,ψ,d,r,e,q⟩;obtain⟨ds,e1,e2⟩:=aj e;refine⟨H0,F,ψ,ds,r,e1,λvs H1 F1 g1 f1 fh1 n1 rv=>⟨F1,ds,d,fh1,by rw[j4];exact rv,e2,λa xs H2 F2 g2 f2 fh2 n2 ha fa ha' rr=>?_⟩⟩;exact q a xs H2 F2 (g1.trans g2) (f1.trans f2) fh2 (n1.trans n2 g1) (g1.free ha) fa ha' rr
end
def zi:D->D->Option Bool
 | .none,.none=>Ga true
 | _,.none=>Ga false
 | .bool a,.bool b=>Ga (a==b)
 | _,.bool _=>Ga false
 | _,_=>Gb
def iP (a b:D):Option D:=(zi a b).bind λk=>Ga (.bool k)
def gS (a b:D):Option D:=(zi a b).bind λk=>Ga (.bool (!k))
section
variable {X:Cx}{pos:Pos}{a b:Expr}{f g:FV}
theorem Nf {K:ja}{F:Hp}{a b:D}{x y:V}{u v:Gg}{k:Bool}(ra:fP K F a x)(rb:fP K F b y)(rx:fC x u)(ry:fC y v)(e:zi a b=Ga k):plainIs u v=true/\(u==v)=k:=by
 cases rb<;>first|(cases ra<;>cases e;done)|skip
 .cases ry;cases ra<;>cases e<;>first
   | (cases rx;exact⟨rfl,rfl⟩)
   | (obtain⟨t,rfl⟩:=rx;exact⟨rfl,rfl⟩)
 .rename_i c;cases ry;cases ra<;>cases e<;>first
   | (cases rx;exact⟨rfl,rfl⟩)
   | (cases rx;rename_i b;cases b<;>cases c<;>exact⟨rfl,rfl⟩)
   | (obtain⟨t,rfl⟩:=rx;exact⟨rfl,rfl⟩)
theorem KL:ic X (compareOp .Is) (si X.K iP):=by
 intro ω s σ H x y v u Q I rx ry h;obtain⟨F,a,b,d,g,ra,rb,e,q⟩:=h;obtain⟨k,e1,e2⟩:=aj e;obtain⟨z1,z2⟩:=Nf ra rb rx ry e1;cases e2;exact wpAny_is_plain z1 (by rw[z2];exact⟨.bl k,H,I,rfl,q k rfl⟩)
theorem SO:ic X (compareOp .IsNot) (si X.K gS):=by
 intro ω s σ H x y v u Q I rx ry h;obtain⟨F,a,b,d,g,ra,rb,e,q⟩:=h;obtain⟨k,e1,e2⟩:=aj e;obtain⟨z1,z2⟩:=Nf ra rb rx ry e1;cases e2;exact wpAny_isNot_plain z1 (by rw[z2];exact⟨.bl (!k),H,I,rfl,q _ rfl⟩)
theorem OK:∀ a b d,iP a b=Ga d->∃ k,d=.bool k:=λa b d h=>by obtain⟨k,_,e⟩:=aj h;cases e;exact⟨_,rfl⟩
theorem YU:∀ a b d,gS a b=Ga d->∃ k,d=.bool k:=λa b d h=>by obtain⟨k,_,e⟩:=aj h;cases e;exact⟨_,rfl⟩
theorem QC (ha:PV X a f)(hb:PV X b g):PV X (.Compare a [.Is] [b] pos) (λψ=>(f ψ).bind λx=>(g ψ).bind λy=>iP x y):=xo KL (tS OK) ha hb
theorem xC (ha:PV X a f)(hb:PV X b g):PB X (.Compare a [.Is] [b] pos) (λψ=>((f ψ).bind λx=>(g ψ).bind λy=>iP x y).bind iy):=tq KL (tS OK) ha hb
theorem EL (ha:PV X a f)(hb:PV X b g):PB X (.Compare a [.IsNot] [b] pos) (λψ=>((f ψ).bind λx=>(g ψ).bind λy=>gS x y).bind iy):=tq SO (tS YU) ha hb
def sk (a:D)(xs:List D):Bool:=a.canLay0&&jE xs&&decide (min (jF xs) a.depth<=90)
def wS (a b:D):Option D:=(toS b).bind λxs=>if sk a xs then Ga (.bool (xs.any λy=>jW y a)) else Gb
def lM (a b:D):Option D:=(toS b).bind λxs=>if sk a xs then Ga (.bool (!xs.any λy=>jW y a)) else Gb
theorem OY {a:D}{xs:List D}(h:sk a xs=true):a.canLay0=true/\jE xs=true/\min (jF xs) a.depth<=90:=by
 unfold sk at h;simp only[jo,decide_eq_true_eq] at h;exact⟨h.1.1,h.1.2,h.2⟩
theorem Ui (hu:X.A.units+100<cLine):ic X (compareOp .In) (si X.K wS):=by
 intro ω s σ H x y v u Q I rx ry h;obtain⟨F,a,b,d,g,ra,rb,e,q⟩:=h;obtain⟨xs,e1,e2⟩:=aj e;split at e2
 .rename_i ok;obtain⟨h1,h2,h3⟩:=OY ok;obtain⟨as,ha⟩:=ra.reads I g (wy h1) rx;obtain⟨bs,hb⟩:=rb.reads I g (by cases b<;>cases e1<;>(rw[mM];exact Bs h2)) ry;cases b<;>cases e1
  .exact SeqAt.in_list_reads hb ha h2 h1 (by omega) ⟨.bl _,H,I,rfl,q _ (jy e2).symm⟩
  .exact SeqAt.in_tuple_reads hb ha h2 h1 (by omega) ⟨.bl _,H,I,rfl,q _ (jy e2).symm⟩
 .cases e2
theorem Sn (hu:X.A.units+100<cLine):ic X (compareOp .NotIn) (si X.K lM):=by
 intro ω s σ H x y v u Q I rx ry h;obtain⟨F,a,b,d,g,ra,rb,e,q⟩:=h;obtain⟨xs,e1,e2⟩:=aj e;split at e2
 .rename_i ok;obtain⟨h1,h2,h3⟩:=OY ok;obtain⟨as,ha⟩:=ra.reads I g (wy h1) rx;obtain⟨bs,hb⟩:=rb.reads I g (by cases b<;>cases e1<;>(rw[mM];exact Bs h2)) ry;cases b<;>cases e1
  .exact SeqAt.notIn_list_reads hb ha h2 h1 (by omega) ⟨.bl _,H,I,rfl,q _ (jy e2).symm⟩
  .exact SeqAt.notIn_tuple_reads hb ha h2 h1 (by omega) ⟨.bl _,H,I,rfl,q _ (jy e2).symm⟩
 .cases e2
theorem Vg:∀ a b d,wS a b=Ga d->∃ k,d=.bool k:=λa b d h=>by obtain⟨k,_,e⟩:=aj h;split at e<;>cases e;exact⟨_,rfl⟩
theorem zwJ:∀ a b d,lM a b=Ga d->∃ k,d=.bool k:=λa b d h=>by obtain⟨k,_,e⟩:=aj h;split at e<;>cases e;exact⟨_,rfl⟩
theorem Qn (hu:X.A.units+100<cLine)(ha:PV X a f)(hb:PV X b g)(hm:behindInMarks .In b=false:=by first|rfl|with_unfolding_all rfl):PB X (.Compare a [.In] [b] pos) (λψ=>((f ψ).bind λx=>(g ψ).bind λy=>wS x y).bind iy):=tq (Ui hu) (tS Vg) ha hb hm
theorem Vf (hu:X.A.units+100<cLine)(ha:PV X a f)(hb:PV X b g)(hm:behindInMarks .NotIn b=false:=by first|rfl|with_unfolding_all rfl):PB X (.Compare a [.NotIn] [b] pos) (λψ=>((f ψ).bind λx=>(g ψ).bind λy=>lM x y).bind iy):=tq (Sn hu) (tS zwJ) ha hb hm
def zu:D->Option D
 | .int i=>Ga (.int (-i))
 | _=>Gb
theorem WN (ha:PV X a f):PV X (.UnaryOp .USub a pos) (λψ=>(f ψ).bind zu):=by
 refine gX (Ka FM ha) λσ H Q=>?_;rintro⟨H0,F,ψ,d,r,e,q⟩;obtain⟨d',e1,e⟩:=aj e;refine⟨H0,F,ψ,d',r,e1,λv H1 F1 g1 f1 fh1 n1 rv=>?_⟩;cases rv<;>first|(cases e;done)|skip
 cases e;exact⟨_,rfl,q _ H1 F1 g1 f1 fh1 n1 (.int _)⟩
def zl:D->Option D
 | .int i=>Ga (.int (kR i))
 | _=>Gb
theorem Xh:wC X "int.bit_length" (λx xs H Q=>∃ i,x=.int i/\xs=[]/\Q (.int (kR i)) H):=by
 intro ω s σ H x xs v us Q I rx rv h;obtain⟨i,rfl,rfl,q⟩:=h;obtain⟨t,rfl⟩:=rx;cases rv;exact call_int_bit_length ⟨.int _,H,I.tok _,⟨_,rfl⟩,q⟩
theorem Xs {p p2:Pos}(ha:PV X a f)(hbase:attributeBase a "bit_length" X.env (eval a X.env)=eval a X.env:=by rfl)(hline:(p.endLine==p2.line)=true:=by rfl):PV X (.Call (.Attribute a "bit_length" p) [] [] p2) (λψ=>(f ψ).bind zl):=by
 refine gX (He PySem.F.plainAttrs_int PySem.F.slot_int_bit_length PySem.F.type_int_bit_length Xh ha hbase hline) λσ H Q=>?_;rintro⟨H0,F,ψ,d,r,e,q⟩;obtain⟨d',e1,e⟩:=aj e;refine⟨H0,F,ψ,d',r,e1,λv H1 F1 g1 f1 fh1 n1 rv=>?_⟩;cases rv<;>first|(cases e;done)|skip
 rename_i i;cases e;exact⟨rfl,i,rfl,rfl,q _ H1 F1 g1 f1 fh1 n1 (.int _)⟩
def iZ:List D->Option (List Int)
 | []=>Ga []
 | .int i::r=>(iZ r).bind λis=>Ga (i::is)
 | _=>Gb
theorem AV:∀ {ds:List D} {is:List Int},iZ ds=Ga is->ds=is.map jc
 | [],_,h=>by cases h;rfl
 | .int i::r,is,h=>by
  obtain⟨js,e1,e2⟩:=aj (show(iZ r).bind (λis=>Ga (i::is))=Ga is from h);cases e2;rw[AV e1];rfl
 | .none::_,_,h=>by cases h
 | .bool _::_,_,h=>by cases h
 | .str _::_,_,h=>by cases h
 | .list _::_,_,h=>by cases h
 | .tuple _::_,_,h=>by cases h
 | .dict _::_,_,h=>by cases h
theorem fg.ints_inv {K:ja}{F:Hp}:∀ {is:List Int} {vs:List V},fg K F (is.map jc) vs->vs=is.map V.int
 | [],_,h=>by cases h;rfl
 | i::is,_,h=>by
  cases h with
  | cons h t=>cases h;rw[fg.ints_inv t];rfl
theorem Yu {x:Str}{v:V}{u:Gg}{d:D}(hm:X.mg x=Ga u)(r:fC v u)(rd:∀ K F,fP K F d v)(hg:Gl X x:=by rfl)(hd:(x==("__debug__":Str))=false:=by decide):PV X (.Name x pos) (λ_=>Ga d):=Ca (DE hg hm r hd) rd
theorem Zo {op op':CmpOp}{r r':R2}{k k':D->D->Option D}{c:Expr}{h:FV}(ho:ic X (compareOp op) r)(ho':ic X (compareOp op') r')(hr:rJ X.K r k)(hr':rJ X.K r' k')(ha:PV X a f)(hb:PV X b g)(hc:PV X c h)
  (hm:lastMarks [op,op'] [b,c]=false:=by with_unfolding_all rfl) :
  PV X (.Compare a [op,op'] [b,c] pos) (λψ=>(f ψ).bind λx=>(g ψ).bind λy=>((k x y).bind iy).bind λt=>if t then(h ψ).bind λz=>k' y z else Ga (.bool false)):=by
 refine gX (BN ho ho' ha hb hc hm) λσ H Q=>?_;rintro⟨H0,F,ψ,d,rs,e,q⟩;obtain⟨x,e1,e⟩:=aj e;obtain⟨y,e2,e⟩:=aj e;obtain⟨t,e3,e⟩:=aj e;obtain⟨d1,e4,e5⟩:=aj e3;cases AJ e5;refine⟨H0,F,ψ,x,rs,e1,λv H1 F1 g1 f1 fh1 n1 rv=>⟨H0,F1,ψ,y,rs.grow g1 f1 fh1 n1,e2,λu H2 F2 g2 f2 fh2 n2 ru=>?_⟩⟩;refine hr F2 H2 v u x y _ _ fh2 (rv.mono f2) ru e4 λw H3 F3 g3 f3 fh3 n3 rw3=>?_;cases rw3;refine⟨t,rfl,?_⟩;have gg:aG H H3:=(g1.trans g2).trans g3;have ff:aG F F3:=(f1.trans f2).trans f3;have nn:fR F F3 H:=(n1.trans n2 g1).trans n3 (g1.trans g2);cases t with
 | true =>
  obtain⟨z,e6,e7⟩:=aj (show(h ψ).bind (λz=>k' y z)=Ga d from e);refine pD ⟨H0,F3,ψ,z,rs.grow gg ff fh3 nn,e6,λw4 H4 F4 g4 f4 fh4 n4 rw4=>?_⟩;refine hr' F4 H4 u w4 y z d Q fh4 ((ru.mono f3).mono f4) rw4 e7 λw5 H5 F5 g5 f5 fh5 n5 rw5=>?_;exact q w5 H5 F5 ((gg.trans g4).trans g5) ((ff.trans f4).trans f5) fh5 ((nn.trans n4 gg).trans n5 (gg.trans g4)) rw5
 | false=>cases e;exact pH (q _ H3 F3 gg ff fh3 nn (.bl false))
end
section
variable {prog:Program}{w:World}{A:Around}{E:Gg->Gh->Prop}{s:Gh}
variable {z ti tp i1 i2:Gj}{I1 I2:Nat->Heap->Prop}{k1 k2:Heap->Prop}{xs ys:List Gg}{i:Nat}
end
def yC (t:Bool)(K:ja)(H:Hp)(a:Gj)(xs:List V):Prop:=if t then iQ K H a xs else gp K H a xs
def Dd (t:Bool)(h:Heap)(a:Gj)(its:List Gg):Prop:=if t then h.IsTuple a its.toArray else h.IsList a its.toArray
theorem Dd.at {t:Bool}{h h':Heap}{a:Gj}{its:List Gg}(x:Dd t h a its)(k:∀ o,h.get? a=Ga o->h'.get? a=Ga o):Dd t h' a its:=by
 cases t with
 | true=>obtain⟨o,e,r⟩:=(x:h.IsTuple a its.toArray);exact(⟨o,k o e,r⟩:h'.IsTuple a its.toArray)
 | false=>exact Heap.IsList.at (x:h.IsList a its.toArray) k
theorem yC.same {t:Bool}{K:ja}{H H':Hp}{a:Gj}{xs:List V}(g:aG H H')(h:yC t K H a xs):yC t K H' a xs:=by
 cases t with
 | true=>exact lE g h
 | false=>exact g.seq h
section
variable {X:Cx}{ω:List (Gj×Obj)}{σ:St}{H:Hp}{s:Gh}
theorem ER {t:Bool}{a:Gj}{xs:List V}(I:eS X ω σ H s)(h:yC t X.K H a xs):∃ its:List Gg,fw xs its/\Dd t s.heap a its/\∃ o,s.heap.get? a=Ga o:=by
 cases t with
 | true=>obtain⟨its,r,p,_⟩:=I.tuple h;exact⟨its,r,p,let ⟨o,e,_⟩:=p;⟨o,e⟩⟩
 | false=>obtain⟨its,r,p,_⟩:=I.list h;exact⟨its,r,p.isList,let ⟨o,n,e,_⟩:=p;⟨o,e⟩⟩
theorem Rf {t:Bool}{a:Gj}{xs ys:List V}(I:eS X ω σ H s)(h:yC t X.K H a xs)(h':yC t X.K H a ys):xs=ys:=by
 cases t with
 | true=>exact I.tuple_inj h h'
 | false=>exact I.list_inj h h'
theorem Pm {h':Heap}{ch:List Gj}(I:eS X ω σ H s)(hch:∀ b∈ch,ot X ω H b)(k:∀ b o,b∉ch->s.heap.get? b=Ga o->h'.get? b=Ga o)(tk:Nat):eS X ω σ H { s with heap:=h',toks:=tk }:=by
 have nch:∀ b u,H b=Ga u->b∉ch:=λb u e z=>by rw[(hch b z).1] at e;cases e
 refine I.step (g':=s.gens) (d':=s.drawn) (ch:=ch) (λb hb=>?_) (λb o _ _ hc e _=>k b o hc e) (λb o _ _ hc e _=>⟨o.slots,k b o hc e⟩) (λ_ _ _ _ n=>n) (λb o hc e=>⟨o,k b o hc e⟩) (λ_ _ e=>e) (λ_ _ _ e=>e) (λb ps e=>⟨#[],by rw[e];simp⟩) (λm hm=>?_) (λb u e=>?_) I.bare
 .obtain⟨_,f1,_,f3,f4,f5⟩:=hch b hb;exact⟨f3,f1,f4,f5⟩
 .obtain⟨o,es,ep,ho,r⟩:=hm;exact⟨o,es,ep,k _ o (λz=>(hch _ z).2.1 rfl) ho,r⟩
 .refine(I.hok b u e).stay (λc v hc q=>k c v ?_ q) (λ_ q=>q) λ_ _ q=>q;rcases hc with z|z
  .rw[z];exact nch b u e
  .exact nch c _ z
end
section
variable {X:Cx}{pos:Pos}
end
abbrev fZ (d:D):FV:=λ_=>Ga d
abbrev fu (op:D->D->Option D)(f g:FV):FV:=λψ=>(f ψ).bind λx=>(g ψ).bind λy=>op x y
abbrev un (op:D->Option D)(f:FV):FV:=λψ=>(f ψ).bind op
abbrev wH (op:List D->Option D)(f:FL):FV:=λψ=>(f ψ).bind op
abbrev lF (f:FV):FB:=λψ=>(f ψ).bind xf
abbrev gM (op:D->D->Option D)(f g:FV):FB:=λψ=>((f ψ).bind λx=>(g ψ).bind λy=>op x y).bind iy
abbrev tZ (f:FB):FB:=λψ=>(f ψ).bind λc=>Ga (!c)
abbrev BU (f g:FB):FB:=λψ=>(f ψ).bind λc=>if c then g ψ else Ga false
abbrev wP (f g:FB):FB:=λψ=>(f ψ).bind λc=>if c then Ga true else g ψ
abbrev sA (f g:FV):FV:=λψ=>((f ψ).bind iy).bind λc=>if c then g ψ else Ga (.bool false)
abbrev CI (f g:FV):FV:=λψ=>((f ψ).bind iy).bind λc=>if c then Ga (.bool true) else g ψ
abbrev BR (f:FV):FV:=λψ=>((f ψ).bind iy).bind λc=>Ga (.bool (!c))
abbrev xq (c:FB)(f g:FV):FV:=λψ=>(c ψ).bind λk=>if k then f ψ else g ψ
abbrev wZ (k k':D->D->Option D)(f g h:FV):FV:=λψ=>(f ψ).bind λx=>(g ψ).bind λy=>((k x y).bind iy).bind λt=>if t then(h ψ).bind λz=>k' y z else Ga (.bool false)
abbrev fN:FL:=λ_=>Ga []
abbrev eU (f:FV)(g:FL):FL:=λψ=>(f ψ).bind λd=>(g ψ).bind λds=>Ga (d::ds)
abbrev pF (g:FL):FV:=λψ=>(g ψ).bind λds=>Ga (.tuple ds)
abbrev gU (g:FL):FV:=λψ=>(g ψ).bind λds=>Ga (.list ds)
abbrev fq (fm:List D->Option D)(g:FL):FV:=λψ=>(g ψ).bind fm
abbrev oO (fm:List D->Option (List D))(g:FL):FL:=λψ=>(g ψ).bind fm
abbrev xJ (f:FV):FL:=λψ=>(f ψ).bind wQ
abbrev iK (f:FV):FL:=λψ=>(f ψ).bind toS
abbrev iw (op:D->Option (List D))(f:FV):FL:=λψ=>(f ψ).bind op
abbrev sB (op:D->D->Option (List D))(f g:FV):FL:=λψ=>(f ψ).bind λx=>(g ψ).bind λy=>op x y
def wd (T:String)(d:D):Option D:=Ga (.bool (Cy T d))
def JZ (xs:List D):Option D:=Ga (.tuple xs)
abbrev mX:FS:=λψ=>Ga (.nx ψ)
abbrev fJ (g k:FS):FS:=λψ=>iB (g ψ) k
abbrev gI (f:FV):FS:=λψ=>(f ψ).bind λd=>Ga (.rt d)
abbrev xS (f:FL):FS:=λψ=>(f ψ).bind λd=>Ga (.ro d)
abbrev lY (c:FB)(g k:FS):FS:=λψ=>(c (frz ψ)).bind λt=>if t then g ψ else k ψ
abbrev fX (i:Nat)(f:FV):FS:=λψ=>(f ψ).bind λd=>Ga (.nx (ψ.set i (.val d)))
abbrev oC (i:Nat)(f:FL):FS:=λψ=>(f ψ).bind λd=>Ga (.nx (ψ.set i (.own d)))
abbrev wg (i:Nat)(g:FS):FS:=λψ=>(g ψ).bind λo=>Ga (yc i o)
abbrev Bw (i:Nat)(g:FS):FS:=λψ=>g (frzAt i ψ)
abbrev zF (i:Nat)(f:FV):FS:=λψ=>(go i ψ).bind λds=>(f ψ).bind λd=>if ds.length<1000000 then Ga (.nx (ψ.set i (.own (ds++[d])))) else Gb
abbrev iC (f:FL)(t:FT)(g:FS):FS:=λψ=>(f ψ).bind λds=>fY t g ds ψ
abbrev gY (i:Nat):FT:=λd ψ=>Ga (ψ.set i (.val d))
abbrev pd:=List D->En->Option En
abbrev zQ:pd:=λds ψ=>match ds with|[]=>Ga ψ|_=>Gb
abbrev rL (t:FT)(u:pd):pd:=λds ψ=>match ds with|d::r=>(t d ψ).bind λenv1=>u r env1|[]=>Gb
abbrev DH (u:pd):FT:=λd ψ=>(yR d).bind λds=>u ds ψ
section
variable {X:Cx}{pos:Pos}
structure Cr (X:Cx)(es:List Expr)(t:pd):Prop where
 p:xT X es t
 len:∀ ds ψ env',t ds ψ=Ga env'->ds.length=es.length
theorem Th:Cr X [] zQ:=⟨zzG,λds ψ env' h=>by cases ds with|nil=>rfl|cons _ _=>cases h⟩
theorem Oc {e:Expr}{es:List Expr}{t:FT}{u:pd}(h1:tj X e t)(h2:Cr X es u)(hs:(assignEach (e::es) X.env).map (·.2)=assign e X.env::(assignEach es X.env).map (·.2):=by rfl):Cr X (e::es) (rL t u) :=
 ⟨SZ h1 h2.p hs,λds ψ env' h=>by
  cases ds with
  | nil=>cases h
  | cons d r =>
   obtain⟨e1,_,x2⟩:=aj (show(t d ψ).bind (λenv1=>u r env1)=Ga env' from h);exact congrArg uv (h2.len r e1 env' x2)⟩
theorem XE {es:List Expr}{k:Nat}{t:pd}(hc:X.calm=true)(h:Cr X es t)(hn:(assignEach es X.env).length=es.length:=by rfl)(hst:(assignEach es X.env).findIdx? (·.1)=Gb:=by rfl):tj X (.Tuple es k pos) (DH t):=Tx hc h.p h.len hn hst
theorem lJ (i:Nat){x:Str}(hN:X.N.Nodup)(hi:X.N[i]?=Ga x:=by rfl)(hx:oZ X.env.scope x:=by first|exact kw rfl|exact jZ rfl)(hf:X.fn x=true\/X.env.scope.names.lookup x=Ga .local:=by first|exact .inl rfl|exact .inr rfl):tj X (.Name x pos) (gY i):=HH i hN hi hx hf
end
structure Fn (K:ja)(mg:Str->Option Gg)(x:Str)(st:Stmt)(ps:List Str)(a:Gj)(fd:Gi):Prop where
 F:nW K x x st a fd
 b:lS K fd ps []
 m:mg x=Ga (.ref a)
theorem Wb {K:ja}{mg:Str->Option Gg}{h:Heap}{x:Str}{st:Stmt}{ps:List Str}{f:Gj}{oc:Gg}{od an:Option Gj}{osl:Array (Option Gg)}{kV doc pm cdv ct:Gg}(X:K.In h)(G:h.Ns mainGlobals mg)
  (a:ku K mainGlobals x=Ga (Ga (.ref f))) (l:K.lookup f=Ga ⟨oc,od,.func (kU x x (lj st) (gE st) (eP st) .none kV doc pm an cdv ct),osl⟩) (c:vE K cdv x=true) (k:kG K (.ref f)=true)
  (hb:∀ (kV doc pm:Gg) (an:Option Gj) (cdv ct:Gg) (us:List Gg),us.length=ps.length->bindArgs (kU x x (lj st) (gE st) (eP st) .none kV doc pm an cdv ct) ⟨us,[]⟩=pure (ps.zip us)) :
  Fn K mg x st ps f (kU x x (lj st) (gE st) (eP st) .none kV doc pm an cdv ct):=by
 have F:=Ho (st:=st) l c k;exact⟨F,F.binds hb,Ji X G a⟩
theorem mK {k:Nat}{A:Around}(r:gr k A):A.units+100<cLine:=by have:=r.un;omega
noncomputable def fK:Option pv->Option D
 | some (.rt d)=>Ga d
 | some (.ro xs)=>Ga (.list xs)
 | _=>Gb
noncomputable def pV:Option pv->Option (List D)
 | some (.ro xs)=>Ga xs
 | _=>Gb
def gy (np n:Nat)(g:FS)(ds:List D):Option D:=if ds.length=np then fK (g (lR n ds)) else Gb
def wj (np n:Nat)(g:FS)(ds:List D):Option (List D):=if ds.length=np then pV (g (lR n ds)) else Gb
section
variable {P:Program}{w:World}{K:ja}{mg:Str->Option Gg}{base:Heap}{x qual:Str}{st:Stmt}{f:Gj}{fd:Gi}{N ps:List Str}{k:Nat}{g:FS}
theorem hX (F:nW K x qual st f fd)(S:fo N ps (eP st))
  (hb:∀ (cdv:Gg) (A:Around) (outer:List Env) (s:Gh) (H:Hp) (E:XK),gr k (A.deeper (envOfC qual (eP st) s.heap.objs.size f cdv))->lz (lX fL P w K mg base N qual (eP st) f cdv A outer s H E).nox (gE st) g) :
  fB P w K mg base fL (k+1) f fd ps (gP K (gy ps.length N.length g)):=by
 refine RJ F S (λds d h=>?_) (λcdv A outer s H E hr=>⟨g,hb cdv A outer s H E hr,λds d h=>?_⟩)
 .unfold gy at h;split at h
  .assumption
  .cases h
 .unfold gy at h;split at h
  .unfold fK at h;split at h
   .rename_i e;cases h;exact .inl e
   .rename_i e;cases h;exact .inr ⟨_,rfl,e⟩
   .cases h
  .cases h
theorem DN (F:nW K x qual st f fd)(S:fo N ps (eP st))
  (hb:∀ (cdv:Gg) (A:Around) (outer:List Env) (s:Gh) (H:Hp) (E:XK),gr k (A.deeper (envOfC qual (eP st) s.heap.objs.size f cdv))->lz (lX fL P w K mg base N qual (eP st) f cdv A outer s H E).nox (gE st) g) :
  fB P w K mg base fL (k+1) f fd ps (wN K (wj ps.length N.length g)):=by
 refine Xp F S (λds d h=>?_) (λcdv A outer s H E hr=>⟨g,hb cdv A outer s H E hr,λds d h=>?_⟩)
 .unfold wj at h;split at h
  .assumption
  .cases h
 .unfold wj at h;split at h
  .unfold pV at h;split at h
   .rename_i e;cases h;exact e
   .cases h
  .cases h
end
theorem zBV {K:ja}{fm:List D->Option D}{H:Hp}{a:Gj}{ns:List Int}(hS:gp K H a (ns.map V.int))(h:fm [.list (ns.map jc)]=Ga (.bool true)):gP K fm [.ref a] H (λv _=>v=.bl true) λ_ _ _=>False :=
 ⟨H,[.list (ns.map jc)],.bool true,.refl _,.cons (.lst hS (fg.ints ns)) .nil,h,λv H' F' _ _ _ _ r=>by cases r;rfl⟩
theorem KQ (d:List D):pV (Ga (.ro d))=Ga d:=rfl
theorem lg {g k:FS}{ψ e:En}(h:g ψ=Ga (.nx e)):fJ g k ψ=k e:=by show iB (g ψ) k=_;rw[h];rfl
theorem yV {g k:FS}{ψ:En}{d:D}(h:g ψ=Ga (.rt d)):fJ g k ψ=Ga (.rt d):=by show iB (g ψ) k=_;rw[h];rfl
theorem sL {c:FB}{g k:FS}{ψ:En}(h:c (frz ψ)=Ga true):lY c g k ψ=g ψ:=by show(c (frz ψ)).bind _=_;rw[h];rfl
theorem ss {c:FB}{g k:FS}{ψ:En}(h:c (frz ψ)=Ga false):lY c g k ψ=k ψ:=by show(c (frz ψ)).bind _=_;rw[h];rfl
theorem mY {f:FV}{ψ:En}{d:D}(h:f ψ=Ga d):gI f ψ=Ga (.rt d):=by show(f ψ).bind _=_;rw[h];rfl
theorem Nb {f:FL}{ψ:En}{d:List D}(h:f ψ=Ga d):xS f ψ=Ga (.ro d):=by show(f ψ).bind _=_;rw[h];rfl
theorem tH {i:Nat}{f:FV}{ψ:En}{d:D}(h:f ψ=Ga d):fX i f ψ=Ga (.nx (ψ.set i (.val d))):=by show(f ψ).bind _=_;rw[h];rfl
theorem YL {i:Nat}{f:FL}{ψ:En}{d:List D}(h:f ψ=Ga d):oC i f ψ=Ga (.nx (ψ.set i (.own d))):=by show(f ψ).bind _=_;rw[h];rfl
theorem zBn {i:Nat}{g:FS}{ψ e:En}(h:g ψ=Ga (.nx e)):wg i g ψ=Ga (.nx (frzAt i e)):=by show(g ψ).bind _=_;rw[h];rfl
theorem nR {op:D->D->Option D}{f g:FV}{ψ:En}{a b:D}(h1:f ψ=Ga a)(h2:g ψ=Ga b):fu op f g ψ=op a b:=by show(f ψ).bind _=_;rw[h1];show(g ψ).bind _=_;rw[h2];rfl
theorem so {op:D->Option D}{f:FV}{ψ:En}{a:D}(h1:f ψ=Ga a):un op f ψ=op a:=by show(f ψ).bind _=_;rw[h1];rfl
theorem DP {op:List D->Option D}{f:FL}{ψ:En}{a:List D}(h1:f ψ=Ga a):wH op f ψ=op a:=by show(f ψ).bind _=_;rw[h1];rfl
theorem iH {fm:List D->Option D}{g:FL}{ψ:En}{ds:List D}(h:g ψ=Ga ds):fq fm g ψ=fm ds:=by show(g ψ).bind _=_;rw[h];rfl
theorem DW {fm:List D->Option (List D)}{g:FL}{ψ:En}{ds:List D}(h:g ψ=Ga ds):oO fm g ψ=fm ds:=by show(g ψ).bind _=_;rw[h];rfl
theorem yF {f:FV}{g:FL}{ψ:En}{d:D}{ds:List D}(h1:f ψ=Ga d)(h2:g ψ=Ga ds):eU f g ψ=Ga (d::ds):=by show(f ψ).bind _=_;rw[h1];show(g ψ).bind _=_;rw[h2];rfl
theorem tK {g:FL}{ψ:En}{ds:List D}(h:g ψ=Ga ds):gU g ψ=Ga (.list ds):=by show(g ψ).bind _=_;rw[h];rfl
theorem ZQ {g:FL}{ψ:En}{ds:List D}(h:g ψ=Ga ds):pF g ψ=Ga (.tuple ds):=by show(g ψ).bind _=_;rw[h];rfl
theorem GW {f:FV}{ψ:En}{ds:List D}(h:f ψ=Ga (.list ds)):xJ f ψ=Ga ds:=by show(f ψ).bind _=_;rw[h];rfl
theorem KC {f:FV}{ψ:En}{d:D}{ds:List D}(h:f ψ=Ga d)(h2:toS d=Ga ds):iK f ψ=Ga ds:=by show(f ψ).bind _=_;rw[h];exact h2
theorem sZ {op:D->Option (List D)}{f:FV}{ψ:En}{a:D}(h1:f ψ=Ga a):iw op f ψ=op a:=by show(f ψ).bind _=_;rw[h1];rfl
theorem YO {op:D->D->Option (List D)}{f g:FV}{ψ:En}{a b:D}(h1:f ψ=Ga a)(h2:g ψ=Ga b):sB op f g ψ=op a b:=by show(f ψ).bind _=_;rw[h1];show(g ψ).bind _=_;rw[h2];rfl
theorem rW {f:FL}{t:FT}{g:FS}{ψ:En}{ds:List D}(h:f ψ=Ga ds):iC f t g ψ=fY t g ds ψ:=by show(f ψ).bind _=_;rw[h];rfl
theorem wJ {f:FV}{ψ:En}{d:D}{b:Bool}(h:f ψ=Ga d)(h2:xf d=Ga b):lF f ψ=Ga b:=by show(f ψ).bind _=_;rw[h];exact h2
theorem pR {op:D->D->Option D}{f g:FV}{ψ:En}{x y:D}{b:Bool}(h1:f ψ=Ga x)(h2:g ψ=Ga y)(h3:op x y=Ga (.bool b)):gM op f g ψ=Ga b:=by
 show((f ψ).bind _).bind _=_;rw[h1];show((g ψ).bind _).bind _=_;rw[h2];show(op x y).bind _=_;rw[h3];rfl
theorem Gw {f:FB}{ψ:En}{b:Bool}(h:f ψ=Ga b):tZ f ψ=Ga (!b):=by show(f ψ).bind _=_;rw[h];rfl
theorem BO {f g:FB}{ψ:En}(h:f ψ=Ga true):wP f g ψ=Ga true:=by show(f ψ).bind _=_;rw[h];rfl
theorem wa {f g:FB}{ψ:En}(h:f ψ=Ga false):wP f g ψ=g ψ:=by show(f ψ).bind _=_;rw[h];rfl
theorem RA {i:Nat}{f:FV}{ψ:En}{ds:List D}{d:D}(h1:go i ψ=Ga ds)(h2:f ψ=Ga d)(hz:ds.length<1000000):zF i f ψ=Ga (.nx (ψ.set i (.own (ds++[d])))):=by
 show(go i ψ).bind _=_;rw[h1];show(f ψ).bind _=_;rw[h2];exact Ge hz
theorem rY {fi:FL}{fc:FB}{fe:FV}{ix:List Nat}{ψ:En}{ds:List D}(h:fi ψ=Ga ds)(hz:ds.length<=1000000):fQ fi fc fe ix ψ=iq fc fe (lr ix ψ) ds:=by
 show(fi ψ).bind _=_;rw[h];exact Ge hz
theorem wM {fe:FV}{base:En}{F:D->D}:∀ {ds:List D},(∀ d∈ds,fe (.val d::base)=Ga (F d))->iq (λ_=>Ga true) fe base ds=Ga (ds.map F)
 | [],_=>rfl
 | x::r,h=>by
  unfold iq;rw[je,Ge rfl,h x jf,je,wM λd hd=>h d (jj _ hd)];rfl
theorem As {fc:FB}{fe:FV}{base:En}{p:D->Bool}{F:D->D}:∀ {ds:List D},(∀ d∈ds,fc (.val d::base)=Ga (p d))->(∀ d∈ds,p d=true->fe (.val d::base)=Ga (F d))->iq fc fe base ds=Ga ((ds.filter p).map F)
 | [],_,_=>rfl
 | x::r,h1,h2=>by
  have ih:=As (fc:=fc) (fe:=fe) (base:=base) (p:=p) (F:=F) (ds:=r) (λd hd=>h1 d (jj _ hd)) (λd hd=>h2 d (jj _ hd));unfold iq;rw[h1 x jf,je];cases hp:p x with
  | true=>rw[Ge rfl,h2 x jf hp,je,ih,kg hp];rfl
  | false=>rw[Gf jv,ih,kh (by rw[hp];exact jv)]
theorem Ew (a b:Int):jW (.int a) (.int b)=(a==b):=by simp only[jW]
theorem NO (a b:Int):ia (.int a) (.int b)=Ga (.bool (!(a==b))):=by
 unfold ia;have:oY (.int a) (.int b)=true:=rfl;rw[Ge this,Ew]
theorem xk (a b:Int):gz (.int a) (.int b)=Ga (.bool (a==b)):=by
 unfold gz;have:oY (.int a) (.int b)=true:=rfl;rw[Ge this,Ew]
theorem WF {d:D}(h:d.canLay0=true)(hd:d.depth<=100):ia d d=Ga (.bool false):=by
 unfold ia;have:oY d d=true:=by unfold oY;rw[h,Jx,Gc hd];rfl
 rw[Ge this,SeqAt.eqv_refl d h];rfl
theorem my:∀ {xs:List D},(∀ x∈xs,x.canLay0=true)->jE xs=true
 | [],_=>rfl
 | y::r,h=>by rw[jE,h y jf,my λx hx=>h x (jj _ hx)];rfl
theorem Oe {n:Nat}:∀ {xs:List D},(∀ x∈xs,x.depth<=n)->jF xs<=n
 | [],_=>jX _
 | y::r,h=>by rw[jF];exact Nat.max_le.mpr ⟨h y jf,Oe λx hx=>h x (jj _ hx)⟩
theorem TJ (ns:List Int):jE (ns.map jc)=true:=my λx hx=>by obtain⟨n,_,rfl⟩:=jq.mp hx;rfl
theorem Vr (ns:List Int):jF (ns.map jc)<=0:=Oe λx hx=>by obtain⟨n,_,rfl⟩:=jq.mp hx;exact jr _
theorem LV (a:Int)(ns:List Int):wS (.int a) (.list (ns.map jc))=Ga (.bool (ns.contains a)):=by
 have h0:=Vr ns;have ok:sk (.int a) (ns.map jc)=true:=by
  unfold sk;rw[TJ];have:min (jF (ns.map jc)) (qD (.int a))<=90:=by omega
  rw[Gc this];rfl
 show(if sk (.int a) (ns.map jc)=true then Ga (j3 ((ns.map jc).any λy=>jW y (.int a))) else Gb)=_;rw[Ge ok,List.any_map]
 congr 2
 rw[List.contains_eq_any_beq]
 congr 1
 funext x
 show jW (.int x) (.int a)=(a==x);rw[Ew];rw[jV,beq_iff_eq,beq_iff_eq];exact eq_comm
def sw {α:Type}(lt:Nat->Nat->Option Bool):JW α->Option α
 | .ret a=>Ga a
 | .ask i j k=>(lt i j).bind λb=>sw lt (k b)
theorem OP {α:Type}{lt:Nat->Nat->Option Bool}{cmp:Nat->Nat->(Bool->Gh->Prop)->Gh->Prop}{s:Gh}(hc:∀ i j b C,lt i j=Ga b->C b s->cmp i j C s){G:α->Gh->Prop} :
  ∀ {t:JW α} {a:α},sw lt t=Ga a->G a s->t.kasWp cmp G s
 | .ret x,a,e,g=>by cases e;exact g
 | .ask i j k,a,e,g=>by
  obtain⟨b,e1,e2⟩:=aj (show(lt i j).bind (λb=>sw lt (k b))=Ga a from e);exact hc i j b _ e1 (OP hc e2 g)
section
variable {prog:Program}{w:World}{A:Around}{E:Gg->Gh->Prop}{s:Gh}{vs:List Gg}
theorem QZ {a:Gj}{n:Nat}{P:vv->Gh->Prop}{lt:Nat->Nat->Option Bool}{p:Array Nat}(ho:s.heap.get? a=Ga (seqObj "list" vs.toArray n))(h2:2<=vs.length)(h64:vs.length<64)
  (hp:sw lt (vO vs.length)=Ga p)
  (hk:∀ s1:Gh,(∀ b o,b≠a->s.heap.get? b=Ga o->s1.heap.get? b=Ga o)->∃ κ,(∀ Q:SortKind->Gh->Prop,Q κ s1->wpAny (model prog w) A (keyKind' vs.toArray) Q (λ_ _=>False) s1) /\
   ∀ i j b (C:Bool->Gh->Prop),lt i j=Ga b->C b s1->uT prog w A κ vs i j C s1)
  (h:∀ h' c,(∀ b o,b≠a->s.heap.get? b=Ga o->h'.get? b=Ga o)->h'.get? a=Ga (seqObj "list" (j8 (p.toList.map λi=>vs.getD i kf)) c)->P (.done (.ret .none)) { s with heap:=h' }) :
  wpAny (model prog w) A (Builtin.«list.sort» ⟨[.ref a],[]⟩) P E s:=by
 have s1:=ki s.heap a (jS λ_=>(#[]:Array Gg));obtain⟨e1,ho1⟩:∃ e1,(s.heap.update a (jS λ_=>(#[]:Array Gg))).get? a=Ga (seqObj "list" #[] e1):=⟨_,get?_update_seq ho λ_=>#[]⟩;generalize hh1:s.heap.update a (jS λ_=>(#[]:Array Gg))=h1 at s1 ho1;have sl:vs.length<=sizeLine:=by rw[sizeLine_eq];omega
 rw[list_sort_plain];refine eN (listItems_at ho rfl (eN (listUpdate_at ho rfl ?_ (by rw[jn];exact sl) (jX _))));rw[hh1];refine eN (seqEpoch_at ho1 rfl (eN (wpAny_newTuple (eN (wpAny_newList (wpAny_holding ?_) (jX _))) sl)));generalize hh3:(h1.push { cls:=.type "tuple",data:=.seq vs.toArray }).push { cls:=.type "list",data:=.seq ([]:List Gg).toArray }=h3;have k3:∀ b o,h1.get? b=Ga o->h3.get? b=Ga o:=λb o e=>by rw[<- hh3];exact jg _ (jg _ e)
 have keep:∀ b o,b≠a->s.heap.get? b=Ga o->h3.get? b=Ga o:=λb o nb e=>k3 b o (s1.extBut b o nb e);dsimp only;have n2:¬vs.toArray.size<2:=by rw[jn];omega
 rw[Gf n2,Gf n2];obtain⟨κ,hkind,hask⟩:=hk { s with heap:=h3 } keep;refine eN (wpAny_mono (hkind (λκ' s'=>κ'=κ/\s'={ s with heap:=h3 }) ⟨rfl,rfl⟩) (λκ' s' ⟨x1,x2⟩=>?_) λ_ _ z=>z.elim);subst x1 x2;refine eN (wpAny_mono (PySem.W.kat_run (Q:=λst' s'=>arrOf st'=p.map (PySem.W.kas_item (vs.toArray.zip vs.toArray))/\failedOf st'=Gb/\p.size=vs.length/\s'={ s with heap:=h3 }) (G:=λp' s'=>p'=p/\s'={ s with heap:=h3 })
  rfl h2 h64 (λp' st' s' a1 a2 a3 a4=>⟨by rw[<- a4.1];exact a2,a3,by rw[<- a4.1];exact a1,a4.2⟩) (OP (λi j b C e c=>hask i j b C e c) hp ⟨rfl,rfl⟩)) ?_ λ_ _ e=>e)
 rintro⟨⟨⟩,st'⟩ s' ⟨har,hf,hsz,rfl⟩;dsimp only;rw[PySem.W.kat_snds rfl har];have ho3:h3.get? a=Ga (seqObj "list" #[] e1):=k3 _ _ ho1;have hz:(j8 (p.toList.map λi=>vs.getD i kf)).size<=sizeLine:=by rw[jn,jd,jQ,hsz];exact sl
 refine eN (seqEpoch_at (s:={ s with heap:=h3 }) ho3 rfl (eN (listUpdate_at (s:={ s with heap:=h3 }) ho3 rfl ?_ (jX _) (qj hz))));rw[hf];simp only[bne_self_eq_false,kA,if_false];have s4:=ki h3 a (jS λ_=>j8 (p.toList.map λi=>vs.getD i kf));obtain⟨c,hc⟩:∃ c,(h3.update a (jS λ_=>j8 (p.toList.map λi=>vs.getD i kf))).get? a=Ga (seqObj "list" (j8 (p.toList.map λi=>vs.getD i kf)) c):=⟨_,get?_update_seq ho3 λ_=>_⟩;exact eO (h _ c (λb o nb e=>s4.extBut b o nb (keep b o nb e)) hc)
theorem TL {a:Gj}{n:Nat}{P:vv->Gh->Prop}(ho:s.heap.get? a=Ga (seqObj "list" vs.toArray n))(h2:vs.length<2)
  (h:∀ h' c,(∀ b o,b≠a->s.heap.get? b=Ga o->h'.get? b=Ga o)->h'.get? a=Ga (seqObj "list" vs.toArray c)->P (.done (.ret .none)) { s with heap:=h' }) :
  wpAny (model prog w) A (Builtin.«list.sort» ⟨[.ref a],[]⟩) P E s:=by
 have s1:=ki s.heap a (jS λ_=>(#[]:Array Gg));obtain⟨e1,ho1⟩:∃ e1,(s.heap.update a (jS λ_=>(#[]:Array Gg))).get? a=Ga (seqObj "list" #[] e1):=⟨_,get?_update_seq ho λ_=>#[]⟩;generalize hh1:s.heap.update a (jS λ_=>(#[]:Array Gg))=h1 at s1 ho1;have sl:vs.length<=sizeLine:=by rw[sizeLine_eq];omega
 rw[list_sort_plain];refine eN (listItems_at ho rfl (eN (listUpdate_at ho rfl ?_ (by rw[jn];exact sl) (jX _))));rw[hh1];refine eN (seqEpoch_at ho1 rfl (eN (wpAny_newTuple (eN (wpAny_newList (wpAny_holding ?_) (jX _))) sl)));generalize hh3:(h1.push { cls:=.type "tuple",data:=.seq vs.toArray }).push { cls:=.type "list",data:=.seq ([]:List Gg).toArray }=h3;have k3:∀ b o,h1.get? b=Ga o->h3.get? b=Ga o:=λb o e=>by rw[<- hh3];exact jg _ (jg _ e)
 have keep:∀ b o,b≠a->s.heap.get? b=Ga o->h3.get? b=Ga o:=λb o nb e=>k3 b o (s1.extBut b o nb e);dsimp only;have n2:vs.toArray.size<2:=by rw[jn];omega
 rw[Ge n2,Ge n2];refine eN (eO ?_);rw[StateT.run_pure];refine eN (eO ?_);dsimp only;have hout:(arrOf (SortSt.mk' general' (vs.toArray.zip vs.toArray) #[] 7 Gb)).map (·.2)=vs.toArray:=by
  show(vs.toArray.zip vs.toArray).map (·.2)=vs.toArray;apply Array.toList_inj.mp;rw[JF,Array.toList_zip];exact List.map_snd_zip (jr _)
 rw[hout];have ho3:h3.get? a=Ga (seqObj "list" #[] e1):=k3 _ _ ho1;refine eN (seqEpoch_at (s:={ s with heap:=h3 }) ho3 rfl (eN (listUpdate_at (s:={ s with heap:=h3 }) ho3 rfl ?_ (jX _) (qj (by rw[jn];exact sl)))));simp only[bne_self_eq_false,kA,if_false];have s4:=ki h3 a (jS λ_=>vs.toArray);obtain⟨c,hc⟩:∃ c,(h3.update a (jS λ_=>vs.toArray)).get? a=Ga (seqObj "list" vs.toArray c):=⟨_,get?_update_seq ho3 λ_=>_⟩;exact eO (h _ c (λb o nb e=>s4.extBut b o nb (keep b o nb e)) hc)
theorem LY {l:Gj}{out:List Gg}{Q:Gg->Gh->Prop}(hl:s.heap.IsList l vs.toArray)(hz:vs.length<64)
  (hs:∀ (s1:Gh) (n:Nat) (P:vv->Gh->Prop) (E':Gg->Gh->Prop),(∀ b o,s.heap.get? b=Ga o->s1.heap.get? b=Ga o)->s1.heap.get? (s.heap.objs.size+1)=Ga (seqObj "list" vs.toArray n) ->
   (∀ h' c,(∀ b o,b≠s.heap.objs.size+1->s1.heap.get? b=Ga o->h'.get? b=Ga o)->h'.get? (s.heap.objs.size+1)=Ga (seqObj "list" out.toArray c)->P (.done (.ret .none)) { s1 with heap:=h' }) ->
   wpAny (model prog w) A.in1.in1 (Builtin.«list.sort» ⟨[.ref (s.heap.objs.size+1)],[]⟩) P E' s1)
  (h:∀ h' c,(∀ b o,s.heap.get? b=Ga o->h'.get? b=Ga o)->h'.get? (s.heap.objs.size+1)=Ga (seqObj "list" out.toArray c)->Q (.ref (s.heap.objs.size+1)) { s with heap:=h' }) :
  wpAny (model prog w) A (call (.builtin "sorted") [.ref l]) Q E s:=by
 have sl:vs.length<=sizeLine:=by rw[sizeLine_eq];omega
 refine qf kind_sorted plain_sorted entry_sorted (args_sorted1 _) ?_;unfold Builtin.«sorted»;refine eN (m:=checkCount "sorted" 1 1 _) (eO (eN (collect_list hl (eN (wpAny_newList ?_ sl)) sl)));generalize hh1:(s.heap.push (seqObj "list" #[] 0)).update s.heap.objs.size (jS (·++vs.toArray))=h1;have n1:h1.objs.size=s.heap.objs.size+1:=by rw[<- hh1,JG,size_push']
 have k1:∀ b o,s.heap.get? b=Ga o->h1.get? b=Ga o:=λb o q=>by
  have hlt:b<s.heap.objs.size:=ju q;rw[<- hh1,Je _ _ _ _ (jG hlt),Jy _ _ _ (jG hlt)];exact q
 show wpAny _ _ _ _ _ { s with heap:=h1.push (seqObj "list" vs.toArray 0) };dsimp only;rw[n1];have hoL:(h1.push (seqObj "list" vs.toArray 0)).get? (s.heap.objs.size+1)=Ga (seqObj "list" vs.toArray 0):=by rw[<- n1];exact jD _ rfl
 have keep:∀ b o,s.heap.get? b=Ga o->(h1.push (seqObj "list" vs.toArray 0)).get? b=Ga o:=λb o q=>jg _ (k1 b o q);refine eN (wpAny_holding (wpAny_call_entry slot_list_sort ⟨_,hoL,rfl⟩ entry_list_sort ?_ (args_list_sort _)));refine hs { s with heap:=h1.push (seqObj "list" vs.toArray 0) } 0 _ _ keep hoL λh' c kk hc=>⟨_,rfl,eO ⟨_,rfl,h h' c (λb o e=>kk b o (jG (uY (ju e))) (keep b o e)) hc⟩⟩
end
def rh:List Int->List Int->Bool
 | [],[]=>false
 | [],_::_=>true
 | _::_,[]=>false
 | x::xs,y::ys=>if x==y then rh xs ys else decide (x<y)
def CV:D->D->Option Bool
 | .int i,.int j=>Ga (decide (i<j))
 | .tuple xs,.tuple ys=>(iZ xs).bind λis=>(iZ ys).bind λjs=>Ga (rh is js)
 | _,_=>Gb
def Md:D->Bool
 | .int _=>true
 | _=>false
def BJ:D->Bool
 | .tuple (x::xs)=>(iZ (x::xs)).isSome
 | _=>false
def rC (ds:List D):Bool:=ds.all Md||ds.all BJ
def xH (ds:List D)(i j:Nat):Option Bool:=(ds[i]?).bind λa=>(ds[j]?).bind λb=>CV a b
def oi (ds:List D):Option (List D):=if ds.length<2 then Ga ds else if (decide (ds.length<64)&&rC ds)=true then(sw (xH ds) (vO ds.length)).bind λp=>(if p.size<=64 then Ga (p.toList.map λi=>ds.getD i .none) else Gb) else Gb
section
variable {prog:Program}{w:World}{A:Around}{E:Gg->Gh->Prop}{s:Gh}
theorem OU {b fin:Bool}{Q:Bool->Gh->Prop}:∀ {is js:List Int} {us ws:List Gg} {i:Nat},IntsAre us is->IntsAre ws js->(i=0->b=true)->fin=decide (is.length<js.length)->Q (rh is js) s->JP prog w A b fin Q (us.zip ws) i s
 | [],[],_,_,i,.nil,.nil,_,hf,q=>by
  rw[hf];exact q
 | [],y::ys,_,_,i,.nil,.cons _ _ _,_,hf,q=>by
  have e:decide (([]:List Int).length<(y::ys).length)=true:=Gc (Nat.succ_pos _);rw[hf,e];exact q
 | _::_,[],_,_,i,.cons _ _ _,.nil,_,hf,q=>by
  rw[hf];exact q
 | x::is,y::js,_,_,i,.cons _ t h1,.cons _ u h2,hb,hf,q=>by
  show wpAny _ _ (eqBool (.int x t) (.int y u)) _ _ s;refine wpAny_eqBool_int ?_;have q':Q (if (x==y)=true then rh is js else decide (x<y)) s:=q;cases hxy:(x==y) with
  | true =>
   rw[hxy,Ge rfl] at q';rw[Ge rfl];exact OU (i:=i+1) h1 h2 (λz=>absurd z (Nat.succ_ne_zero _)) (by rw[hf];simp only[jL,vh]) q'
  | false =>
   rw[hxy,Gf jv] at q';rw[Gf jv];by_cases hi:i=0
   .subst hi;rw[hb rfl];exact oneLt_int q'
   .have e:(b&&i==0)=false:=by rw[beq_eq_false_iff_ne.mpr hi,uy]
    rw[e];exact JL _ _ (lt_int q')
end
section
variable {X:Cx}{ω:List (Gj×Obj)}{σ:St}{F H:Hp}{s:Gh}
theorem MB:∀ {is:List Int} {xs:List V} {us:List Gg},fg X.K F (is.map jc) xs->fw xs us->IntsAre us is
 | [],_,_,.nil,r=>by cases r;exact .nil
 | i::is,_,_,.cons h t,r=>by
  cases r with
  | cons r1 r2 =>
   cases h;obtain⟨tk,rfl⟩:=r1;exact .cons _ _ (MB t r2)
theorem PQ {is:List Int}{v:V}{u:Gg}(I:eS X ω σ H s)(g:aG F H)(r:fP X.K F (.tuple (is.map jc)) v)(ru:fC v u):∃ a o its n,u=.ref a/\s.heap.get? a=Ga o/\o.cls=.type "tuple"/\o.data=.seq its.toArray n/\IntsAre its is:=by
 cases r with
 | tup h q =>
  cases ru;obtain⟨its,rv,⟨o,e,c,n,d⟩,_⟩:=I.tuple (lE g h);exact⟨_,o,its,n,rfl,e,c,d,MB q rv⟩
theorem YE {d:D}(h:BJ d=true):∃ i is,d=.tuple ((i::is).map jc):=by
 cases d with
 | tuple xs =>
  cases xs with
  | nil=>cases h
  | cons x xs =>
   have h':(iZ (x::xs)).isSome=true:=h;obtain⟨is,e⟩:=qk.mp h';have e2:=AV e;cases is with
   | nil=>cases e2
   | cons i is=>exact⟨i,is,by rw[e2]⟩
 | _=>cases h
theorem Wn {d:D}(h:Md d=true):∃ i,d=.int i:=by cases d<;>first|exact⟨_,rfl⟩|cases h
theorem lQ:∀ is:List Int,iZ (is.map jc)=Ga is
 | []=>rfl
 | i::is=>by
  show(iZ (is.map jc)).bind (λr=>Ga (i::r))=_;rw[lQ is];rfl
theorem RG (is js:List Int):CV (.tuple (is.map jc)) (.tuple (js.map jc))=Ga (rh is js):=by
 show(iZ _).bind _=_;rw[lQ];show(iZ _).bind _=_;rw[lQ];rfl
theorem xN {xs:List V}{its:List Gg}{ds:List D}(rv:fw xs its)(rr:fg X.K F ds xs){i:Nat}{d:D}(e:ds[i]?=Ga d):∃ v u,fP X.K F d v/\fC v u/\its.getD i kf=u:=by
 obtain⟨v,e1,r1⟩:=rr.get e;obtain⟨u,e2,r2⟩:=rv.get e1;exact⟨v,u,r1,r2,by rw[jl,e2];rfl⟩
theorem Vn {A:Around}{xs:List V}{its:List Gg}{ds:List D}(I:eS X ω σ H s)(g:aG F H)(rv:fw xs its)(rr:fg X.K F ds xs)(h2:2<=its.length)(ok:rC ds=true){s1:Gh}(k:∀ b o,s.heap.get? b=Ga o->s1.heap.get? b=Ga o) :
  ∃ κ,(∀ Q:SortKind->Gh->Prop,Q κ s1->wpAny (model X.prog X.w) A (keyKind' its.toArray) Q (λ_ _=>False) s1)/\∀ i j b (C:Bool->Gh->Prop),xH ds i j=Ga b->C b s1->uT X.prog X.w A κ its i j C s1:=by
 have hlen:ds.length=its.length:=rr.length.trans rv.length;have look:∀ (i j:Nat) (b:Bool),xH ds i j=Ga b->∃ d e,ds[i]?=Ga d/\ds[j]?=Ga e/\CV d e=Ga b:=λi j b h=>by
  obtain⟨d,e1,h⟩:=aj h;obtain⟨e,e2,h⟩:=aj h;exact⟨d,e,e1,e2,h⟩
 unfold rC at ok;rw[j5] at ok;rcases ok with ok|ok
 .have ai:∀ (i:Nat) (d:D),ds[i]?=Ga d->∃ n,d=jc n:=λi d e=>Wn (jO.mp ok d (jM e));have av:∀ v∈its,∃ n t,v=v8 n t:=λv hv=>by
   obtain⟨i,hi⟩:=List.mem_iff_getElem?.mp hv;have hl:i<ds.length:=by rw[hlen];exact(ji.mp hi).1
   obtain⟨n,hn⟩:=ai i _ (jh hl);obtain⟨v',u,r1,r2,e⟩:=xN rv rr (jh hl);rw[hn] at r1;cases r1;obtain⟨t,rfl⟩:=r2;rw[jl,hi] at e;exact⟨n,t,e⟩
  refine⟨oneType',λQ q=>PySem.W.kas_kind (T:=.type "int") h2 (λv hv=>?_) (by decide) (by decide) q,λi j b C e c=>?_⟩
  .obtain⟨n,t,rfl⟩:=av v hv;exact qQ rfl
  .obtain⟨d,d2,e1,e2,e3⟩:=look i j b e;obtain⟨n,rfl⟩:=ai i d e1;obtain⟨m,rfl⟩:=ai j d2 e2;obtain⟨v1,u1,r1,r2,x1⟩:=xN rv rr e1;obtain⟨v2,u2,r3,r4,x2⟩:=xN rv rr e2;cases r1;cases r3;obtain⟨t,rfl⟩:=r2;obtain⟨t2,rfl⟩:=r4;unfold uT;rw[x1,x2];cases e3;exact PySem.W.kat_lt_int c
 .have ai:∀ (i:Nat) (d:D),ds[i]?=Ga d->∃ n is,d=kW ((n::is).map jc):=λi d e=>YE (jO.mp ok d (jM e));have tup:∀ (i:Nat) (d:D),ds[i]?=Ga d->∃ n is a o us k,d=kW ((n::is).map jc)/\its.getD i kf=kD a/\s1.heap.get? a=Ga o/\o.cls=.type "tuple"/\o.data=.seq us k/\IntsAre us.toList (n::is):=λi d e=>by
   obtain⟨n,is,rfl⟩:=ai i d e;obtain⟨v,u,r1,r2,x1⟩:=xN rv rr e;obtain⟨a,o,us,kk,rfl,e1,c,dd,hi⟩:=PQ I g r1 r2;exact⟨n,is,a,o,us.toArray,kk,rfl,x1,k a o e1,c,dd,by simpa using hi⟩
  have kt:∀ (ws:List Gg) (es:List D),(∀ (i:Nat) v,ws[i]?=Ga v->∃ n is a o us kk,v=kD a/\s1.heap.get? a=Ga o/\o.cls=.type "tuple"/\o.data=.seq us kk/\IntsAre us.toList (n::is))->∃ fs,JM s1.heap ws fs/\fs.length=ws.length/\∀ v∈fs,∃ n t,v=v8 n t:=by
   intro ws es;induction ws with
   | nil=>intro _;exact⟨[],.nil,rfl,λv hv=>by simp at hv⟩
   | cons v r ih =>
    intro hall;obtain⟨n,is,a,o,us,kk,rfl,e1,c,dd,hi⟩:=hall 0 v rfl;obtain⟨fs,h1,h2,h3⟩:=ih λi v e=>hall (i+1) v (by simpa using e);cases hu:us.toList with
    | nil=>rw[hu] at hi;cases hi
    | cons f fr =>
     rw[hu] at hi;cases hi with
     | cons _ t hi' =>
      have hf:us[0]?=Ga (v8 n t):=by rw[<- kZ,hu];rfl
      refine⟨v8 n t::fs,.cons e1 c dd hf h1,by rw[jL,jL,h2],λv hv=>?_⟩;rcases jx.mp hv with rfl|hv
      .exact⟨n,t,rfl⟩
      .exact h3 v hv
  obtain⟨fs,t1,t2,t3⟩:=kt its ds λi v e=>by
   have hl:i<ds.length:=by rw[hlen];exact(ji.mp e).1
   obtain⟨n,is,a,o,us,kk,_,x1,x2⟩:=tup i _ (jh hl);rw[jl,e] at x1;exact⟨n,is,a,o,us,kk,x1,x2⟩
  refine⟨tuples' true,λQ q=>JH (T:=.type "int") t1 (by omega) (λv hv=>?_) (by decide) q,λi j b C e c=>?_⟩
  .obtain⟨n,t,rfl⟩:=t3 v hv;exact qQ rfl
  .obtain⟨d,d2,e1,e2,e3⟩:=look i j b e;obtain⟨n,is,a,o,us,kk,rfl,x1,y1,_,z1,w1⟩:=tup i d e1;obtain⟨n',is',a',o',us',kk',rfl,x2,y2,_,z2,w2⟩:=tup j d2 e2;unfold uT;rw[x1,x2];rw[RG] at e3;cases e3;refine JQ y1 z1 y2 z2 (OU w1 w2 (λ_=>rfl) ?_ c);have l1:=w1.length;have l2:=w2.length;rw[jQ] at l1 l2;rw[l1,l2]
theorem Xx:hJ X (.builtin "sorted") (λvs H Q=>∃ F ds rs p xs,vs=[.ref p]/\aG F H/\gp X.K H p xs/\fg X.K F ds xs/\oi ds=Ga rs/\∀ a ys,H a=Gb->fg X.K F rs ys->Q (.ref a) (upd H a (.lst ys))):=by
 intro ω s σ H vs us Q I r h;obtain⟨F,ds,rs,p,xs,rfl,g,hl,rr,e,q⟩:=h;obtain⟨u,rfl,ru⟩:=vals1 r;cases ru;obtain⟨its,rv,pl,hz⟩:=I.list hl;have hlen:ds.length=its.length:=rr.length.trans rv.length;have hn:H (s.heap.objs.size+1)=Gb:=I.hok.fresh (vt _);have fin:∀ (out:List Gg) (ys:List V) (h':Heap) (c:Nat),fw ys out->out.length<=sizeLine->fg X.K F rs ys->(∀ b o,s.heap.get? b=Ga o->h'.get? b=Ga o)->h'.get? (s.heap.objs.size+1)=Ga (seqObj "list" out.toArray c) ->
   EP X ω σ Q (.ref (s.heap.objs.size+1)) { s with heap:=h' }:=λout ys h' c rvo hz2 rro k hc =>
  ⟨.ref _,_,I.laid (t':=s.toks) (o:=.lst ys) k (vt _) ⟨by rw[rvo.length];exact hz2,out,c,rvo,hc⟩,rfl,q _ ys hn rro⟩
 unfold oi at e;split at e
 .rename_i hs;cases e;refine LY (out:=its) pl.isList (by omega) (λs1 n P E' k ho hP=>TL ho (by omega) λh' c kk hc=>hP h' c kk hc) λh' c k hc=>fin its xs h' c rv (by rw[sizeLine_eq];omega) rr k hc
 .rename_i hs;split at e
  .rename_i ok;rw[jo,decide_eq_true_eq] at ok;obtain⟨pm,e1,e2⟩:=aj e;split at e2;rotate_left
   .cases e2
   rename_i hpm;cases e2;have h2:2<=its.length:=by omega
   rw[hlen] at e1;refine LY (out:=pm.toList.map λi=>its.getD i kf) pl.isList (by omega) (λs1 n P E' k ho hP=>QZ ho h2 (by omega) e1 (λs2 k2=>Vn I g rv rr h2 ok.2 λb o eb=>k2 b o (jG (uY (ju eb))) (k b o eb)) λh' c kk hc=>hP h' c kk hc) λh' c k hc=>?_;refine fin _ (pm.toList.map λi=>xs.getD i .non) h' c ?_ ?_ ?_ k hc
   .have:∀ l:List Nat,fw (l.map λi=>xs.getD i V.non) (l.map λi=>its.getD i kf):=λl=>by
     induction l with
     | nil=>exact .nil
     | cons i l ih =>
      refine .cons ?_ ih;dsimp only;rw[jl,jl];cases hx:xs[i]? with
      | none=>rw[rv.none_of hx];rfl
      | some v=>obtain⟨u,e,r⟩:=rv.get hx;rw[e];exact r
    exact this _
   .rw[jd,jQ,sizeLine_eq];omega
   .have:∀ l:List Nat,fg X.K F (l.map λi=>ds.getD i .none) (l.map λi=>xs.getD i V.non):=λl=>by
     induction l with
     | nil=>exact .nil
     | cons i l ih =>
      refine .cons ?_ ih;dsimp only;rw[jl,jl];cases hx:ds[i]? with
      | none =>
       have:xs[i]?=Gb:=kq (by rw[<- rr.length];exact u9.mp hx);rw[this];exact .non
      | some d=>obtain⟨v,e,r⟩:=rr.get hx;rw[e];exact r
    exact this _
  .cases e
theorem XD {e:Expr}{f:FL}{p pos:Pos}(hg:Gl X "sorted")(hm:X.mg "sorted"=Gb)(ha:pN X e f)(hs:starEach [e] X.env=[(false,eval e X.env)]:=by rfl):PO X (.Call (.Name "sorted" p) [e] [] pos) (λψ=>(f ψ).bind oi):=by
 refine gX (yp Xx hg hm boot_sorted ha (hs:=hs)) λσ H Q=>?_;rintro⟨H0,F,ψ,rs,r,e,q⟩;obtain⟨ds,e1,e⟩:=aj e;refine⟨H0,F,ψ,ds,r,e1,λp xs H1 F1 g1 f1 fh1 n1 hl rr=>⟨F1,ds,rs,p,xs,rfl,fh1,hl,rr,e,λa ys ha ry=>?_⟩⟩;have s2:aG H1 (upd H1 a (.lst ys)):=aG.new ha;exact q a ys _ F1 (g1.trans s2) f1 (fh1.trans s2) n1 (g1.free ha) (fh1.free ha) eZ ry
end
section
variable {X:Cx}{pos:Pos}
def mI:D->D->Option D:=rF λi j=>.int (if j<i then j else i)
def pA:D->D->Option D:=rF λi j=>.int (if j>i then j else i)
theorem MR {a b:Expr}{f g:FV}{p:Pos}{x:Str}{id:String}{op:Int->Int->Int}(hc:hJ X (.builtin id) (λxs H Q=>∃ i j,xs=[.int i,.int j]/\Q (.int (op i j)) H))(hg:Gl X x)(hm:X.mg x=Gb)(hv:bootBuiltins x=Ga (.builtin id))(ha:PV X a f)(hb:PV X b g)
  (hn:x≠"__name__":=by decide) (hdb:(x==("__debug__":Str))=false:=by decide) (hs:starEach [a,b] X.env=(false,eval a X.env)::starEach [b] X.env:=by rfl) (hs2:starEach [b] X.env=[(false,eval b X.env)]:=by rfl) :
  PV X (.Call (.Name x p) [a,b] [] pos) (λψ=>(f ψ).bind λx=>(g ψ).bind λy=>rF (λi j=>.int (op i j)) x y):=by
 refine gX (sJ hc hg hm hv (gA ha (gA hb iL hs2) hs) hn hdb hs (by rw[hs2];rfl)) λσ H Q=>?_;rintro⟨H0,F,ψ,d,r,e,q⟩;obtain⟨d1,e1,e3⟩:=aj e;obtain⟨d2,e2,e4⟩:=aj e3;clear e e3;refine⟨H0,F,ψ,d1,r,e1,λv H1 F1 g1 f1 fh1 n1 rv=>⟨H0,F1,ψ,d2,r.grow g1 f1 fh1 n1,e2,λv2 H2 F2 g2 f2 fh2 n2 rv2=>?_⟩⟩;cases rv<;>first|(cases e4;done)|skip
 cases rv2<;>first|(cases e4;done)|skip
 cases e4;exact⟨_,_,rfl,q _ H2 F2 (g1.trans g2) (f1.trans f2) fh2 (n1.trans n2 g1) (.int _)⟩
theorem Fy {a b:Expr}{f g:FV}{p:Pos}(hc:X.calm=true)(hg:Gl X "min")(hm:X.mg "min"=Gb)(ha:PV X a f)(hb:PV X b g)(hs:starEach [a,b] X.env=(false,eval a X.env)::starEach [b] X.env:=by rfl)(hs2:starEach [b] X.env=[(false,eval b X.env)]:=by rfl) :
  PV X (.Call (.Name "min" p) [a,b] [] pos) (λψ=>(f ψ).bind λx=>(g ψ).bind λy=>mI x y):=MR (zU hc) hg hm boot_min ha hb (hs:=hs) (hs2:=hs2)
theorem RO {a b:Expr}{f g:FV}{p:Pos}(hc:X.calm=true)(hg:Gl X "max")(hm:X.mg "max"=Gb)(ha:PV X a f)(hb:PV X b g)(hs:starEach [a,b] X.env=(false,eval a X.env)::starEach [b] X.env:=by rfl)(hs2:starEach [b] X.env=[(false,eval b X.env)]:=by rfl) :
  PV X (.Call (.Name "max" p) [a,b] [] pos) (λψ=>(f ψ).bind λx=>(g ψ).bind λy=>pA x y):=MR (Ae hc) hg hm boot_max ha hb (hs:=hs) (hs2:=hs2)
def rD (xs:List D):D->Option (List D)
 | .int k=>if 0<=k/\k<1000000/\xs.length*k.toNat<=1000000 then Ga (jP k.toNat xs).flatten else Gb
 | _=>Gb
theorem fg.rep {K:ja}{F:Hp}{ds:List D}{xs:List V}(r:fg K F ds xs):∀ n,fg K F (jP n ds).flatten (jP n xs).flatten
 | 0=>.nil
 | n+1=>by rw[kQ,kQ,ug,ug];exact r.append (r.rep n)
theorem ZV {a b:Expr}{f:FL}{g:FV}(ha:PO X a f)(hb:PV X b g):PO X (.BinOp a .Mult b pos) (λψ=>(f ψ).bind λxs=>(g ψ).bind λy=>rD xs y):=by
 refine gX (BZ Hu ha hb) λσ H Q=>?_;rintro⟨H0,F,ψ,rs,r,e,q⟩;obtain⟨ds,e1,e3⟩:=aj e;obtain⟨d2,e2,e4⟩:=aj e3;clear e e3;refine⟨H0,F,ψ,ds,r,e1,λl xs H1 F1 g1 f1 fh1 n1 ha fa ha' rr=>⟨H0,F1,ψ,d2,r.grow g1 f1 fh1 n1,e2,λv2 H2 F2 g2 f2 fh2 n2 rv2=>?_⟩⟩;cases rv2<;>first|(cases e4;done)|skip
 rename_i k;unfold rD at e4;dsimp only at e4;split at e4
 .rename_i c;cases e4;refine⟨l,k,xs,rfl,rfl,g2 _ _ ha',by omega,by omega,?_,λp hp=>?_⟩
  .rw[<- rr.length,sizeLine_eq];omega
  .have s2:aG H2 (upd H2 p (.lst (jP k.toNat xs).flatten)):=aG.new hp;exact q p _ _ F2 ((g1.trans g2).trans s2) (f1.trans f2) (fh2.trans s2) (n1.trans n2 g1) ((g1.trans g2).free hp) (fh2.free hp) eZ ((rr.mono f2).rep _)
 .cases e4
def xL (ds:List D):D->D->Option (List D)
 | .int k,v=>(ixN ds.length k).bind λj=>Ga (ds.set j v)
 | _,_=>Gb
def iA (c:FB)(g:FS):Nat->FS
 | 0,_=>Gb
 | n+1,ψ=>(c (frz ψ)).bind λb=>if b then(g ψ).bind λo=>match o with
   | .nx e=>iA c g n e
   | .ct e=>iA c g n e
   | .bk e=>Ga (.nx e)
   | .rt d=>Ga (.rt d)
   | .ro ds=>Ga (.ro ds)
   | .rm a kvs=>Ga (.rm a kvs)
   | .rc d e=>Ga (.rc d e)
  else Ga (.nx ψ)
theorem OC (n:Nat){c:Expr}{body:List Stmt}{fc:FB}{g:FS}(hp:PassesOwn (model X.prog X.w) X.A X.env X.xe)(hc:PB X c fc)(hb:lz X body g):lG X (.While c body [] pos) (iA fc g n):=by
 refine oF (BV hp hc hb) λE σ H=>?_;rintro⟨H0,F,ψ,o,r,e,p⟩;refine⟨λm σ H=>∃ F2 ψ,RS X.K H0 F2 H ψ σ/\aG F F2/\fR F F2 H0/\iA fc g m ψ=Ga o,⟨n,F,ψ,r,.refl _,.refl _ _,e⟩,?_⟩;rintro m σ' H' ⟨F2,env2,r2,f2,n2,e2⟩;cases m with
 | zero=>cases e2
 | succ m =>
  obtain⟨b,x1,x2⟩:=aj (show(fc (frz env2)).bind _=Ga o from e2);refine⟨H0,H',frz env2,b,r2.frz,x1,λH3 g3=>?_⟩;have r3:=r2.later g3;have p2:=p.mono f2 n2;cases b with
  | false =>
   cases x2;exact pH (p2 σ' H3 F2 (.refl _) (.refl _ _) r3)
  | true =>
   obtain⟨o1,x3,x4⟩:=aj (show(g env2).bind _=Ga o from x2);refine pD ⟨λσ4 H4=>∃ F4 ψ,RS X.K H0 F4 H4 ψ σ4/\aG F F4/\fR F F4 H0/\iA fc g m ψ=Ga o,λσ4 H4 h4=>⟨m,vP _,h4⟩,H0,F2,env2,o1,r3,x3,?_⟩;cases o1 with
   | nx e5=>exact λσ6 H6 F6 f6 n6 r6=>⟨F6,e5,r6,f2.trans f6,n2.up n6,x4⟩
   | ct e5=>exact λσ6 H6 F6 f6 n6 r6=>⟨F6,e5,r6,f2.trans f6,n2.up n6,x4⟩
   | bk e5=>cases x4;exact p2
   | rt d=>cases x4;exact p2
   | ro d=>cases x4;exact p2
   | rm a d=>cases x4;exact p2
   | rc a d=>cases x4;exact p2
end
abbrev QE (f:FL)(g:FV):FL:=λψ=>(f ψ).bind λxs=>(g ψ).bind λy=>rD xs y
abbrev CG (f:FL):FL:=λψ=>(f ψ).bind oi
abbrev yG (f:FL)(g:FV):FV:=λψ=>(f ψ).bind λx=>(g ψ).bind λy=>wp x y
section
variable {X:Cx}{tg:Expr}{pos:Pos}
end
theorem Nn {t:FT}{g:FS}(I:En->Prop):∀ {ds:List D} {ψ:En},I ψ->(∀ d∈ds,∀ ψ,I ψ->∃ e1 e2,t d ψ=Ga e1/\g e1=Ga (.nx e2)/\I e2)->∃ e,fY t g ds ψ=Ga (.nx e)/\I e
 | [],ψ,h,_=>⟨ψ,rfl,h⟩
 | x::r,ψ,h,st=>by
  obtain⟨e1,e2,q1,q2,q3⟩:=st x jf ψ h;obtain⟨e,z1,z2⟩:=Nn I (ds:=r) q3 (λd hd=>st d (jj _ hd));refine⟨e,?_,z2⟩;unfold fY;rw[q1,je,q2];exact z1
theorem yv {xs:List D}{j:Nat}{v:D}(h:xs[j]?=Ga v):atI xs (j:Int)=Ga v:=atI_nat h
theorem pL {n:Nat}(h:n<1000000):gf (.int (n:Int))=Ga (gT 0 n):=by
 unfold gf;dsimp only;rw[Ge (by constructor<;>omega),jR]
theorem mV (n:Nat):gT 0 n=(jb n).map λ(k:Nat)=>jc (k:Int):=by
 unfold gT;apply ka;intro k _;rw[qE]
theorem ww (lo:Int)(n:Nat):(gT lo n).length=n:=by unfold gT;rw[jd,jK]
theorem Bb {i j:Int}(h:0<j):iW (.int i) (.int j)=Ga (.int (i%j)):=by
 show(if decide (0<j) then _ else _)=_;rw[Ge (Gc h)]
theorem KI {i j:Int}(h:0<j)(h2:j<1073741824):oW (.int i) (.int j)=Ga (.int (i/j)):=by
 show(if decide (0<j)&&decide (j<1073741824) then _ else _)=_;rw[Gc h,Gc h2];rfl
theorem OJ {i j:Int}(h:pJ i j=true):lH (.int i) (.int j)=Ga (.int (i*j)):=by
 show(if pJ i j then _ else _)=_;rw[Ge h]
abbrev FP:=En->Option (Option Int)
def tPt (K:ja)(f:FP):TO:=λσ H Q=>∃ H0 F ψ o,RS K H0 F H ψ σ/\f ψ=Ga o/\∀ H' F',aG H H'->aG F F'->aG F' H'->fR F F' H->Q o H'
abbrev GZ (X:Cx)(e:Option Expr)(f:FP):Prop:=L2.PO X e (tPt X.K f)
def VT:D->Option (Option Int)
 | .int i=>Ga (Ga i)
 | _=>Gb
abbrev tP (f:FV):FP:=λψ=>(f ψ).bind VT
def tW (xs:List D)(lo hi:Option Int):List D:=(xs.drop (HT.sIx xs.length 0 lo)).take (HT.sIx xs.length xs.length hi-HT.sIx xs.length 0 lo)
def Ft:D->Option Int->Option Int->Option D
 | .list xs,lo,hi=>Ga (.list (tW xs lo hi))
 | .tuple xs,lo,hi=>if HT.sIx xs.length 0 lo=0/\HT.sIx xs.length xs.length hi=xs.length then Gb else Ga (.tuple (tW xs lo hi))
 | _,_,_=>Gb
theorem fg.cut {K:ja}{F:Hp}{ds:List D}{xs:List V}(r:fg K F ds xs)(lo hi:Option Int):fg K F (tW ds lo hi) (oX xs lo hi):=by
 unfold tW oX;rw[r.length];exact(r.drop _).take _
section
variable {X:Cx}{pos p2:Pos}
theorem KH {e:Expr}{f:FV}(h:PV X e f):GZ X (Ga e) (tP f):=by
 intro ω s σ H Q I hw;obtain⟨H0,F,ψ,o,r,e1,q⟩:=hw;obtain⟨d,e2,e3⟩:=aj e1;refine DA h ω s σ H Q I ⟨H0,F,ψ,d,r,e2,λv H' F' g1 f1 fh1 n1 rv=>?_⟩;cases rv<;>first|(cases e3;done)|skip
 cases e3;exact⟨_,rfl,q H' F' g1 f1 fh1 n1⟩
theorem Tc {a:Expr}{lo hi:Option Expr}{f:FV}{g h:FP}(ha:PV X a f)(hl:GZ X lo g)(hh:GZ X hi h):PV X (.Subscript a (.Slice lo hi Gb p2) pos) (λψ=>(f ψ).bind λx=>(g ψ).bind λl=>(h ψ).bind λu=>Ft x l u):=by
 refine gX (Bu (Dz.or IT) ha hl hh) λσ H Q=>?_;rintro⟨H0,F,ψ,d,r,e,q⟩;obtain⟨x,e1,e4⟩:=aj e;obtain⟨l,e2,e5⟩:=aj e4;obtain⟨u,e3,e6⟩:=aj e5;clear e e4 e5;refine⟨H0,F,ψ,x,r,e1,λv H1 F1 g1 f1 fh1 n1 rv=>⟨H0,F1,ψ,l,r.grow g1 f1 fh1 n1,e2,λH2 F2 g2 f2 fh2 n2=>⟨H0,F2,ψ,u,(r.grow g1 f1 fh1 n1).grow g2 f2 fh2 n2,e3,λH3 F3 g3 f3 fh3 n3=>?_⟩⟩⟩;have rv3:=rv.mono (f2.trans f3);cases rv3<;>first|(cases e6;done)|skip
 case lst a xs ds h1 h2 =>
  cases e6;refine kw ⟨a,xs,rfl,fh3.seq h1,λp hp=>?_⟩;obtain⟨s1,s2,s3,s4⟩:=rP (o:=.lst (oX xs l u)) fh3 hp;exact q _ _ _ (((g1.trans g2).trans g3).trans s1) (((f1.trans f2).trans f3).trans s2) s3 (((n1.trans n2 g1).trans n3 (g1.trans g2)).trans s4 ((g1.trans g2).trans g3)) (.lst (gp.of eZ) ((h2.cut l u).mono s2))
 case tup a xs ds h1 h2 =>
  unfold Ft at e6;dsimp only at e6;split at e6
  .cases e6
  .rename_i hw;cases e6;refine jZ ⟨a,xs,rfl,lE fh3 h1,by rw[<- h2.length];exact hw,λp hp=>?_⟩;obtain⟨s1,s2,s3,s4⟩:=rP (o:=.tup (oX xs l u)) fh3 hp;exact q _ _ _ (((g1.trans g2).trans g3).trans s1) (((f1.trans f2).trans f3).trans s2) s3 (((n1.trans n2 g1).trans n3 (g1.trans g2)).trans s4 ((g1.trans g2).trans g3)) (.tup (iQ.of eZ) ((h2.cut l u).mono s2))
end
abbrev FE (f:FV)(g h:FP):FV:=λψ=>(f ψ).bind λx=>(g ψ).bind λl=>(h ψ).bind λu=>Ft x l u
def GE (K:ja)(l:Gj):It :=
 ⟨λi H=>∃ xs x,gp K H l xs/\xs[i]?=Ga x,
   λi H v H'=>∃ T x,v=.ref T/\H T=Gb/\H'=upd H T (.tup [.int i,x])/\∀ xs,gp K H l xs->xs[i]?=Ga x,
   λi H=>∃ xs,gp K H l xs/\xs[i]?=Gb⟩
theorem Yv {P:Program}{w:World}{K:ja}{elts:List Expr}{x1:Nat}{pos:Pos}(l e it:Gj)(D:e≠it) :
  tY P w K (.Tuple elts x1 pos) (GE K l) [e,it] e (λi h=>(∃ old,IsEnum h e it (i:Nat) old)/\h.IsListIter it l i) where
 mem:=by simp
 obj:=λi h st b hb=>by
  obtain⟨⟨old,he⟩,s1⟩:=st;simp only[jx,k9,or_false] at hb;rcases hb with rfl|rfl
  .exact⟨_,he,λv q=>by cases q⟩
  .obtain⟨o,e,_,d⟩:=s1;exact⟨o,e,λv q=>by rw[d] at q;cases q⟩
 keep:=λi h h' st k=>by
  obtain⟨⟨old,he⟩,s1⟩:=st;exact⟨⟨old,k e (by simp) _ he⟩,s1.at λo e=>k it (by simp) o e⟩
 item:=by
  intro X hP hw hK hc i ω s σ H E I hf st hg;subst hP hw hK;obtain⟨⟨old,he⟩,s1⟩:=st;obtain⟨xs,x,q1,ex⟩:=hg;obtain⟨its,r1,o1,ol1,e1⟩:=ER (t:=false) I q1;obtain⟨u1,eu1,ru1⟩:=r1.get ex;refine wpAny_pyNext_enum_item he s1 (o1:s.heap.IsList l its.toArray) (by simpa using eu1) D λh' e' s1' pT hn kk=>?_;have hT:H s.heap.objs.size=Gb:=I.fresh;have hch:∀ b∈[e,it],ot X ω H b:=hf;have kk':∀ b o,b∉[e,it]->s.heap.get? b=Ga o->h'.get? b=Ga o:=λb o hb q=>kk b o (λz=>hb (by simp[z])) (λz=>hb (by simp[z])) q;have nch:∀ b u,H b=Ga u->b∉[e,it]:=λb u q z=>by rw[(hch b z).1] at q;cases q
  have nT:∀ b o,s.heap.get? b=Ga o->b≠s.heap.objs.size:=λb o q=>jG (ju q);have nTu:∀ b u,H b=Ga u->b≠s.heap.objs.size:=λb u q z=>by rw[z,hT] at q;cases q
  have I1:eS X ω σ (upd H s.heap.objs.size (.tup [.int i,x])) { s with heap:=h',toks:=s.toks+1 }:=by
   refine I.step (g':=s.gens) (d':=s.drawn) (ch:=[e,it]) (λb hb=>?_) (λb o _ _ hc q _=>kk' b o hc q) (λb o _ _ hc q _=>⟨o.slots,kk' b o hc q⟩) (λb o _ q n=>by rw[eQ (nT b o q)];exact n) (λb o hc q=>⟨o,kk' b o hc q⟩) (λb ts q=>by rw[eQ (nTu b _ q)];exact q) (λb _ _ q=>by rw[eQ (nTu b _ q)];exact q)
    (λb ps q=>⟨#[],by rw[eQ (nTu b _ q),q];simp⟩) (λm hm=>?_) (λb u q=>?_) I.bare
   .obtain⟨_,f1,_,f3,f4,f5⟩:=hch b hb;exact⟨f3,f1,f4,f5⟩
   .obtain⟨o,es,ep,ho,r⟩:=hm;exact⟨o,es,ep,kk' _ o (λq=>(hch _ q).2.1 rfl) ho,r⟩
   .by_cases hb:b=s.heap.objs.size
    .subst hb;rw[eZ] at q;cases q;exact⟨(by show 2<=sizeLine;decide),[.int i s.toks,u1],.cons ⟨_,rfl⟩ (.cons ru1 .nil),⟨_,pT,rfl,_,rfl⟩⟩
    .rw[eQ hb] at q;refine(I.hok b u q).stay (λc v hc z=>kk' c v ?_ z) (λc z=>by rw[eQ (nTu c _ z)];exact z) λc ts z=>by rw[eQ (nTu c _ z)];exact z
     rcases hc with z|z
     .rw[z];exact nch b u q
     .exact nch c _ z
  refine⟨.ref s.heap.objs.size,rfl,?_⟩;refine wpAny_letOwnedTupleGo_enum e' λh2 z2 b2=>?_;have fe:ot X ω (upd H s.heap.objs.size (.tup [.int i,x])) e:=by
   obtain⟨f0,f1⟩:=hf e (by simp);exact⟨by rw[eQ (nT e _ he)];exact f0,f1⟩
  have I2:=Pm (h':=h2) (ch:=[e]) I1 (λb hb=>by cases jp.mp hb;exact fe) (λb o hb q=>b2.extBut b o (λz=>hb (by simp[z])) q) (s.toks+1);have kz:∀ b o,b≠e->h'.get? b=Ga o->h2.get? b=Ga o:=λb o hb q=>b2.extBut b o hb q;refine⟨.ref s.heap.objs.size,_,I2,rfl,⟨s.heap.objs.size,x,rfl,hT,rfl,λxs' p1=>?_⟩,⟨⟨_,z2⟩,?_⟩,λb hb=>?_⟩
  .rw[Rf (t:=false) I p1 q1];exact ex
  .exact s1'.at λo q=>kz _ o (λz=>D z.symm) q
  .rw[eQ]
   .exact(hf b hb).1
   .simp only[jx,k9,or_false] at hb;rcases hb with rfl|rfl
    .exact nT _ _ he
    .obtain⟨o,q,_⟩:=s1;exact nT _ _ q
 done:=by
  intro X hP hw hK hc i ω s σ H E I hf st hg;subst hP hw hK;obtain⟨⟨old,he⟩,s1⟩:=st;obtain⟨xs,q1,ex⟩:=hg;obtain⟨its,r1,o1,ol1,e1⟩:=ER (t:=false) I q1;have hh:X.A.handled=Gb:=I.ok.hd hc;have ex':its[i]?=Gb:=r1.none_of ex;refine wpAny_pyNext_enum_end hh he s1 (o1:s.heap.IsList l its.toArray) (by simpa using ex') λh' kk=>⟨rfl,?_⟩;exact Pm (ch:=[it]) I (λb hb=>hf b (by simp only[jx,k9,or_false] at hb ⊢;exact jZ hb)) (λb o hb q=>kk b o (λz=>hb (by simp[z])) q) s.toks
 self:=λ_ _ _ _ _ st h=>by obtain⟨⟨old,he⟩,_⟩:=st;exact wpAny_pyIter_enum he h
def on:D->Option (List D)
 | .list xs=>Ga ((jb xs.length).map λ(i:Nat)=>kW [.int (i:Int),xs.getD i .none])
 | _=>Gb
theorem zmO {K:ja}{F:Hp}{l:Gj}{xs:List V}{ds:List D}(h1:gp K F l xs)(r1:fg K F ds xs):nJ K (GE K l) F ((jb ds.length).map λ(i:Nat)=>kW [.int (i:Int),ds.getD i .none]):=by
 intro H g i;have e1:=r1.length;refine⟨λhi=>⟨xs,g.seq h1,kq (by rw[jd,jK] at hi;omega)⟩,λd hd=>?_⟩;have hi:i<ds.length:=by have:=(ji.mp hd).1;rw[jd,jK] at this;exact this
 obtain⟨v1,x1,x2⟩:=r1.get (jh hi);have ed:d=.tuple [.int (i:Int),ds[i]]:=by
  rw[jw,kX hi,uU,jl,jh hi] at hd;exact(jy hd).symm
 subst ed;refine⟨⟨xs,v1,g.seq h1,x1⟩,λx H' y=>?_⟩;obtain⟨T,a,rfl,hT,rfl,q⟩:=y;have q1:=q xs (g.seq h1);rw[x1] at q1;cases q1;obtain⟨s1,s2,s3,s4⟩:=rP (o:=.tup [.int i,v1]) g hT;exact⟨s1,_,s2,s3,s4,.tup (iQ.of eZ) (.cons (.int _) (.cons (x2.mono s2) .nil))⟩
section
variable {X:Cx}{pos:Pos}
theorem Zd {a:Expr}{f:FV}{p p4:Pos}{elts:List Expr}{x1:Nat}(hg:Gl X "enumerate")(hm:X.mg "enumerate"=Gb)(ha:PV X a f)(hs:starEach [a] X.env=[(false,eval a X.env)]:=by rfl) :
  wx X (.Tuple elts x1 p4) (.Call (.Name "enumerate" p) [a] [] pos) (λψ=>(f ψ).bind on):=by
 intro ω s σ H R I h;obtain⟨H0,F,ψ,ds,r,e0,q⟩:=h;obtain⟨d1,e1,e⟩:=aj e0;clear e0;refine Call_ (nG I hg hm boot_enumerate (PyProof.Rows.callWith_type1 (fW (gA ha iL hs pos ω s σ H (λvs H2=>∃ l xs,vs=[.ref l]/\gp X.K H2 l xs/\R (GE X.K l) H2) I
  ⟨H0,F,ψ,d1,r,e1,λv H1 F1 g1 f1 fh1 n1 rv=>?_⟩) λus s1 ⟨vs,H2,I2,rvs,l,xs,ev,h1,hR⟩=>?_) hs (by rfl)))
 .cases rv<;>first|(cases e;done)|skip
  rename_i p1 xs ds1 h1 rr1;cases e;exact⟨p1,xs,rfl,fh1.seq h1,q _ H1 F1 g1 f1 fh1 n1 λF3 f3=>zmO (f3.seq h1) (rr1.mono f3)⟩
 .subst ev;cases rvs with
  | cons r1 r2 =>
   cases r2;cases r1;obtain⟨its,r1,o1,_⟩:=ER (t:=false) I2 h1;refine call_enumerate_list (o1:s1.heap.IsList l its.toArray) λh' a1 a2 a3 a4=>?_;refine wpAny_pyIter_enum a1 ⟨_,[s1.heap.objs.size+1,s1.heap.objs.size],_,_,H2,rfl,I2.kept (t':=s1.toks) a4,Yv l _ _ (show(s1.heap.objs.size+1:Nat)≠s1.heap.objs.size by omega),⟨⟨_,a1⟩,a2⟩,λb hb=>?_,hR⟩;have hb':s1.heap.objs.size<=b:=by
    simp only[jx,k9,or_false] at hb;rcases hb with rfl|rfl<;>first|exact jr _|exact Nat.le_add_right _ _
   exact I2.fpOk hb' (I2.hok.fresh hb')
end
def BS:List Int->Option Int
 | []=>Gb
 | i::r=>Ga (r.foldl (λa b=>if b<a then b else a) i)
def zr:List Int->Option Int
 | []=>Gb
 | i::r=>Ga (r.foldl (λa b=>if a<b then b else a) i)
def oh (ds:List D):Option D:=(iZ ds).bind λis=>(BS is).bind λm=>Ga (.int m)
def pI (ds:List D):Option D:=(iZ ds).bind λis=>(zr is).bind λm=>Ga (.int m)
theorem yI:∀ (r:List Int) (i:Int),(r.foldl (λa b=>if b<a then b else a) i=i\/r.foldl (λa b=>if b<a then b else a) i∈r)/\r.foldl (λa b=>if b<a then b else a) i<=i/\∀ a∈r,r.foldl (λa b=>if b<a then b else a) i<=a
 | [],i=>⟨.inl rfl,vx _,λa h=>by cases h⟩
 | b::r,i=>by
  obtain⟨h1,h2,h3⟩:=yI r (if b<i then b else i);rw[qK];refine⟨?_,?_,λa ha=>?_⟩
  .rcases h1 with z|z
   .by_cases hb:b<i
    .rw[Ge hb] at z ⊢;exact .inr (by rw[z];exact jf)
    .rw[Gf hb] at z ⊢;exact .inl z
   .exact .inr (jj _ z)
  .refine qF h2 ?_;split
   .rename_i hb;exact Int.le_of_lt hb
   .exact vx _
  .rcases jx.mp ha with rfl|ha
   .refine qF h2 ?_;split
    .exact vx _
    .rename_i hb;exact JR.mp hb
   .exact h3 a ha
theorem yN:∀ (r:List Int) (i:Int),(r.foldl (λa b=>if a<b then b else a) i=i\/r.foldl (λa b=>if a<b then b else a) i∈r)/\i<=r.foldl (λa b=>if a<b then b else a) i/\∀ a∈r,a<=r.foldl (λa b=>if a<b then b else a) i
 | [],i=>⟨.inl rfl,vx _,λa h=>by cases h⟩
 | b::r,i=>by
  obtain⟨h1,h2,h3⟩:=yN r (if i<b then b else i);rw[qK];refine⟨?_,?_,λa ha=>?_⟩
  .rcases h1 with z|z
   .by_cases hb:i<b
    .rw[Ge hb] at z ⊢;exact .inr (by rw[z];exact jf)
    .rw[Gf hb] at z ⊢;exact .inl z
   .exact .inr (jj _ z)
  .refine qF ?_ h2;split
   .rename_i hb;exact Int.le_of_lt hb
   .exact vx _
  .rcases jx.mp ha with rfl|ha
   .refine qF ?_ h2;split
    .exact vx _
    .rename_i hb;exact JR.mp hb
   .exact h3 a ha
theorem QL {is:List Int}{m:Int}(h:BS is=Ga m):m∈is/\∀ a∈is,m<=a:=by
 cases is with
 | nil=>cases h
 | cons i r =>
  cases h;obtain⟨h1,h2,h3⟩:=yI r i;refine⟨?_,λa ha=>?_⟩
  .rcases h1 with z|z
   .rw[z];exact jf
   .exact jj _ z
  .rcases jx.mp ha with rfl|ha
   .exact h2
   .exact h3 a ha
theorem Uf {is:List Int}{m:Int}(h:zr is=Ga m):m∈is/\∀ a∈is,a<=m:=by
 cases is with
 | nil=>cases h
 | cons i r =>
  cases h;obtain⟨h1,h2,h3⟩:=yN r i;refine⟨?_,λa ha=>?_⟩
  .rcases h1 with z|z
   .rw[z];exact jf
   .exact jj _ z
  .rcases jx.mp ha with rfl|ha
   .exact h2
   .exact h3 a ha
section
variable {X:Cx}{pos:Pos}
theorem Zi (hc:X.calm=true):hJ X (.builtin "min") (λxs H Q=>∃ (p:Gj) (is:List Int) (m:Int),xs=[.ref p]/\gp X.K H p (is.map V.int)/\BS is=Ga m/\Q (.int m) H):=by
 intro ω s σ H xs us Q I r h;obtain⟨p,is,m,rfl,hl,hm,q⟩:=h;obtain⟨hm,hle⟩:=QL hm;obtain⟨u,rfl,ru⟩:=vals1 r;cases ru;obtain⟨its,rv,pl,hz⟩:=I.list hl;have hi:IntsAre its is:=sR rv;obtain⟨ys,ey⟩:=hi.allInts.items;have en:is=ys.toList.map (·.1):=hi.numsOf.symm.trans (by rw[<- nums_intItems,<- ey]);have el:is.length=ys.size:=by rw[en,jd,jQ]
 have hne:0<ys.size:=by rw[<- el];exact uP hm
 have hl':s.heap.IsList p (intItems ys):=by rw[<- ey];exact pl.isList
 refine min_intList (I.ok.hd hc) hl' hne λv h' tk hv hk=>?_;obtain⟨t,rfl⟩:=intItems_at hv;obtain⟨b1,b2⟩:=argBest_lt (numAt ys) (ys.size-1);have mem:numAt ys (argBest (λi j=>decide (numAt ys i<numAt ys j)) (ys.size-1))∈is:=by rw[numAt_eq,<- en];exact JS (by omega)
 have le:numAt ys (argBest (λi j=>decide (numAt ys i<numAt ys j)) (ys.size-1))<=m:=by
  obtain⟨j,hj,ej⟩:=JT hm;have:=b2 j (by omega);rw[numAt_eq ys j,<- en,ej] at this;exact this
 exact⟨.int m,H,I.kept hk,⟨t,by rw[Int.le_antisymm le (hle _ mem)]⟩,q⟩
theorem Sy (hc:X.calm=true):hJ X (.builtin "max") (λxs H Q=>∃ (p:Gj) (is:List Int) (m:Int),xs=[.ref p]/\gp X.K H p (is.map V.int)/\zr is=Ga m/\Q (.int m) H):=by
 intro ω s σ H xs us Q I r h;obtain⟨p,is,m,rfl,hl,hm,q⟩:=h;obtain⟨hm,hle⟩:=Uf hm;obtain⟨u,rfl,ru⟩:=vals1 r;cases ru;obtain⟨its,rv,pl,hz⟩:=I.list hl;have hi:IntsAre its is:=sR rv;obtain⟨ys,ey⟩:=hi.allInts.items;have en:is=ys.toList.map (·.1):=hi.numsOf.symm.trans (by rw[<- nums_intItems,<- ey]);have el:is.length=ys.size:=by rw[en,jd,jQ]
 have hne:0<ys.size:=by rw[<- el];exact uP hm
 have hl':s.heap.IsList p (intItems ys):=by rw[<- ey];exact pl.isList
 refine max_intList (I.ok.hd hc) hl' hne λv h' tk hv hk=>?_;obtain⟨t,rfl⟩:=intItems_at hv;obtain⟨b1,b2⟩:=argBest_gt (numAt ys) (ys.size-1);have mem:numAt ys (argBest (λi j=>decide (numAt ys i>numAt ys j)) (ys.size-1))∈is:=by rw[numAt_eq,<- en];exact JS (by omega)
 have le:m<=numAt ys (argBest (λi j=>decide (numAt ys i>numAt ys j)) (ys.size-1)):=by
  obtain⟨j,hj,ej⟩:=JT hm;have:=b2 j (by omega);rw[numAt_eq ys j,<- en,ej] at this;exact this
 exact⟨.int m,H,I.kept hk,⟨t,by rw[Int.le_antisymm (hle _ mem) le]⟩,q⟩
theorem Rw {p:Pos}{e:Expr}{fl:FL}(hc:X.calm=true)(hg:Gl X "min")(hm:X.mg "min"=Gb)(ha:pN X e fl)(hs:starEach [e] X.env=[(false,eval e X.env)]:=by rfl) :
  PV X (.Call (.Name "min" p) [e] [] pos) (wH oh fl):=by
 refine gX (yp (Zi hc) hg hm boot_min ha (hs:=hs)) λσ H Q=>?_;rintro⟨H0,F,ψ,d,r,e,q⟩;obtain⟨ds,e1,e⟩:=aj e;obtain⟨is,e2,e⟩:=aj e;obtain⟨m,e3,e⟩:=aj e;cases e;refine⟨H0,F,ψ,ds,r,e1,λp xs H1 F1 g1 f1 fh1 n1 hl rr=>⟨p,is,m,rfl,?_,e3,q _ H1 F1 g1 f1 fh1 n1 (.int _)⟩⟩;rw[AV e2] at rr;rw[<- rr.ints_inv];exact hl
theorem Ma {p:Pos}{e:Expr}{fl:FL}(hc:X.calm=true)(hg:Gl X "max")(hm:X.mg "max"=Gb)(ha:pN X e fl)(hs:starEach [e] X.env=[(false,eval e X.env)]:=by rfl) :
  PV X (.Call (.Name "max" p) [e] [] pos) (wH pI fl):=by
 refine gX (yp (Sy hc) hg hm boot_max ha (hs:=hs)) λσ H Q=>?_;rintro⟨H0,F,ψ,d,r,e,q⟩;obtain⟨ds,e1,e⟩:=aj e;obtain⟨is,e2,e⟩:=aj e;obtain⟨m,e3,e⟩:=aj e;cases e;refine⟨H0,F,ψ,ds,r,e1,λp xs H1 F1 g1 f1 fh1 n1 hl rr=>⟨p,is,m,rfl,?_,e3,q _ H1 F1 g1 f1 fh1 n1 (.int _)⟩⟩;rw[AV e2] at rr;rw[<- rr.ints_inv];exact hl
def pi:List D->Option (List Bool)
 | []=>Ga []
 | .bool b::r=>(pi r).bind λbs=>Ga (b::bs)
 | _=>Gb
theorem Pn:∀ {ds:List D} {bs:List Bool},pi ds=Ga bs->ds=bs.map j3
 | [],bs,h=>by cases h;rfl
 | .bool b::r,bs,h=>by
  obtain⟨cs,e1,e2⟩:=aj (show(pi r).bind (λbs=>Ga (b::bs))=Ga bs from h);cases e2;rw[Pn e1];rfl
 | .none::_,_,h=>by cases h
 | .int _::_,_,h=>by cases h
 | .str _::_,_,h=>by cases h
 | .list _::_,_,h=>by cases h
 | .tuple _::_,_,h=>by cases h
 | .dict _::_,_,h=>by cases h
theorem Pp:∀ bs:List Bool,pi (bs.map j3)=Ga bs
 | []=>rfl
 | b::r=>by show(pi (r.map j3)).bind _=_;rw[Pp r];rfl
theorem fg.bools_inv {K:ja}{F:Hp}:∀ {bs:List Bool} {vs:List V},fg K F (bs.map j3) vs->vs=bs.map V.bl
 | [],_,h=>by cases h;rfl
 | b::r,_,h=>by
  cases h with
  | cons h t=>cases h;rw[fg.bools_inv t];rfl
def BG (ds:List D):Option D:=(pi ds).bind λbs=>Ga (.bool (bs.all id))
theorem zqE (bs:List Bool):(jb bs.length).all (λi=>bs.getD i false)=bs.all id:=by
 rw[jV,jO,jO];constructor
 .intro h x hx;obtain⟨i,hi,rfl⟩:=v7 hx;have:=h i (jm.mpr hi);rw[jl,jh hi] at this;exact this
 .intro h i hi;have hi:=jm.mp hi;rw[jl,jh hi];exact h _ (uJ hi)
theorem Vu {bs:List Bool}{its:List Gg}(rv:fw (bs.map V.bl) its):∀ (i:Nat) (v:Gg),its.toArray[i]?=Ga v->v=uM (bs.getD i false):=by
 intro i v hv;have hv':its[i]?=Ga v:=by simpa using hv
 have hlen:(bs.map V.bl).length=its.length:=rv.length;have:i<its.length:=(ji.mp hv').1;have hk:i<bs.length:=by rw[jd] at hlen;omega
 obtain⟨w',e1,e2⟩:=rv.get (i:=i) (x:=.bl bs[i]) (by rw[jw,jh hk];rfl);rw[hv'] at e1;cases e1;cases e2;rw[jl,jh hk];rfl
theorem YW (hc:X.calm=true):hJ X (.builtin "all") (λxs H Q=>∃ (p:Gj) (bs:List Bool),xs=[.ref p]/\gp X.K H p (bs.map V.bl)/\Q (.bl (bs.all id)) H):=by
 intro ω s σ H xs us Q I r h;obtain⟨p,bs,rfl,hl,q⟩:=h;obtain⟨u,rfl,ru⟩:=vals1 r;cases ru;obtain⟨its,rv,pl,hz⟩:=I.list hl;have hp:p<s.heap.objs.size:=by obtain⟨o,n,e,_⟩:=pl;exact ju e
 refine call_all_walk (wpAny_pyIter_list pl.isList ⟨s.heap.objs.size,[s.heap.objs.size,p],[s.heap.objs.size],_,_,_,λj=>bs.getD j false,rfl,Walks.list (show X.A.in1.handled=Gb from I.ok.hd hc) _ p (jG hp) its.toArray,⟨⟨_,jD _ rfl,rfl,rfl⟩,?_⟩,?_,?_⟩)
 .obtain⟨o,n,e,c,_,d⟩:=pl;exact⟨o,jg _ e,c,n,d⟩
 .intro i v s1 Q1 E1 hv hQ;rw[Vu rv i v hv];exact wpAny_truthy_bool hQ
 .intro h' tk hk;have el:its.toArray.size=bs.length:=by rw[jn,<- rv.length,jd]
  rw[el,zqE];refine⟨.bl (bs.all id),H,I.kept λb o e=>hk b o ?_ (jg _ e),rfl,q⟩;intro z;cases jp.mp z;exact absurd (ju e) (ko _)
theorem Wy {p:Pos}{e:Expr}{fl:FL}(hc:X.calm=true)(hg:Gl X "all")(hm:X.mg "all"=Gb)(ha:pN X e fl)(hs:starEach [e] X.env=[(false,eval e X.env)]:=by rfl) :
  PV X (.Call (.Name "all" p) [e] [] pos) (wH BG fl):=by
 refine gX (yp (YW hc) hg hm boot_all ha (hs:=hs)) λσ H Q=>?_;rintro⟨H0,F,ψ,d,r,e,q⟩;obtain⟨ds,e1,e⟩:=aj e;obtain⟨bs,e2,e⟩:=aj e;cases e;refine⟨H0,F,ψ,ds,r,e1,λp xs H1 F1 g1 f1 fh1 n1 hl rr=>⟨p,bs,rfl,?_,q _ H1 F1 g1 f1 fh1 n1 (.bl _)⟩⟩;rw[Pn e2] at rr;rw[<- rr.bools_inv];exact hl
abbrev Ec:FS:=λ_=>Gb
theorem VF {st:Stmt}:lG X st Ec:=by
 intro ω s σ H D I hw;obtain⟨H0,F,ψ,o,r,e,p⟩:=hw;cases e
end
section
variable {X:Cx}{tg:Expr}{pos:Pos}
end
section
variable {prog:Program}{w:World}{A:Around}{E:Gg->Gh->Prop}{s:Gh}
theorem UI:typeLookup (.type "list_reverseiterator") "__len__"=pure Gb:=by rw[typeLookup_type,builtinLookup_eq_fast];kernel_rfl
theorem Yo:typeLookup (.type "list_reverseiterator") "__length_hint__"=pure (Ga (.builtin "list_reverseiterator.__length_hint__")):=by rw[typeLookup_type,builtinLookup_eq_fast];kernel_rfl
theorem QT {x:Gj}{Q:Bool->Gh->Prop}(hT:s.TypeIs (.ref x) "list_reverseiterator")(hQ:Q false s):wpAny (model prog w) A (kS (.ref x)) Q E s:=by
 unfold kS;refine eN (wpAny_specialOf hT UI ?_);show wpAny _ _ (specialOf (kD x) (u6 "__length_hint__") >>= _) _ _ _;refine eN (wpAny_specialOf hT Yo ?_);generalize hid:("list_reverseiterator.__length_hint__":String)=id0
 wp_delta
 rw[show splitId id0=Ga ("list_reverseiterator","__length_hint__") from by subst hid;decide +kernel];subst hid;refine eN (wpAny_isInstance (T:="list_reverseiterator") (b:=true) hT (by rw[isSubtype_type];kernel_rfl) ?_);refine wpAny_ite_split (λz=>absurd z (by decide)) λ_=>?_;refine wpAny_ite_split (λ_=>?_) λz=>absurd (by nofun) z;refine wpAny_ite_split (λz=>absurd z (by nofun)) λ_=>?_;exact eO hQ
theorem XX {I:Gj}{fp wr:List Gj}{n:Nat}{P:Nat->Gg->Prop}{St:Nat->Heap->Prop}{Q:Gg->Gh->Prop}
  (W:Walks prog w A.in1.in1 I fp wr n P St) (hT:∀ i (s:Gh),St i s.heap->s.TypeIs (.ref I) "list_reverseiterator")
  (hint:∀ (s1:Gh) (Q1:Bool->Gh->Prop) (E1:Gg->Gh->Prop),s1.TypeIs (.ref I) "list_reverseiterator"->Q1 false s1->wpAny (model prog w) A.in1.in1 (kS (.ref I)) Q1 E1 s1)
  (st0:St 0 s.heap) (hfp:s.heap.objs.size∉fp) (hI:I∈fp) (hn:n<=sizeLine)
  (hQ:∀ h' tk acc c,(∀ b o,b∉wr->s.heap.get? b=Ga o->h'.get? b=Ga o)->h'.get? s.heap.objs.size=Ga { cls:=.type "list",data:=.seq acc c }->ItemsOf P acc n->Q (.ref s.heap.objs.size) { s with heap:=h',toks:=tk }) :
  wpAny (model prog w) A (call (.type "list") [.ref I]) Q E s:=by
 have W':=W.toS;refine callType_codes (Q₁:=λob s1=>ob=kD s.heap.objs.size/\s1={ s with heap:=s.heap.push { cls:=.type "list",data:=.seq #[] } }) F.called_list (F.typeCall_list_1 _) F.entry_list_init (code_list_new _ ⟨rfl,rfl⟩) λob s1 z=>?_;obtain⟨rfl,rfl⟩:=z;have n0:(s.heap.push { cls:=.type "list",data:=.seq #[] }).get? s.heap.objs.size=Ga { cls:=.type "list",data:=.seq #[] }:=jD _ rfl;have nI:s.heap.objs.size≠I:=λz=>hfp (z▸hI);refine⟨⟨_,n0,rfl⟩,F.args_list_init_2 _ _,?_⟩;show wpAny _ _ (uQ (.ref s.heap.objs.size) >>= λold=>qy (.ref s.heap.objs.size) (λ_=>#[]) >>= λ_=>letGo old.toList.reverse >>= λ_=>kb (.ref s.heap.objs.size) (.ref I) .none) _ _ _;refine eN ?_;unfold uQ;refine eN (wpAny_seqItems n0 rfl (eO ?_));show wpAny _ _ (updateSeq s.heap.objs.size (λ_=>#[]) >>= λ_=>letGo (#[]:Array Gg).toList.reverse >>= λ_=>kb (.ref s.heap.objs.size) (.ref I) .none) _ _ _;refine eN (wpAny_updateSeq n0 rfl ?_);have n1:=kF (jS (λ_=>(#[]:Array Gg))) n0 rfl;have kp:∀ b o,s.heap.get? b=Ga o->((s.heap.push { cls:=.type "list",data:=.seq #[] }).update s.heap.objs.size (jS (λ_=>(#[]:Array Gg)))).get? b=Ga o:=λb o e =>
  (kK _ _ (kT (jG (ju e)))).trans (jg _ e)
 have st1:=W.frame 0 _ _ st0 λb _ o e=>kp b o e;generalize (s.heap.push { cls:=.type "list",data:=.seq #[] }).update s.heap.objs.size (jS (λ_=>(#[]:Array Gg)))=h1 at n1 kp st1;refine eN (wpAny_letGo ?_);unfold kb;refine eN (wpAny_typeOf (hT 0 { s with heap:=h1 } st1) ?_);rw[show uH (.ref s.heap.objs.size) (.ref I)=false from by simp[uH,nI]];simp only[show(uZ "list_reverseiterator"==uZ "list")=false by decide,show(uZ "list_reverseiterator"==uZ "tuple")=false by decide,vU,kA,if_false];refine eN (W.self 0 _ _ _ st1 ?_);refine eN (wpAny_holding (hint _ _ _ (hT 0 { s with heap:=h1 } st1) ?_));refine wpAny_ite_split (λz=>absurd z (by decide)) λ_=>?_;refine eO ⟨plainId_quiet F.plain_extend_loop _,codeAny_extend_loopS W' hn s.heap.objs.size hfp .none n 0 { s with heap:=h1 } #[] _ rfl (jX _) st1 n1 (ItemsOf.nil P) λs' acc c m nn it=>?_⟩;refine⟨rfl,?_⟩;rw[Moved.eq_with m];refine hQ s'.heap s'.toks acc c (λb o hb e=>m.heap b o (λz=>?_) (kp b o e)) nn it;rcases jx.mp z with z|z
 .exact absurd (ju e) (by rw[z];exact ko _)
 .exact hb z
end
abbrev Ev (f:FL):FL:=λψ=>(f ψ).bind λxs=>Ga xs.reverse
section
variable {X:Cx}{pos:Pos}
theorem Bc:∀ (xs:List V) (us:List Gg),xs.length=us.length->(∀ (i:Nat) (x:V) (u:Gg),xs[i]?=Ga x->us[i]?=Ga u->fC x u)->fw xs us
 | [],[],_,_=>.nil
 | [],_::_,h,_=>by cases h
 | _::_,[],h,_=>by cases h
 | x::xs,u::us,h,r=>.cons (r 0 x u rfl rfl) (Bc xs us (qG h) λi y z e1 e2=>r (i+1) y z e1 e2)
theorem Zx {e:Expr}{f:FL}{p p2 pos2:Pos}(hc:X.calm=true)(hg:Gl X "list")(hm:X.mg "list"=Gb)(hg2:Gl X "reversed")(hm2:X.mg "reversed"=Gb)(ha:pN X e f)(hs:starEach [e] X.env=[(false,eval e X.env)]:=by rfl)
  (hs2:starEach [.Call (.Name "reversed" p2) [e] [] pos2] X.env=[(false,eval (.Call (.Name "reversed" p2) [e] [] pos2) X.env)]:=by rfl) :
  PO X (.Call (.Name "list" p) [.Call (.Name "reversed" p2) [e] [] pos2] [] pos) (Ev f):=by
 intro ω s σ H Q I h;obtain⟨H0,F,ψ,ds,r,e0,q⟩:=h;obtain⟨d1,e1,e2⟩:=aj e0;cases e2;clear e0;refine Call_ (nG I hg hm boot_list (PyProof.Rows.callWith_type1 ?_ hs2 (by rfl)));rw[hs2];refine uu ?_;refine Call_ (nG I hg2 hm2 boot_reversed (PyProof.Rows.callWith_type1 (fW (gA ha iL hs pos2 ω s σ H (λvs H2=>∃ l xs F2,vs=[.ref l]/\gp X.K H2 l xs/\aG H H2/\aG F F2/\aG F2 H2/\fR F F2 H/\fg X.K F2 d1 xs) I
  ⟨H0,F,ψ,d1,r,e1,λa xs H1 F1 g1 f1 fh1 n1 hl rr=>⟨a,xs,F1,rfl,hl,g1,f1,fh1,n1,rr⟩⟩) λus s1 ⟨vs,H2,I2,rvs,l,xs,F2,ev,hl,g2,f2,fh2,n2,rr⟩=>?_) hs (by rfl)))
 subst ev;obtain⟨u,rfl,ru⟩:=vals1 rvs;cases ru;obtain⟨its,rv,pl,hz⟩:=I2.list hl;have ll:l<s1.heap.objs.size:=by obtain⟨o,n,e,_⟩:=pl;exact ju e
 refine call_reversed_list pl.isList ?_;refine vD ?_;have I3:eS X ω σ H2 { s1 with heap:=s1.heap.push (revObj l ((its.toArray.size:Int)-1)),toks:=s1.toks }:=I2.kept λb o e=>jg _ e;have hit:(s1.heap.push (revObj l ((its.toArray.size:Int)-1))).IsRevIter s1.heap.objs.size l ((its.toArray.size:Int)-1):=⟨_,jD _ rfl,rfl,rfl⟩;have hl3:(s1.heap.push (revObj l ((its.toArray.size:Int)-1))).IsList l its.toArray:=by obtain⟨o,n,e,c,_,d⟩:=pl;exact⟨o,jg _ e,c,n,d⟩
 have W:=Walks.listRev (prog:=X.prog) (w:=X.w) (A:=X.A.in1.in1) (show X.A.in1.in1.handled=Gb from I2.ok.hd hc) s1.heap.objs.size l (jG ll) its.toArray;refine XX W (λi s2 z=>z.2.1.typeIs) (λs2 Q2 E2 z1 z2=>QT z1 z2) ⟨jX _,(by rw[show(its.toArray.size:Int)-1-((0:Nat):Int)=(its.toArray.size:Int)-1 by omega];exact hit),hl3⟩ ?_ (by simp) ?_ λh' tk acc c k na it=>?_
 .rw[qZ];simp only[jx,k9,or_false,not_or];exact⟨Nat.succ_ne_self _,vC (uY ll)⟩
 .rw[jn,<- rv.length];exact hz
 .have sz:acc.size=its.length:=by rw[it.1,jn]
  have vr:fw xs.reverse acc.toList:=by
   refine Bc _ _ (by have a:=rv.length;have b:=jQ (xs:=acc);rw[vd];omega) λi x u hx hu=>?_;have hu':=it.2 i u (by rw[<- kZ];exact hu);have li:i<xs.length:=by have:=(ji.mp hx).1;rw[vd] at this;exact this
   rw[qR li] at hx;obtain⟨u',e1,e2⟩:=rv.get hx;have e3:its[its.length-1-i]?=Ga u:=by rw[jn,qS] at hu';exact hu'
   rw[<- rv.length,e1] at e3;cases e3;exact e2
  have hS:s1.heap.objs.size<(s1.heap.push (revObj l ((its.toArray.size:Int)-1))).objs.size:=by rw[qZ];exact vP _
  have f3:H2 (s1.heap.push (revObj l ((its.toArray.size:Int)-1))).objs.size=Gb:=I3.fresh;have I4:eS X ω σ (upd H2 (s1.heap.push (revObj l ((its.toArray.size:Int)-1))).objs.size (.lst xs.reverse)) { s1 with heap:=h',toks:=tk }:=by
   refine eS.laid (X:=X) (s:=s1) (t':=tk) I2 (λb o e=>k b o ?_ (jg _ e)) (uN hS) ?_
   .intro z;cases jp.mp z;exact absurd (ju e) (ko _)
   .refine⟨by rw[vd];exact hz,acc.toList,c,vr,?_⟩;rw[uD];exact na
  have s2:aG H2 (upd H2 (s1.heap.push (revObj l ((its.toArray.size:Int)-1))).objs.size (.lst xs.reverse)):=aG.new f3;exact⟨.ref _,_,I4,rfl,q _ xs.reverse _ F2 (g2.trans s2) f2 (fh2.trans s2) n2 (g2.free f3) (fh2.free f3) eZ rr.reverse⟩
end
theorem Sz {X:Cx}{pos:Pos}{x:Str}{n:Int}(hm:∃ t,X.mg x=Ga (.int n t))(hg:Gl X x:=by rfl)(hd:(x==("__debug__":Str))=false:=by decide):PV X (.Name x pos) (λ_=>Ga (.int n)):=by
 obtain⟨t,h⟩:=hm;exact Yu (v:=.int n) h ⟨_,rfl⟩ (λ_ _=>.int _) hg hd
theorem zqH {a:Gj}{ks:List D}{as:List Gj}{ep:Nat}:∀ h1 h2:Heap,lW a ks as ep h1->(∀ o,h1.get? a=Ga o->h2.get? a=Ga o)->lW a ks as ep h2:=by
 rintro h1 h2 ⟨o,es,ho,r⟩ k;exact⟨o,es,k _ ho,r⟩
theorem Mg {P:Program}{w:World}{H:Hp}{h:Heap}{a:Gj}{ks:List D}{as:List Gj}{ep:Nat}(p:lW a ks as ep h):hZ P w H h a (.ext (lW a ks as ep)):=by
 obtain⟨o,es,ho,r⟩:=id p;exact⟨p,⟨o,ho⟩,zqH⟩
theorem Pj {P:Program}{w:World}{H:Hp}{h:Heap}{a:Gj}{ks:List D}{as:List Gj}{ep:Nat}(ok:HOk P w H h)(e:H a=Ga (.ext (lW a ks as ep))):lW a ks as ep h:=(show hZ P w H h a (.ext _) from ok a _ e).1
theorem RL:oq []:=⟨λ_ h=>(by cases h),λ_ h=>(by cases h),j7,jX _⟩
def lh (ks:List D)(as:List Gj):List (D×Gj×Gg):=(ks.zip as).map λp=>(p.1,p.2,uM true)
theorem Mx {P:Program}{w:World}(ks:List D)(as:List Gj):pE ks as=(lh ks as).map (entryOfKey (oB P w)):=by
 unfold pE lh;rw[jT];rfl
theorem Ay:∀ {ks:List D} {as:List Gj},ks.length=as.length->(lh ks as).map (·.1)=ks
 | [],[],_=>rfl
 | [],_::_,h=>by cases h
 | _::_,[],h=>by cases h
 | k::ks,a::as,h=>congrArg (k::·) (Ay (ks:=ks) (as:=as) (qG h))
theorem LG:∀ {ks:List D} {as:List Gj} (k:D) (b:Gj),ks.length=as.length->lh ks as++[(k,b,uM true)]=lh (ks++[k]) (as++[b])
 | [],[],k,b,_=>rfl
 | [],_::_,_,_,h=>by cases h
 | _::_,[],_,_,h=>by cases h
 | j::ks,a::as,k,b,h=>congrArg ((j,a,uM true)::·) (LG (ks:=ks) (as:=as) k b (qG h))
theorem Ll:∀ {ks:List D} {as:List Gj} (k:D),(lh ks as).map (putAt k (.bool true))=lh ks as
 | [],[],k=>rfl
 | [],_::_,_=>rfl
 | _::_,[],_=>rfl
 | j::ks,a::as,k=>by
  show putAt k (.bool true) (j,a,uM true)::(lh ks as).map (putAt k (.bool true))=(j,a,uM true)::lh ks as;rw[Ll (ks:=ks) (as:=as) k];refine congrArg (·::lh ks as) ?_;unfold putAt;split<;>rfl
theorem Od:∀ {ks:List D} {as:List Gj} {x:D×Gj×Gg},x∈lh ks as->∃ i:Nat,ks[i]?=Ga x.1/\as[i]?=Ga x.2.1
 | [],[],x,h=>by cases h
 | [],_::_,x,h=>by cases h
 | _::_,[],x,h=>by cases h
 | k::ks,a::as,x,h=>by
  rcases jx.mp (show x∈(k,a,uM true)::lh ks as from h) with rfl|h
  .exact⟨0,rfl,rfl⟩
  .obtain⟨i,h1,h2⟩:=Od h;exact⟨i+1,h1,h2⟩
theorem LW {ks:List D}{as:List Gj}(hl:ks.length=as.length)(k:D):(atKey (lh ks as) k).isSome=decide (k∈ks):=by
 unfold atKey;rw[Jv];rw[jV,List.find?_isSome,decide_eq_true_eq];constructor
 .rintro⟨x,hx,e⟩;have:x.1=k:=of_decide_eq_true e;rw[<- this,<- Ay hl];exact jq.mpr ⟨x,hx,rfl⟩
 .intro h;rw[<- Ay hl] at h;obtain⟨x,hx,e⟩:=jq.mp h;exact⟨x,hx,Gc e⟩
noncomputable def mS (ks:List D)(k:D):List D:=if k∈ks then ks else ks++[k]
section
variable {X:Cx}{ω:List (Gj×Obj)}{σ:St}{F H:Hp}{s:Gh}{a:Gj}{ks:List D}{as:List Gj}{ep:Nat}
theorem Pk (q:fg X.K F ks (as.map V.ref)):ks.length=as.length:=by have:=q.length;rw[jd] at this;exact this
theorem Qf (I:eS X ω σ H s)(g:aG F H)(e:H a=Ga (.ext (lW a ks as ep)))(ok:oq ks)(q:fg X.K F ks (as.map V.ref)):s.heap.DictOfH (oB X.prog X.w) a (lh ks as):=by
 obtain⟨o,es,ho,hc,hd,he⟩:=Pj I.hok e;refine⟨o,es,ep,ho,hc,hd,he.trans (Mx ks as),λx hx=>?_,by rw[Ay (Pk q)];exact ok.nd⟩;obtain⟨i,h1,h2⟩:=Od hx;obtain⟨v,e1,e2⟩:=q.get h1;rw[jw,h2] at e1;cases e1;exact⟨ok.key _ (jM h1),fP.reads I g e2 (AM (ok.key _ (jM h1))) rfl⟩
end
section
variable {X:Cx}{pos:Pos}
theorem Xr:PE X (.Dict [] [] pos) (λσ H Q=>∀ p,H p=Gb->(p==sysModules)=false->Q (.ref p) (upd H p (.ext (lW p [] [] 0)))):=λω s σ H Q I h =>
 wpAny_Dict_empty ⟨.ref s.heap.objs.size,_,I.laid (a:=s.heap.objs.size) (o:=.ext (lW s.heap.objs.size [] [] 0)) (t':=s.toks) (λ_ _ q=>jg _ q) (jr _) (Mg ⟨_,#[],jD _ rfl,⟨rfl,rfl,rfl⟩,rfl,rfl⟩),rfl,
  h _ (I.hok.fresh (jr _)) (beq_eq_false_iff_ne.mpr (kT (jG I.big)))⟩
abbrev Gp (i:Nat):FS:=λψ=>Ga (.nx (ψ.set i (.dic [])))
theorem Yz (i:Nat){x:Str}{p pos':Pos}(hN:X.N.Nodup)(hi:X.N[i]?=Ga x:=by rfl)(hx:oZ X.env.scope x:=by first|exact kw rfl|exact jZ rfl)
  (hs:swapsWith (.Dict [] [] p) (Ga (.Name x pos')) pos.line X.env=pure false:=by rfl) (hf:X.fn x=true\/X.env.scope.names.lookup x=Ga .local:=by first|exact .inl rfl|exact .inr rfl) :
  lG X (.Assign [.Name x pos'] (.Dict [] [] p) pos) (Gp i):=by
 intro ω s σ H D I hw;refine pj hN hi hx Xr hs hf ω s σ H D I ?_;obtain⟨H0,F,ψ,o,r,e,p⟩:=hw;cases e;have hl:i<σ.length:=by rw[I.len];exact(ji.mp hi).1
 intro a ha sm;have g:aG H (upd H a (.ext (lW a [] [] 0))):=aG.new ha;exact p _ _ F (.refl _) (.refl _ _) ((r.later g).putG hl ⟨a,[],0,rfl,eZ,r.fh.free ha,r.h0.free ha,.nil,sm,RL⟩ λj s o _ ej=>r.ne_free ha j s o ej)
def Kt (K:ja):zP:=λo i v H Q=>∃ a ks as ep k b F,o=.ref a/\i=.ref b/\v=.bl true/\H a=Ga (.ext (lW a ks as ep))/\oq ks/\aG F H/\fg K F ks (as.map V.ref)/\fP K F k (.ref b)/\fA k 8=true /\
 ∀ as' ep',(if k∈ks then as'=as else as'=as++[b])->Q (upd H a (.ext (lW a (mS ks k) as' ep')))
theorem Zk (hu:X.A.units+100<cLine):BH X (Kt X.K):=by
 intro ω s σ H o i v ov iv u Q I ro ri rv h;obtain⟨a,ks,as,ep,k,b,F,rfl,rfl,rfl,ha,ok,g,q,rk,kk,hQ⟩:=h;cases ro;cases ri;cases rv;have hD:=Qf I g ha ok q;have hl:=Pk q;obtain⟨bs,rd⟩:=fP.reads I g rk (AM kk) (u:=.ref b) rfl;refine wpAny_setItem_heap (knd:=oB X.prog X.w) (show X.A.units+1+20<cLine by omega) ⟨kk,_,rd⟩ hD (λh' hm hs=>?_) ?_
 .obtain⟨o',es',ep',ho,hc,hd,he,_,_⟩:=id hm;have fin:∀ as',(if k∈ks then as'=as else as'=as++[b])->storedH (lh ks as) k b (.bool true)=lh (mS ks k) as'->∃ H',eS X ω σ H' { s with heap:=h',toks:=s.toks+oK k }/\Q H':=λas' c e=>by
   refine⟨_,wk I (by rw[ha];trivial) hs ⟨o',ho⟩ (Mg ⟨o',es',ho,hc,hd,?_⟩),hQ as' ep' c⟩;rw[he,e,<- Mx]
  by_cases hm2:k∈ks
  .refine fin as (by rw[Ge hm2]) ?_;have:(atKey (lh ks as) k).isSome=true:=by rw[LW hl,Gc hm2]
   unfold storedH mS;rw[Ge this,Ge hm2,Ll]
  .refine fin (as++[b]) (by rw[Gf hm2]) ?_;have:¬(atKey (lh ks as) k).isSome=true:=by rw[LW hl,Gd hm2];exact jv
   unfold storedH mS;rw[Gf this,Gf hm2,LG k b hl]
 .show(lh ks as).length<=sizeLine;have:(lh ks as).length=ks.length:=by rw[<- jd (f:=λx:D×Gj×Gg=>x.1),Ay hl]
  rw[this,sizeLine_eq];exact j6 ok.len (by decide)
def mP:D->Bool
 | .tuple _=>true
 | _=>false
theorem Lg {d:D}(h:mP d=true):∃ xs,d=.tuple xs:=by cases d<;>first|exact⟨_,rfl⟩|cases h
noncomputable def ym (i:Nat)(f:FV):FS:=λψ=>(f ψ).bind λk=>match ψ[i]? with
 | some (.dic ks)=>if (fA k 8&&mP k)=true/\ks.length<1000000 then Ga (.nx (ψ.set i (.dic (mS ks k)))) else Gb
 | _=>Gb
theorem Ts {ks:List D}{k:D}(ok:oq ks)(hk:fA k 8=true)(ht:∃ xs,k=.tuple xs)(hl:ks.length<1000000):oq (mS ks k):=by
 unfold mS;split
 .exact ok
 .rename_i hn;refine⟨λx hx=>?_,λx hx=>?_,?_,by rw[jC];exact hl⟩
  .rcases kc.mp hx with z|z
   .exact ok.key x z
   .rw[jp.mp z];exact hk
  .rcases kc.mp hx with z|z
   .exact ok.tup x z
   .rw[jp.mp z];exact ht
  .rw[uE];refine⟨ok.nd,jJ.mpr ⟨by simp,j7⟩,λx hx y hy=>?_⟩;rw[jp.mp hy];exact λz=>hn (z▸hx)
theorem UW (i:Nat){x:Str}{ke:Expr}{f:FV}{p p2 pt:Pos}{jt}(hu:X.A.units+100<cLine)(hk:PV X ke f)(hN:X.N[i]?=Ga x:=by rfl)(hv:mq X.env.scope x:=by first|exact kw rfl|exact jZ (kw rfl)|exact jZ (jZ rfl))
  (hd:(x==("__debug__":Str))=false:=by decide) (hcd:(x==("__classdict__":Str))=false:=by decide)
  (hs:swapsWithSole [.Subscript (.Name x p) ke p2] (.Constant (.bool true) jt pt) pos.line X.env=pure false:=by rfl) (hw:swappedStores [.Subscript (.Name x p) ke p2] (.Constant (.bool true) jt pt) X.env=pure Gb:=by rfl)
  (h1:(assignEach [.Subscript (.Name x p) ke p2] X.env).map (·.2)=[assign (.Subscript (.Name x p) ke p2) X.env]:=by rfl)
  (ha:∀ v,assign (.Subscript (.Name x p) ke p2) X.env v=(do
   let ov <- holding [v] (eval (.Name x p) X.env)
   let iv <- holding [v,ov] (eval ke X.env)
   standAt p2
   holding [v,ov,iv] (setItem ov iv v)
   release [v,ov,iv] []):=by intro _;rfl) :
  lG X (.Assign [.Subscript (.Name x p) ke p2] (.Constant (.bool true) jt pt) pos) (ym i f):=by
 refine oF (Br (Ci (pos:=pt)) (Bf (iJ (pos:=p) hN hv hd hcd) hk (Zk hu) ha) hs hw h1) λE σ H=>?_;rintro⟨H0,F,ψ,o,r,e,p⟩;obtain⟨k,e1,e2⟩:=aj e;clear e;split at e2;rotate_left
 .cases e2
 rename_i ks z;split at e2;rotate_left
 .cases e2
 rename_i c;cases e2;obtain⟨c1,c2⟩:=c;rw[jo] at c1;obtain⟨xs,rfl⟩:=Lg c1.2;obtain⟨u,x3,a,as,ep,x4,ha1,fa,h0a,rr,sm,ok⟩:=r.sl i _ z;subst x4;refine⟨.ref a,x3,H0,F,ψ,.tuple xs,r,e1,λv H1 F1 g1 f1 fh1 n1 rv=>?_⟩;have r1:=r.grow g1 f1 fh1 n1;obtain⟨u,x5,a',as',ep',x6,ha2,fa2,h0a2,rr2,sm2,ok2⟩:=r1.sl i _ z;subst x6;rw[x3] at x5;cases x5;cases rv with
 | @tup b vs _ hb rb =>
  refine⟨a,ks,as',ep',.tuple xs,b,F1,rfl,rfl,rfl,ha2,ok2,fh1,rr2,.tup hb rb,c1.1,λas2 ep2 hc=>?_⟩;refine p σ _ F1 f1 (n1.dn r.h0) (r1.chgG z rfl x3 ⟨a,as2,ep2,rfl,eZ,fa2,h0a2,?_,sm2,Ts ok2 c1.1 ⟨_,rfl⟩ c2⟩);unfold mS;split at hc
  .rename_i hm;rw[Ge hm,hc];exact rr2
  .rename_i hm;rw[Gf hm,hc,kJ];exact rr2.append (.cons (.tup hb rb) .nil)
def GJ:List (D×D)->Bool
 | (.none,.none)::_=>true
 | _=>false
theorem Wj (ks:List D):GJ (ks.map λk=>(k,j3 true))=false:=by
 cases ks with
 | nil=>rfl
 | cons k r=>cases k<;>rfl
noncomputable def abt (k:D):D->Option D
 | .dict kvs=>if (fA k 8&&mP k&&!GJ kvs)=true then Ga (.bool (decide (k∈kvs.map (·.1)))) else Gb
 | _=>Gb
def rO:D->Option (List D)
 | .dict kvs=>if GJ kvs=true then Gb else Ga (kvs.map (·.1))
 | _=>Gb
theorem OV (ks:List D):rO (.dict (ks.map λk=>(k,j3 true)))=Ga ((ks.map λk=>(k,j3 true)).map (·.1)):=by
 unfold rO;dsimp only;rw[Wj,Gf jv]
theorem Mh:∀ {ks:List D} {as:List Gj} {i:Nat} {b:Gj},ks.length=as.length->as[i]?=Ga b->∃ e,(pE ks as)[i]?=Ga e/\e.key=.ref b
 | [],[],i,b,_,h=>by simp at h
 | [],_::_,_,_,h,_=>by cases h
 | _::_,[],_,_,h,_=>by cases h
 | k::ks,a::as,0,b,_,h=>by cases h;exact⟨_,rfl,rfl⟩
 | k::ks,a::as,i+1,b,hl,h=>Mh (ks:=ks) (as:=as) (i:=i) (b:=b) (qG hl) h
theorem Yl {ks:List D}{as:List Gj}(hl:ks.length=as.length):(pE ks as).length=as.length:=by
 unfold pE;rw[jd,List.length_zip,hl,Jx]
theorem Zc {h:Heap}{d:Gj}{ks:List D}{as:List Gj}{ep:Nat}(p:lW d ks as ep h):mU h d (pE ks as).toArray ep:=by
 obtain⟨o,es,ho,hc,hd,he⟩:=p;refine⟨o,ho,hc,?_⟩;rw[<- he,uD];exact hd
end
section
variable {prog:Program}{w:World}{A:Around}{E:Gg->Gh->Prop}{s:Gh}
theorem WH:typeLookup (.type "dict") "__len__"=pure (Ga (.builtin "dict.__len__")):=by rw[typeLookup_type,builtinLookup_eq_fast];kernel_rfl
theorem Rq {x:Gj}{Q:Bool->Gh->Prop}(hT:s.TypeIs (.ref x) "dict")(hQ:Q false s):wpAny (model prog w) A (kS (.ref x)) Q E s:=by
 unfold kS;refine eN (wpAny_specialOf hT WH ?_);generalize hid:("dict.__len__":String)=id0
 wp_delta
 rw[show splitId id0=Ga ("dict","__len__") from by subst hid;decide +kernel];subst hid;refine eN (wpAny_isInstance (T:="dict") (b:=true) hT (by rw[isSubtype_type];kernel_rfl) ?_);refine wpAny_ite_split (λz=>absurd z (by decide)) λ_=>?_;refine wpAny_ite_split (λ_=>?_) λz=>absurd (by nofun) z;exact eN (wpAny_typeOf hT (eO hQ))
theorem UN {d:Gj}{es:Array DictEntry}{ep:Nat}{Q:Gg->Gh->Prop}(hh:A.handled=Gb)(sm:(d==sysModules)=false)(hd:mU s.heap d es ep)(hn:es.size<=sizeLine)
  (hQ:∀ h' tk acc c,(∀ b o,s.heap.get? b=Ga o->h'.get? b=Ga o)->h'.get? s.heap.objs.size=Ga { cls:=.type "list",data:=.seq acc c }->ItemsOf (λi v=>∃ e,es[i]?=Ga e/\v=e.key) acc es.size->Q (.ref s.heap.objs.size) { s with heap:=h',toks:=tk }) :
  wpAny (model prog w) A (call (.type "list") [.ref d]) Q E s:=by
 have hlt:d<s.heap.objs.size:=by obtain⟨o,e,_⟩:=hd;exact ju e
 refine callType_codes (Q₁:=λob s1=>ob=kD s.heap.objs.size/\s1={ s with heap:=s.heap.push { cls:=.type "list",data:=.seq #[] } }) F.called_list (F.typeCall_list_1 _) F.entry_list_init (code_list_new _ ⟨rfl,rfl⟩) λob s1 z=>?_;obtain⟨rfl,rfl⟩:=z;have n0:(s.heap.push { cls:=.type "list",data:=.seq #[] }).get? s.heap.objs.size=Ga { cls:=.type "list",data:=.seq #[] }:=jD _ rfl;refine⟨⟨_,n0,rfl⟩,F.args_list_init_2 _ _,?_⟩;show wpAny _ _ (uQ (.ref s.heap.objs.size) >>= λold=>qy (.ref s.heap.objs.size) (λ_=>#[]) >>= λ_=>letGo old.toList.reverse >>= λ_=>kb (.ref s.heap.objs.size) (.ref d) .none) _ _ _;refine eN ?_;unfold uQ;refine eN (wpAny_seqItems n0 rfl (eO ?_));show wpAny _ _ (updateSeq s.heap.objs.size (λ_=>#[]) >>= λ_=>letGo (#[]:Array Gg).toList.reverse >>= λ_=>kb (.ref s.heap.objs.size) (.ref d) .none) _ _ _;refine eN (wpAny_updateSeq n0 rfl ?_);have n1:=kF (jS (λ_=>(#[]:Array Gg))) n0 rfl;have kp:∀ b o,s.heap.get? b=Ga o->((s.heap.push { cls:=.type "list",data:=.seq #[] }).update s.heap.objs.size (jS (λ_=>(#[]:Array Gg)))).get? b=Ga o:=λb o e =>
  (kK _ _ (kT (jG (ju e)))).trans (jg _ e)
 generalize (s.heap.push { cls:=.type "list",data:=.seq #[] }).update s.heap.objs.size (jS (λ_=>(#[]:Array Gg)))=h1 at n1 kp;have hd1:mU h1 d es ep:=hd.kept λo e=>kp d o e;refine eN (wpAny_letGo ?_);unfold kb;refine eN (wpAny_typeOf (T:="dict") (mU.ty (s:={ s with heap:=h1 }) hd1) ?_);rw[show uH (.ref s.heap.objs.size) (.ref d)=false from by simp[uH,vC hlt]];simp only[show(uZ "dict"==uZ "list")=false by decide,show(uZ "dict"==uZ "tuple")=false by decide,vU,kA,if_false];refine eN (Yg (s:={ s with heap:=h1 }) sm hd1 ?_);have kp2:∀ b o,h1.get? b=Ga o->(h1.push { cls:=.type "dict_keyiterator",data:=.fields #[.ref d,.int 0 0,.int es.size 0,.int ep 0] }).get? b=Ga o:=λb o e=>jg _ e;have it0:(h1.push { cls:=.type "dict_keyiterator",data:=.fields #[.ref d,.int 0 0,.int es.size 0,.int ep 0] }).IsKeyIter h1.objs.size d 0 es.size ep:=⟨_,jD _ rfl,rfl,rfl⟩;have dI:d≠h1.objs.size:=by obtain⟨o,e,_⟩:=hd1;exact jG (ju e)
 have sI:s.heap.objs.size≠h1.objs.size:=jG (ju n1);have hd2:=hd1.kept λo e=>kp2 d o e;have n2:=kp2 _ _ n1;generalize h1.push { cls:=.type "dict_keyiterator",data:=.fields #[.ref d,.int 0 0,.int es.size 0,.int ep 0] }=h2 at kp2 it0 hd2 n2;refine eN (wpAny_holding (Rq (mU.ty (s:={ s with heap:=h2 }) hd2) ?_));refine wpAny_ite_split (λ_=>?_) λz=>absurd (by decide) z;refine eN (wpAny_rule (eN ?_));show wpAny _ _ (updateSeq s.heap.objs.size (·.push .none) >>= λ_=>updateSeq s.heap.objs.size (·.pop)) _ _ _;refine eN (wpAny_updateSeq n2 rfl ?_);have n3:=kF (jS (·.push kf)) n2 rfl;refine wpAny_updateSeq (hz:=by seq_fits) n3 rfl ?_;have n4:=kF (jS (·.pop)) n3 rfl;have kp3:∀ b o,b≠s.heap.objs.size->h2.get? b=Ga o->((h2.update s.heap.objs.size (jS (·.push kf))).update s.heap.objs.size (jS (·.pop))).get? b=Ga o :=
  λb o hb e=>(kK _ _ (kT hb)).trans ((kK _ _ (kT hb)).trans e)
 have it4:=it0.at λo e=>kp3 _ o (kT sI) e;have hd4:=hd2.kept λo e=>kp3 _ o (jG hlt) e;generalize (h2.update s.heap.objs.size (jS (·.push kf))).update s.heap.objs.size (jS (·.pop))=h4 at n4 kp3 it4 hd4;have W:=(zpK (prog:=prog) (w:=w) (A:=A.in1.in1) (show A.in1.in1.handled=Gb from hh) h1.objs.size d dI es ep).toS;refine eO ⟨plainId_quiet F.plain_extend_loop _,codeAny_extend_loopS W hn s.heap.objs.size ?_ .none es.size 0 { s with heap:=h4 } #[] _ rfl (jX _) ⟨it4,hd4⟩ n4 (ItemsOf.nil _) λs' acc c m nn it=>?_⟩
 .simp only[jx,k9,or_false,not_or];exact⟨sI,vC hlt⟩
 .refine⟨rfl,?_⟩;rw[Moved.eq_with m];refine hQ s'.heap s'.toks acc c (λb o e=>m.heap b o (λz=>?_) (kp3 _ _ (jG (ju e)) (kp2 _ _ (kp b o e)))) nn it;simp only[jx,k9,or_false] at z;rcases z with z|z
  .exact absurd (ju e) (by rw[z];exact ko _)
  .exact absurd (ju (kp b o e)) (by rw[z];exact ko _)
end
section
variable {X:Cx}{pos:Pos}
theorem Wq (hc:X.calm=true):hJ X (.type "list") (λxs H Q=>∃ (d:Gj) (ks:List D) (as:List Gj) (ep:Nat),xs=[.ref d]/\(d==sysModules)=false/\H d=Ga (.ext (lW d ks as ep))/\ks.length=as.length/\as.length<=1000000/\∀ l,H l=Gb->Q (.ref l) (upd H l (.lst (as.map V.ref)))):=by
 intro ω s σ H xs us Q I r h;obtain⟨d,ks,as,ep,rfl,sm,hd,hl,hz,q⟩:=h;obtain⟨u,rfl,ru⟩:=vals1 r;cases ru;have sz:(pE ks as).toArray.size=as.length:=by rw[jn,Yl hl]
 have hz':as.length<=sizeLine:=by rw[sizeLine_eq];exact j6 hz (by decide)
 refine UN (es:=(pE ks as).toArray) (ep:=ep) (I.ok.hd hc) sm (Zc (Pj I.hok hd)) (by rw[sz];exact hz') λh' tk acc c k na it=>?_;rw[sz] at it;have vr:fw (as.map V.ref) acc.toList:=by
  refine Bc _ _ (by have a1:=it.1;have a2:=jQ (xs:=acc);rw[jd];omega) λi x u hx hu=>?_;obtain⟨e,e1,e2⟩:=it.2 i u (by rw[<- kZ];exact hu);rw[jw] at hx;obtain⟨b,hb,rfl⟩:=ur.mp hx;obtain⟨e',e3,e4⟩:=Mh hl hb;rw[qS,e3] at e1;cases e1;rw[e2,e4];rfl
 refine⟨.ref _,_,eS.laid (X:=X) (s:=s) (a:=s.heap.objs.size) (o:=.lst (as.map V.ref)) (t':=tk) I k (jr _) ⟨by rw[jd];exact hz',acc.toList,c,vr,?_⟩,rfl,q _ I.fresh⟩;rw[uD];exact na
theorem YT {e:Expr}{f:FV}{p:Pos}(hc:X.calm=true)(hg:Gl X "list")(hm:X.mg "list"=Gb)(ha:PV X e f)(hs:starEach [e] X.env=[(false,eval e X.env)]:=by rfl):PO X (.Call (.Name "list" p) [e] [] pos) (iw rO f):=by
 refine gX (AX (Wq hc) hg hm boot_list ha (hs:=hs)) λσ H Q=>?_;rintro⟨H0,F,ψ,ds,r,e,q⟩;obtain⟨d',e1,e⟩:=aj e;refine⟨H0,F,ψ,_,r,e1,λv H1 F1 g1 f1 fh1 n1 rv=>?_⟩;cases rv<;>first|(cases e;done)|skip
 rename_i a ks as ep sm ha ok rr;rw[OV] at e;cases e;rw[GF] at q;have hl:ks.length=as.length:=by have:=rr.length;rw[jd] at this;exact this
 refine⟨a,ks,as,ep,rfl,sm,fh1 _ _ ha,hl,by rw[<- hl];exact ok.len,λl hl'=>?_⟩;have s2:aG H1 (upd H1 l (.lst (as.map V.ref))):=aG.new hl';exact q l _ _ F1 (g1.trans s2) f1 (fh1.trans s2) n1 (g1.free hl') (fh1.free hl') eZ rr
end
section
variable {X:Cx}{pos:Pos}
end
theorem ztC {a:Gj}{ws:List (Int×V)}{ep:Nat}:∀ h1 h2:Heap,lN a ws ep h1->(∀ o,h1.get? a=Ga o->h2.get? a=Ga o)->lN a ws ep h2:=by
 rintro h1 h2 ⟨o,es,ho,r⟩ k;exact⟨o,es,k _ ho,r⟩
theorem MD {P:Program}{w:World}{H:Hp}{h:Heap}{a:Gj}{ws:List (Int×V)}{ep:Nat}(p:lN a ws ep h):hZ P w H h a (.ext (lN a ws ep)):=by
 obtain⟨o,es,ho,r⟩:=id p;exact⟨p,⟨o,ho⟩,ztC⟩
theorem Mw {P:Program}{w:World}{H:Hp}{h:Heap}{a:Gj}{ws:List (Int×V)}{ep:Nat}(ok:HOk P w H h)(e:H a=Ga (.ext (lN a ws ep))):lN a ws ep h:=(show hZ P w H h a (.ext _) from ok a _ e).1
theorem mN.pairs {P:Program}{w:World}:∀ {ws:List (Int×V)} {es:List DictEntry},mN ws es->∃ vs:List (Int×Gg),KV ws vs/\Pairs (intKind P w) es vs
 | _,_,.nil=>⟨[],.nil,.nil⟩
 | _,_,.cons (k:=k) (e:=e) hk hh hv t=>by
  obtain⟨vs,h1,h2⟩:=t.pairs (P:=P) (w:=w);exact⟨(k,e.val)::vs,.cons ⟨rfl,hv⟩ h1,.cons hk rfl h2⟩
theorem mN.keys {P:Program}{w:World}:∀ {ws:List (Int×V)} {es:List DictEntry},mN ws es->∀ e∈es,∃ k,(intKind P w).is k e.key=true/\e.hash=(intKind P w).hash k
 | _,_,.nil,e,h=>by cases h
 | _,_,.cons (k:=k) hk hh hv t,e,h=>by
  rcases jx.mp h with rfl|h
  .exact⟨k,hk,hh⟩
  .exact t.keys e h
theorem OD {P:Program}{w:World}:∀ {ws:List (Int×V)} {vs:List (Int×Gg)} {es:List DictEntry},KV ws vs->Pairs (intKind P w) es vs->(∀ e∈es,∃ k,(intKind P w).is k e.key=true/\e.hash=(intKind P w).hash k)->mN ws es
 | _,_,_,.nil,.nil,_=>.nil
 | (k,v)::ws,kv::vs,e::es,.cons a t,.cons h1 h2 t2,hk=>by
  obtain⟨k',z1,z2⟩:=hk e jf;have ek:k'=kv.1:=(intKind P w).inj _ _ _ z1 h1;have e0:k=kv.1:=a.1;refine .cons ?_ ?_ ?_ (OD t t2 λe h=>hk e (jj _ h))
  .rw[e0];exact h1
  .rw[z2,ek,e0];rfl
  .rw[h2];exact a.2
theorem HU {κ:Type}:∀ {ws:List (κ×V)} {vs:List (κ×Gg)},KV ws vs->vs.map (·.1)=ws.map (·.1)
 | _,_,.nil=>rfl
 | _,_,.cons h t=>by
  rw[jB,jB,HU t];exact congrArg (·::_) h.1.symm
theorem gb.fst {K:ja}{F:Hp}:∀ {l:List (Int×D)} {m:List (Int×V)},gb K F l m->m.map (·.1)=l.map (·.1)
 | _,_,.nil=>rfl
 | _,_,.cons h t=>congrArg (_::·) t.fst
def FW (kvs:List (Int×D))(k:Int)(d:D):List (Int×D) :=
 if (kvs.any λkv=>decide (kv.1=k))=true then kvs.map (λkv=>if kv.1=k then(kv.1,d) else kv) else kvs++[(k,d)]
theorem gb.anyk {K:ja}{F:Hp}(k:Int):∀ {l:List (Int×D)} {m:List (Int×V)},gb K F l m->(m.any λkv=>decide (kv.1=k))=(l.any λkv=>decide (kv.1=k))
 | _,_,.nil=>rfl
 | _,_,.cons h t=>by rw[vV,vV,t.anyk k]
theorem gb.mapk {K:ja}{F:Hp}{k:Int}{d:D}{v:V}(q:fP K F d v):∀ {l:List (Int×D)} {m:List (Int×V)},gb K F l m->gb K F (l.map λkv=>if kv.1=k then(kv.1,d) else kv) (m.map λkv=>if kv.1=k then(kv.1,v) else kv)
 | _,_,.nil=>.nil
 | (j,e)::_,(_,u)::_,.cons h t=>by
  rw[jB,jB];by_cases c:j=k
  .rw[Ge c,Ge c];exact .cons q (t.mapk q)
  .rw[Gf c,Gf c];exact .cons h (t.mapk q)
theorem gb.app {K:ja}{F:Hp}:∀ {l l2:List (Int×D)} {m m2:List (Int×V)},gb K F l m->gb K F l2 m2->gb K F (l++l2) (m++m2)
 | _,_,_,_,.nil,q=>q
 | _,_,_,_,.cons h t,q=>.cons h (t.app q)
theorem gb.put {K:ja}{F:Hp}{k:Int}{d:D}{v:V}{l:List (Int×D)}{m:List (Int×V)}(r:gb K F l m)(q:fP K F d v):gb K F (FW l k d) (nM m k v):=by
 unfold FW nM;rw[r.anyk k];split
 .exact r.mapk q
 .exact r.app (.cons q .nil)
section
variable {X:Cx}{ω:List (Gj×Obj)}{σ:St}{F H:Hp}{s:Gh}{a:Gj}{kvs:List (Int×D)}{ws:List (Int×V)}{ep:Nat}
theorem DV (I:eS X ω σ H s)(e:H a=Ga (.ext (lN a ws ep)))(nd:(ws.map (·.1)).Nodup):∃ vs:List (Int×Gg),KV ws vs/\s.heap.DictOf (intKind X.prog X.w) a vs:=by
 obtain⟨o,es,ho,hc,hd,he⟩:=Mw I.hok e;obtain⟨vs,h1,h2⟩:=he.pairs (P:=X.prog) (w:=X.w);exact⟨vs,h1,o,es,ep,ho,hc,hd,λe h=>he.keys e (u4.mpr h),h2,by rw[HU h1];exact nd⟩
end
theorem gb.length {K:ja}{F:Hp}:∀ {l:List (Int×D)} {m:List (Int×V)},gb K F l m->l.length=m.length
 | _,_,.nil=>rfl
 | _,_,.cons _ t=>congrArg uv t.length
theorem gb.nd {K:ja}{F:Hp}{l:List (Int×D)}{m:List (Int×V)}(r:gb K F l m)(ok:xZ l):(m.map (·.1)).Nodup:=by rw[r.fst];exact ok.nd
theorem gb.le {K:ja}{F:Hp}{l:List (Int×D)}{m:List (Int×V)}(r:gb K F l m)(ok:xZ l):m.length<=1000000:=by rw[<- r.length];exact ok.len
section
variable {X:Cx}{pos:Pos}
theorem Zp:PE X (.Dict [] [] pos) (λσ H Q=>∀ p,H p=Gb->(p==sysModules)=false->Q (.ref p) (upd H p (.ext (lN p [] 0)))):=λω s σ H Q I h =>
 wpAny_Dict_empty ⟨.ref s.heap.objs.size,_,I.laid (a:=s.heap.objs.size) (o:=.ext (lN s.heap.objs.size [] 0)) (t':=s.toks) (λ_ _ q=>jg _ q) (jr _) (MD ⟨_,#[],jD _ rfl,⟨rfl,rfl,rfl⟩,rfl,.nil⟩),rfl,
  h _ (I.hok.fresh (jr _)) (beq_eq_false_iff_ne.mpr (kT (jG I.big)))⟩
theorem mN.length:∀ {ws:List (Int×V)} {es:List DictEntry},mN ws es->es.length=ws.length
 | _,_,.nil=>rfl
 | _,_,.cons _ _ _ t=>congrArg uv t.length
def Hw (kvs:List (Int×D))(k:Int):Option D:=(kvs.find? λp=>decide (p.1=k)).map (·.2)
theorem gb.at {K:ja}{F:Hp}(k:Int):∀ {l:List (Int×D)} {m:List (Int×V)},gb K F l m->(Hw l k=Gb/\lu m k=Gb)\/∃ d v,Hw l k=Ga d/\lu m k=Ga v/\fP K F d v
 | _,_,.nil=>.inl ⟨rfl,rfl⟩
 | (j,d)::l,(_,v)::m,.cons h t=>by
  unfold Hw lu;by_cases c:j=k
  .exact .inr ⟨d,v,by rw[kB (p:=λ(p:Int×D)=>decide (p.1=k)) (Gc c)];rfl,by rw[kB (p:=λ(kv:Int×V)=>decide (kv.1=k)) (Gc c)];rfl,h⟩
  .rw[kC (p:=λ(p:Int×D)=>decide (p.1=k)) (by simpa using c),kC (p:=λ(kv:Int×V)=>decide (kv.1=k)) (by simpa using c)];exact t.at k
theorem Wd {k:Int}{u:Gg}(r:fC (.int k) u):(intKind X.prog X.w).is k u=true:=by
 obtain⟨t,rfl⟩:=r;show qT k (.int k t)=true;simp[qT]
end
section
variable {P:Program}{w:World}{K:ja}{mg:Str->Option Gg}{base:Heap}{x qual:Str}{st:Stmt}{f:Gj}{fd:Gi}{N ps:List Str}{k:Nat}{g:FS}
end
section
variable {X:Cx}{pos:Pos}
variable {k:Nat}{f:Gj}{fd:Gi}{ps:List Str}{x:Str}{p pc:Pos}{e:Expr}{es:List Expr}{g:FL}
end
section
variable {prog:Program}{w:World}{A:Around}{E:Gg->Gh->Prop}{s:Gh}
end
section
variable {X:Cx}{pos:Pos}
end
section
variable {prog:Program}{w:World}{A:Around}{R:Result->Gh->Prop}{s:Gh}
end
section
variable {X:Cx}{ω:List (Gj×Obj)}{σ:St}{H2:Hp}{s2:Gh}{elt iter tg:Expr}{x xb:Str}{px pos:Pos}{ifs:List Expr}{scope:Scope}{cl:List (Str×Gj)}{fr:List Str}{ix:List Nat}
end
abbrev Vc:FT:=DH (rL (gY 0) (rL (gY 1) zQ))
section
variable {X:Cx}{elt iter tg:Expr}{x xb:Str}{px pxb pt pos:Pos}{tk:Nat}{ifs:List Expr}{scope:Scope}{fr:List Str}{ix:List Nat}{fi:FL}{fc:FB}{fe:FV}
structure Eo (X:Cx)(scope:Scope)(tg:Expr)(x xb:Str)(fr:List Str)(ifs:List Expr)(elt:Expr)(fc:FB)(fe:FV):Prop where
 h:∀ cl C s H fp ω,tj (ib X scope cl C (x::xb::fr) s H fp ω) tg Vc /\
  Hv (ib X scope cl C (x::xb::fr) s H fp ω) ifs (wf X.K ifs fc)/\PV (ib X scope cl C (x::xb::fr) s H fp ω) elt fe
 hn:ifs=[]->fc=λ_=>Ga true
theorem Eo.tc (B:Eo X scope tg x xb fr ifs elt fc fe):∀ σ H Q,tT X.K fc σ H Q->wf X.K ifs fc σ H Q:=by
 intro σ H Q h;cases ifs with
 | nil =>
  obtain⟨H0,F,ψ,b,r,e,q⟩:=h;rw[B.hn rfl] at e;cases e;exact q H (.refl _)
 | cons c r=>exact h
end
section
variable {X:Cx}{pos:Pos}
theorem Pd {ω:List (Gj×Obj)}{σ:St}{H:Hp}{s:Gh}{a:Gj}{ws:List (Int×V)}{ep:Nat}(I:eS X ω σ H s)(e:H a=Ga (.ext (lN a ws ep)))(nd:(ws.map (·.1)).Nodup) :
  s.TypeIs (.ref a) "dict"/\∀ b,kD a=.ref b->∃ ob,s.heap.get? b=Ga ob/\ob.dict=Gb:=by
 obtain⟨vs,rel,dd⟩:=DV I e nd;refine⟨dd.typeIs,λb q=>?_⟩;cases q;obtain⟨ob,_,_,h1,h2,_⟩:=dd;exact⟨ob,h1,h2.2.1⟩
theorem WM:wC X "list.extend" (λx vs H Q=>∃ l b xs zs,x=.ref l/\vs=[.ref b]/\H l=Ga (.lst xs)/\gp X.K H b zs/\xs.length+zs.length<=1000000/\Q .non (upd H l (.lst (xs++zs)))):=by
 intro ω s σ H x vs v us Q I rx rv h;obtain⟨l,b,xs,zs,rfl,rfl,hH,hB,hz,q⟩:=h;cases rx;obtain⟨u,rfl,ru⟩:=rv.one;cases ru;obtain⟨z,its,n,r,hl,e⟩:=I.lstM hH;obtain⟨its2,r2,⟨o2,n2,e2,c2,k2,d2⟩,z2⟩:=I.list hB;have hl2:=r2.length;have hsz:its.length+its2.length<=sizeLine:=by rw[sizeLine_eq];omega
 refine wpAny_call_entry qp ⟨_,e,rfl⟩ PySem.F.entry_list_extend ?_ (PySem.F.args_list_extend_2 _ _);show wpAny _ _ (kb (.ref l) (.ref b) .none) _ _ s;unfold kb;refine eN (wpAny_typeOf (T:="list") ⟨o2,e2,c2⟩ ?_);rw[Ge (by simp)];refine eN (listItems_at e2 d2 ?_);refine eN (listItems_at e rfl ?_);rw[Gf (by
  rw[show uG (its.toArray.size+its2.toArray.size)=false from xI (by rw[jn,jn];exact hsz),uy];exact jv)]
 refine eN (listUpdate_at e rfl ?_ (by rw[jn];omega) (by rw[Array.size_append,jn,jn];omega));refine eO ?_;exact⟨_,rfl,.non,_,I.lset (t':=s.toks) (its':=its++its2) hH e (by simp) (r.append r2) (by rw[jC];omega),rfl,q⟩
def Bv (ds es:List D):Option (List D):=if ds.length+es.length<=1000000 then Ga (ds++es) else Gb
abbrev zN (i:Nat)(f:FV):FS:=λψ=>(go i ψ).bind λds=>(f ψ).bind λd=>(wQ d).bind λes=>(Bv ds es).bind λrs=>Ga (.nx (ψ.set i (.own rs)))
theorem Dh (i:Nat){x:Str}{e:Expr}{f:FV}{p p2 p3:Pos}(h:PV X e f)(hN:X.N[i]?=Ga x:=by rfl)(hv:mq X.env.scope x:=by first|exact kw rfl|exact jZ (kw rfl)|exact jZ (jZ rfl))
  (hst:starEach [e] X.env=[(false,eval e X.env)]:=by rfl) (hline:(p2.endLine==p3.line)=true:=by rfl)
  (hd:(x==("__debug__":Str))=false:=by decide) (hcd:(x==("__classdict__":Str))=false:=by decide)
  (hs:swapsWith (.Call (.Attribute (.Name x p) "extend" p2) [e] [] p3) Gb pos.line X.env=pure false:=by rfl) :
  lG X (.Expr (.Call (.Attribute (.Name x p) "extend" p2) [e] [] p3) pos) (zN i f):=by
 refine oF (rN (zD vo qp PySem.F.type_list_extend WM (iJ (pos:=p) hN hv hd hcd) (gA h iL hst) rfl (by rw[hst];rfl) hline hst rfl) hs) λE σ H=>?_;rintro⟨H0,F,ψ,o,r,e,p⟩;obtain⟨ds,e1,e⟩:=aj e;obtain⟨d,e2,e⟩:=aj e;obtain⟨es,e3,e⟩:=aj e;obtain⟨rs,e4,e⟩:=aj e;cases e;cases Mc e3;unfold Bv at e4;split at e4;rotate_left
 .cases e4
 rename_i hz;cases e4;unfold go at e1;split at e1;rotate_left
 .cases e1
 rename_i ds' z;cases e1;obtain⟨u,e3,a,xs,e4,ha,fa,h0a,rr⟩:=r.sl i _ z;subst e4;refine⟨.ref a,e3,.inl ⟨rfl,xs,gp.of ha⟩,H0,F,ψ,.list es,r,e2,λv H' F' g f1 fh n rv=>?_⟩;have r2:=r.grow g f1 fh n;obtain⟨u2,e5,a2,xs2,e6,ha2,fa2,h0a2,rr2⟩:=r2.sl i _ z;rw[e3] at e5;cases e5;cases e6;cases rv with
 | lst hb rb =>
  refine⟨a,_,xs2,_,rfl,rfl,ha2,fh.seq hb,?_,?_⟩
  .rw[<- rr2.length,<- rb.length];exact hz
  .exact p σ _ F' f1 (n.dn r.h0) (r2.chg z e3 (rr2.append rb))
end
section
variable {prog:Program}{w:World}{A:Around}{E:Gg->Gh->Prop}{s:Gh}{vs:List Gg}
end
section
variable {P:Program}{w:World}{K:ja}{mg:Str->Option Gg}{base:Heap}{f:Gj}{fd:Gi}{ps:List Str}{k:Nat}
end
section
variable {X:Cx}{pos:Pos}
theorem Cs {K:ja}{F:Hp}:∀ (ks:List Int),fg K F (ks.map jc) (ks.map V.int)
 | []=>.nil
 | k::ks=>.cons (.int k) (Cs ks)
end
section
variable {X:Cx}{pos:Pos}
variable {k:Nat}{f:Gj}{fd:Gi}{ps:List Str}{x y:Str}{p p' pc:Pos}{e:Expr}{es:List Expr}{g:FL}
end
section
variable {X:Cx}{pos:Pos}{a b:Expr}{f g:FV}
end
section
variable {X:Cx}
end
def butC (H:Hp)(cs:List Gj):Hp:=λb=>if b∈cs then Gb else H b
theorem xa {H:Hp}{cs:List Gj}{b:Gj}(h:b∈cs):butC H cs b=Gb:=Ge h
theorem lw {H:Hp}{cs:List Gj}{b:Gj}(h:b∉cs):butC H cs b=H b:=Gf h
theorem Di {H:Hp}{cs:List Gj}{b:Gj}{o:HO}(h:butC H cs b=Ga o):b∉cs/\H b=Ga o:=by
 by_cases hb:b∈cs
 .rw[xa hb] at h;cases h
 .rw[lw hb] at h;exact⟨hb,h⟩
def putC (G H:Hp)(cs:List Gj):Hp:=λb=>if b∈cs then G b else H b
theorem Ai {G H:Hp}{cs:List Gj}{b:Gj}(h:b∈cs):putC G H cs b=G b:=Ge h
theorem rR {G H:Hp}{cs:List Gj}{b:Gj}(h:b∉cs):putC G H cs b=H b:=Gf h
def IY (H:Hp)(c:Gj):Prop:=∃ o v,H c=Ga (.frz o (.own c))/\o.data=.cell v
def ip (H:Hp)(cs:List Gj):Prop:=∀ c∈cs,IY H c
theorem Ip {H:Hp}{cs:List Gj}(m:ip H cs){l:List Gg}(g:fV H l):fV (butC H cs) l :=
 ⟨g.1,λpos cv e=>by
  obtain⟨c,o,vs,v,e1,e2,e3,e4⟩:=g.2 pos cv e;refine⟨c,o,vs,v,e1,?_,e3,e4⟩;rw[lw λz=>?_]
  .exact e2
  .obtain⟨o',v',h1,h2⟩:=m c z;rw[e2] at h1;cases h1;rw[e3] at h2;cases h2⟩
theorem Av {G H:Hp}{cs:List Gj}(n:∀ c∈cs,H c=Gb):∀ c o,H c=Ga o->putC G H cs c=Ga o:=λc o h=>by
 rw[rR λz=>by rw[n c z] at h;cases h];exact h
theorem aG.withC {H H':Hp}{cs:List Gj}(m:ip H cs)(s:aG (butC H cs) H')(n:∀ c∈cs,H' c=Gb):aG H (putC H H' cs):=λb o h=>by
 by_cases hb:b∈cs
 .rw[Ai hb];obtain⟨o',v',h1,_⟩:=m b hb;rw[h1] at h;cases h;exact h1
 .rw[rR hb];exact((s b o (by rw[lw hb];exact h)).from λ_ z=>Ip m z).to λ_ z=>z.sub (Av n)
theorem aG.withC2 {F' H' F H:Hp}{cs:List Gj}(mF:ip F cs)(e:∀ c∈cs,F c=H c)(s:aG F' H')(nF:∀ c∈cs,F' c=Gb)(n:∀ c∈cs,H' c=Gb):aG (putC F F' cs) (putC H H' cs):=λb o h=>by
 by_cases hb:b∈cs
 .rw[Ai hb] at h ⊢;obtain⟨o',v',h1,_⟩:=mF b hb;rw[h1] at h;cases h;rw[<- e b hb];exact h1
 .rw[rR hb] at h ⊢;refine((s b o h).from λl z=>?_).to λ_ z=>z.sub (Av n);refine⟨z.1,λpos cv e=>?_⟩;obtain⟨c,x,vs,v,e1,e2,e3,e4⟩:=z.2 pos cv e;refine⟨c,x,vs,v,e1,?_,e3,e4⟩;rw[rR λq=>?_] at e2
  .exact e2
  .rw[Ai q] at e2;obtain⟨o',v',h1,h2⟩:=mF c q;rw[e2] at h1;cases h1;rw[e3] at h2;cases h2
mutual
theorem fP.butC {K:ja}{F:Hp}{cs:List Gj}(m:ip F cs):∀ {d:D} {v:V},fP K F d v->fP K (T3.butC F cs) d v
 | _,_,.non=>.non
 | _,_,.bl b=>.bl b
 | _,_,.int i=>.int i
 | _,_,.str x=>.str x
 | _,_,.tup h r=>.tup (by
   rcases h with (h|⟨o,h⟩)|h
   .exact .inl (.inl (by rw[lw λz=>by obtain⟨o',v',h1,_⟩:=m _ z;rw[h] at h1;cases h1];exact h))
   .exact .inl (.inr ⟨o,by rw[lw λz=>by obtain⟨o',v',h1,_⟩:=m _ z;rw[h] at h1;cases h1];exact h⟩)
   .exact .inr h) (fg.butC m r)
 | _,_,.lst h r=>.lst (by
   rcases h with (h|⟨o,h⟩)|h
   .exact .inl (.inl (by rw[lw λz=>by obtain⟨o',v',h1,_⟩:=m _ z;rw[h] at h1;cases h1];exact h))
   .exact .inl (.inr ⟨o,by rw[lw λz=>by obtain⟨o',v',h1,_⟩:=m _ z;rw[h] at h1;cases h1];exact h⟩)
   .exact .inr h) (fg.butC m r)
 | _,_,.dic hs h ok r=>.dic hs (by rw[lw λz=>by obtain⟨o',v',h1,_⟩:=m _ z;rw[h] at h1;cases h1];exact h) ok (fg.butC m r)
 | _,_,.dci hs h ok r=>.dci hs (by rw[lw λz=>by obtain⟨o',v',h1,_⟩:=m _ z;rw[h] at h1;cases h1];exact h) ok (gb.butC m r)
theorem fg.butC {K:ja}{F:Hp}{cs:List Gj}(m:ip F cs):∀ {ds:List D} {vs:List V},fg K F ds vs->fg K (T3.butC F cs) ds vs
 | _,_,.nil=>.nil
 | _,_,.cons h t=>.cons (fP.butC m h) (fg.butC m t)
theorem gb.butC {K:ja}{F:Hp}{cs:List Gj}(m:ip F cs):∀ {l:List (Int×D)} {w:List (Int×V)},gb K F l w->gb K (T3.butC F cs) l w
 | _,_,.nil=>.nil
 | _,_,.cons h t=>.cons (fP.butC m h) (gb.butC m t)
end
theorem HOk.butC {P:Program}{w:World}{H:Hp}{h:Heap}{cs:List Gj}(m:ip H cs)(x:HOk P w H h):HOk P w (T3.butC H cs) h:=λa o e=>by
 obtain⟨hb,e⟩:=Di e;refine(x a o e).stay (λ_ _ _ q=>q) (λb q=>?_) λb xs q=>?_
 .rw[lw λz=>by obtain⟨o',v',h1,_⟩:=m _ z;rw[q] at h1;cases h1];exact q
 .rw[lw λz=>by obtain⟨o',v',h1,_⟩:=m _ z;rw[q] at h1;cases h1];exact q
theorem Un.putC {fs:List Gj}{H H':Hp}{h h':Heap}{cs:List Gj}(m:ip H cs)(u:Un fs [] (T3.butC H cs) H' h h')(n:∀ c∈cs,H' c=Gb):Un fs [] H (T3.putC H H' cs) h h':=by
 have out:∀ {b:Gj},H b=Gb->b∉cs:=λ{b} e z=>by obtain⟨o',v',h1,_⟩:=m _ z;rw[e] at h1;cases h1
 have bn:∀ {b:Gj},H b=Gb->T3.butC H cs b=Gb:=λ{b} e=>by rw[lw (out e)];exact e
 refine⟨λb o q nb hb hx=>u.keep b o q (bn nb) hb hx,λb o q nb hb hx=>u.slot b o q (bn nb) hb hx,λb o q nb hx=>by rw[rR (out nb)];exact u.free b o q (bn nb) hx,u.there,λb xs q=>?_,λb o x q=>?_,λb ps q=>?_⟩
 .have nb:b∉cs:=λz=>by obtain⟨o',v',h1,_⟩:=m _ z;rw[q] at h1;cases h1
  rw[rR nb];exact u.tups b xs (by rw[lw nb];exact q)
 .by_cases nb:b∈cs
  .rw[Ai nb];exact q
  .rw[rR nb];exact u.frzs b o x (by rw[lw nb];exact q)
 .have nb:b∉cs:=λz=>by obtain⟨o',v',h1,_⟩:=m _ z;rw[q] at h1;cases h1
  rw[rR nb];exact u.tbls b ps (by rw[lw nb];exact q)
theorem HOk.putC {P:Program}{w:World}{H H':Hp}{h h':Heap}{cs:List Gj}(m:ip H cs)(x:HOk P w H' h')(n:∀ c∈cs,H' c=Gb)(k:∀ c∈cs,∀ o v,H c=Ga (.frz o (.own c))->o.data=.cell v->h'.get? c=Ga o):HOk P w (T3.putC H H' cs) h':=λa o e=>by
 by_cases ha:a∈cs
 .rw[Ai ha] at e;obtain⟨o',v',h1,h2⟩:=m a ha;rw[h1] at e;cases e;have g:=k a ha o' v' h1 h2;exact⟨g,o',g⟩
 .rw[rR ha] at e;exact(x a o e).stay (λ_ _ _ q=>q) (λb q=>Av n b _ q) λb xs q=>Av n b _ q
structure tE (x:Str)(fr:List Str)(scope:Scope):Prop where
 kind:scope.kind=.function
 co:scope.isCoroutine=false
 gen:scope.isGenerator=false
 nocell:∀ y∈scope.names,y.2≠.cell
 par:scope.names.lookup x=Ga .local
 free:∀ y∈scope.names,y.2=.free->y.1∈fr
 frf:∀ y∈fr,scope.names.lookup y=Ga .free
 nd:(x::fr).Nodup
structure rQ (K:ja)(F:Hp)(fr:List Str)(ds:List D)(cl:List (Str×Gj))(cs:List Gj):Prop where
 look:∀ (j:Nat) (y:Str) (d:D),fr[j]?=Ga y->ds[j]?=Ga d->∃ c o u v,cl.lookup y=Ga c/\c∈cs/\F c=Ga (.frz o (.own c))/\o.data=.cell (Ga u)/\fC v u/\fP K F d v
 all:∀ y c,cl.lookup y=Ga c->c∈cs
 has:∀ y∈fr,∃ c,cl.lookup y=Ga c
 cells:ip F cs
 inj:∀ x y c,cl.lookup x=Ga c->cl.lookup y=Ga c->x=y
 len:ds.length=fr.length
 only:∀ c∈cs,∃ y,cl.lookup y=Ga c
theorem ip.mono {F F':Hp}{cs:List Gj}(s:aG F F')(m:ip F cs):ip F' cs:=λc h=>by
 obtain⟨o,v,h1,h2⟩:=m c h;exact⟨o,v,s _ _ h1,h2⟩
theorem rQ.mono {K:ja}{F F':Hp}{fr:List Str}{ds:List D}{cl:List (Str×Gj)}{cs:List Gj}(s:aG F F')(x:rQ K F fr ds cl cs):rQ K F' fr ds cl cs :=
 ⟨λj y d h1 h2=>by
  obtain⟨c,o,u,v,e1,e2,e3,e4,e5,e6⟩:=x.look j y d h1 h2;exact⟨c,o,u,v,e1,e2,s _ _ e3,e4,e5,e6.mono s⟩,x.all,x.has,x.cells.mono s,x.inj,x.len,x.only⟩
def lP (f:Gj)(o:Obj):Heap->Prop:=λh=>h.get? f=Ga o
def BF (K:ja)(params:Arguments)(body:Expr)(scope:Scope)(fr:List Str)(ds:List D):gD where
 C:=λf F H=>∃ name qual cl pm c ctv cs o vs,∃ v:Str×Tok,F f=Ga (.ext (lP f (kY name qual params body scope cl pm c ctv)))/\H c=Ga (.frz o (.own c))/\o.data=.fields vs/\vs[1]?=Ga (.str v.1 v.2)/\rQ K F fr ds cl cs
 mono:=λf F F' H H' s z ⟨name,qual,cl,pm,c,ctv,cs,o,vs,v,h1,h2,h3,h4,h5⟩=>⟨name,qual,cl,pm,c,ctv,cs,o,vs,v,s _ _ h1,z _ _ h2,h3,h4,h5.mono s⟩
def sO (P:Program)(w:World)(K:ja)(mg:Str->Option Gg)(base:Heap)(N:List Str)(qual:Str)(scope:Scope)(f:Gj)(cd:Gg)(cl:List (Str×Gj))(A:Around)(outer:List Env)(s:Gh)(H:Hp):Cx where
 prog:=P
 w:=w
 K:=K
 mg:=mg
 base:=base
 A:=A.deeper (u7 qual scope s.heap.objs.size f cd cl)
 N:=N
 s₀:=s
 H₀:=H
 env:=u7 qual scope s.heap.objs.size f cd cl
 outer:=outer
 stack:=u7 qual scope s.heap.objs.size f cd cl::outer
 ex:=[]
 fn:=λ_=>false
 calm:=true
 pn:=[]
 xe:=λ_ _=>False
section
variable {P:Program}{w:World}{K:ja}{mg:Str->Option Gg}{base:Heap}{A:Around}{outer:List Env}{s:Gh}{H F:Hp}{x:Str}{fr:List Str}{scope:Scope}{cl:List (Str×Gj)}{cs:List Gj}{ds:List D}{q:Str}{f:Gj}{cd:Gg}
theorem XB (S:tE x fr scope)(hd:A.handled=Gb)(e0:oV P w K mg base A outer s H)(g:aG F H)(cP:rQ K F fr ds cl cs){u:Gg}{v:V}(ru:fC v u){vs:List V}(hvs:vs.length=ds.length)
  (hv:∀ (j:Nat) (y:Str) (v:V),fr[j]?=Ga y->vs[j]?=Ga v->∃ c o u,cl.lookup y=Ga c/\F c=Ga (.frz o (.own c))/\o.data=.cell (Ga u)/\fC v u)
  {h1:Heap} {tk:Nat} (hns:h1.Ns s.heap.objs.size (λy=>[(x,u)].reverse.lookup y)) (hk:∀ b o,s.heap.get? b=Ga o->h1.get? b=Ga o) :
  eS (sO P w K mg base (x::fr) q scope f cd cl A outer s (T3.butC H cs)) [] (Ga v::vs.map Ga) (T3.butC H cs) { s with heap:=h1,toks:=tk }:=by
 have mH:ip H cs:=cP.cells.mono g;have noA:∀ b:Gj,b∉(sO P w K mg base (x::fr) q scope f cd cl A outer s (T3.butC H cs)).ex:=λb z=>absurd (show b∈([]:List Gj) from z) (by simp);have cell:∀ y c,cl.lookup y=Ga c->∃ v,h1.IsCell c v:=λy c e=>by
  obtain⟨o,v,h2,h3⟩:=mH c (cP.all y c e);exact⟨v,o,hk _ _ (e0.hok c _ h2).1,h3⟩
 refine⟨⟨e0.mod,S.kind,rfl,rfl,jr _,λy z c h1 h2=>cP.inj y z c h1 h2,λy hy=>?_,λy c hf _=>(by cases hf),λ_=>hd,qW e0.frames,.inr ⟨rfl,rfl⟩,λb z=>absurd z (noA b),λb o e=>?_,e0.bsz,λb _ _=>noA b,λb z=>absurd z (noA b),e0.funs,λb hb=>?_⟩,
  rfl,e0.bare,Un.kept hk,⟨_,hns,λi y v' e1 e2 e3=>?_⟩,λy c h=>cell y c h,?_,λy c h=>?_,λp hp=>absurd (show p∈([]:List (Gj×Obj)) from hp) (by simp),L2.HOk.kept (T3.HOk.butC mH e0.hok) hk,?_⟩
 .have hy:scope.names.lookup y=Ga .cell\/scope.names.lookup y=Ga .free:=hy;rcases hy with hy|hy
  .exact absurd rfl (S.nocell _ (kE hy))
  .exact cP.has y (S.free _ (kE hy) rfl)
 .obtain⟨h2,h3⟩:=e0.bs b o e;exact⟨h2,by
   show T3.butC H cs b=Gb;by_cases hb:b∈cs
   .exact xa hb
   .rw[lw hb];exact h3⟩
 .show T3.butC H cs b=Gb;by_cases hc:b∈cs
  .exact xa hc
  .rw[lw hc];exact e0.frf b hb
 .cases i with
  | zero =>
   have e1:Ga x=Ga y:=e1;cases e1;have e2:Ga (Ga v)=Ga (Ga v'):=e2;cases e2;refine⟨u,ru,.inl ⟨S.par,?_⟩⟩;simp
  | succ j =>
   have e1:(x::fr)[j+1]?=Ga y:=e1;have e1:fr[j]?=Ga y:=by rw[vy] at e1;exact e1
   have e2:(Ga v::vs.map Ga)[j+1]?=Ga (Ga v'):=e2;rw[vy] at e2;rw[jw] at e2;cases z:vs[j]? with
   | none=>rw[z] at e2;cases e2
   | some v2 =>
    rw[z] at e2;cases e2;obtain⟨c,o,u2,h2,h3,h4,h5⟩:=hv j y _ e1 z;refine⟨u2,h5,.inr ⟨.inr (S.frf y (jM e1)),c,h2,o,hk _ _ (e0.hok c _ (g _ _ h3)).1,h4⟩⟩
 .have n:=e0.hok.fresh (jr s.heap.objs.size);show T3.butC H cs s.heap.objs.size=Gb;by_cases hc:s.heap.objs.size∈cs
  .exact xa hc
  .rw[lw hc];exact n
 .exact xa (cP.all y c h)
 .show(Ga v::vs.map Ga).length=(x::fr).length;rw[jL,jd,jL,hvs,cP.len]
end
theorem Mr {K:ja}{F:Hp}{cl:List (Str×Gj)}{cs:List Gj}:∀ {fr:List Str} {ds:List D},ds.length=fr.length->(∀ (j:Nat) (y:Str) (d:D),fr[j]?=Ga y->ds[j]?=Ga d->∃ c o u v,cl.lookup y=Ga c/\c∈cs/\F c=Ga (.frz o (.own c))/\o.data=.cell (Ga u)/\fC v u/\fP K F d v) ->
  ∃ vs:List V,vs.length=ds.length/\fg K F ds vs/\∀ (j:Nat) (y:Str) (v:V),fr[j]?=Ga y->vs[j]?=Ga v->∃ c o u,cl.lookup y=Ga c/\F c=Ga (.frz o (.own c))/\o.data=.cell (Ga u)/\fC v u
 | [],[],_,_=>⟨[],rfl,.nil,λj y v h _=>by simp at h⟩
 | [],_::_,h,_=>by simp at h
 | _::_,[],h,_=>by simp at h
 | y::fr,d::ds,h,hl=>by
  obtain⟨vs,h1,h2,h3⟩:=Mr (fr:=fr) (ds:=ds) (by simpa using h) λj y d e1 e2=>hl (j+1) y d (by simpa using e1) (by simpa using e2);obtain⟨c,o,u,v,e1,e2,e3,e4,e5,e6⟩:=hl 0 y d rfl rfl;refine⟨v::vs,by simpa using h1,.cons e6 h2,λj z v' q1 q2=>?_⟩;cases j with
  | zero =>
   have q1:Ga y=Ga z:=q1;have q2:Ga v=Ga v':=q2;cases q1;cases q2;exact⟨c,o,u,e1,e3,e4,e5⟩
  | succ j=>exact h3 j z v' (by simpa using q1) (by simpa using q2)
theorem RS.vals {K:ja}{F H:Hp}(g:aG F H):∀ {ds:List D} {vs:List V},fg K F ds vs->RS K H F H (ds.map Sl.val) (vs.map Ga):=λ{ds vs} r=>by
 refine⟨.refl _,g,λi s e=>?_,λi j a s t o1 o2 e1=>?_⟩
 .rw[jw] at e;cases z:ds[i]? with
  | none=>rw[z] at e;cases e
  | some d =>
   rw[z] at e;cases e;obtain⟨v,h1,h2⟩:=r.get z;exact⟨Ga v,by rw[jw,h1];rfl,v,rfl,h2⟩
 .rw[jw] at e1;cases z:ds[i]? with
  | none=>rw[z] at e1;cases e1
  | some d=>rw[z] at e1;cases e1;cases o1
theorem XQ {F:Hp}{cs:List Gj}{l:List Gg}(g:fV (butC F cs) l):fV F l:=g.sub λc o h=>(Di h).2
theorem aG.butC2 {F H:Hp}{cs:List Gj}(m:ip H cs)(s:aG F H):aG (T3.butC F cs) (T3.butC H cs):=λb o h=>by
 obtain⟨hb,h⟩:=Di h;rw[lw hb];exact((s b o h).from λ_ z=>XQ z).to λ_ z=>Ip m z
section
variable {P:Program}{w:World}{K:ja}{mg:Str->Option Gg}{base:Heap}{A:Around}{outer:List Env}{s:Gh}{H F:Hp}{x:Str}{fr:List Str}{scope:Scope}{ds:List D}{f:Gj}
theorem zw1 {k:Nat}{params:Arguments}{body:Expr}{fb:FV}(S:tE x fr scope)
  (hbind:∀ (name qual:Str) (cl:List (Str×Gj)) (pm:Gg) (c:Gj) (ctv u:Gg),bindArgs (qd name qual params body scope cl pm (.ref c) ctv) ⟨[u],[]⟩=pure [(x,u)])
  (hb:∀ (qual:Str) (f:Gj) (cd:Gg) (cl:List (Str×Gj)) (A:Around) (outer:List Env) (s:Gh) (H:Hp),gr k (A.deeper (u7 qual scope s.heap.objs.size f cd cl))->PV (sO P w K mg base (x::fr) qual scope f cd cl A outer s H) body fb)
  (hC:(BF K params body scope fr ds).C f F H) {u:Gg} {v:V} {d r:D} {Q:VK} (hr:gr (k+1) A) (e0:oV P w K mg base A outer s H) (g:aG F H) (ru:fC v u) (rv:fP K F d v) (e:fb (.val d::ds.map .val)=Ga r)
  (hq:∀ v' H' F',aG H H'->aG F F'->aG F' H'->fR F F' H->fP K F' r v'->Q v' H') :
  codeAny (model P w) A (.call (.ref f) ⟨[u],[]⟩) (CR fL outer P w H s Q E0) s:=by
 obtain⟨name,qual,cl,pm,c,ctv,cs,o,vs0,qt,hf,hc,hod,hv1,cP⟩:=hC;have of_:s.heap.get? f=Ga (kY name qual params body scope cl pm c ctv):=(e0.hok f _ (g _ _ hf)).1;have oc:s.heap.get? c=Ga o:=(e0.hok c _ hc).1;have lim:s.heap.NoLimit:=e0.mod.nolimit.keeps λb o e=>(e0.bs b o e).1;have mF:=cP.cells;have mH:ip H cs:=cP.cells.mono g;have nfr:∀ c∈cs,c∉mL outer:=λc hc hz=>by
  obtain⟨o',v',h1,_⟩:=mH c hc;rw[e0.frf c hz] at h1;cases h1
 refine codeAny_of_tree ?_;show wpAny _ A.in1 (callAny (.ref f) _) _ _ s;simp only[callAny];refine eN (wpAny_load of_ ?_);simp only[callFunction,S.co,S.gen];refine eN (m:=field (.ref c) 1) (wpAny_field oc hod hv1 (eN (eO ?_)));rw[hbind];refine eN (eO ?_);refine eN (wpAny_newFunctionEnv S.nocell (by intro y hy;rw[jp.mp hy];exact S.par) (λh1 hns hsb=>?_) S.kind);have hk:∀ b o,s.heap.get? b=Ga o->h1.get? b=Ga o:=λb o e=>hsb.extBut b o (jG (ju e)) (jg _ e);refine eN (wpAny_enterFrame (lim.keeps hk) hr.depth (eO (And.intro rfl ?_)));show codeAny _ _ (.expr body (u7 qt.1 scope s.heap.objs.size f (.ref c) cl)) _ _;obtain⟨vs,hvs,rvs,hv⟩:=Mr cP.len cP.look;have I:=XB (q:=qt.1) (f:=f) (cd:=.ref c) S hr.hd e0 g cP ru hvs hv (tk:=s.toks+1) hns hk;refine PySem.W.kla_codeExpr (wpAny_mono (hb qt.1 f (.ref c) cl A outer s (T3.butC H cs) (hr.deeper _) [] _ _ _ (λv' H'=>(∀ c∈cs,H' c=Gb)->Q v' (T3.putC H H' cs)) I ?_) (λu' s' h=>?_) λe' s' h=>h.elim)
 .refine⟨T3.butC H cs,T3.butC F cs,.val d::ds.map .val,r,RS.vals (g.butC2 mH) (ds:=d::ds) (vs:=v::vs) (.cons (rv.butC mF) (rvs.butC mF)),e,λv' H' F' g1 f1 fh1 n1 rv' n=>?_⟩;have nF:∀ c∈cs,F' c=Gb:=λc hc=>fh1.free (n c hc);refine hq v' _ (T3.putC F F' cs) (g1.withC mH n) (f1.withC mF nF) (fh1.withC2 mF (λc hc=>?_) nF n) (λb o h nb=>?_) (rv'.mono (aG.of (Av nF)))
  .obtain⟨o',v2,h2,_⟩:=mF c hc;rw[h2];exact(g _ _ h2).symm
  .have hb:b∉cs:=λz=>by obtain⟨o',v2,h2,_⟩:=mF b z;rw[nb] at h2;cases h2
   rw[rR hb] at h;have:=n1 b o h (by rw[lw hb];exact nb);rw[lw hb] at this;exact this
 .obtain⟨v',H',J,rel,qb⟩:=h;have n:∀ c∈cs,H' c=Gb:=λc hc=>by
   obtain⟨y,hy⟩:=cP.only c hc;exact J.freeC y c hy
  have J':Un (mL outer) [] (T3.butC H cs) H' s.heap s'.heap:=J.base;exact⟨v',T3.putC H H' cs,J.os,J.bare,T3.Un.putC mH J' n,T3.HOk.putC (h:=s.heap) mH J.hok n (λc hc o v h1 h2=>J'.keep c o (e0.hok c _ h1).1 (xa hc) (nfr c hc) (by simp)),rel,qb n⟩
end
structure mE (P:Program)(w:World)(K:ja)(mg:Str->Option Gg)(base:Heap)(k:Nat)(c:gD)(φ:D->Option D):Prop where
 obj:∀ f F H h,c.C f F H->aG F H->HOk P w H h->∃ o fd,h.get? f=Ga o/\o.data=.func fd
 run:∀ (f:Gj) (F H:Hp) (A:Around) (outer:List Env) (s:Gh) (u:Gg) (v:V) (d r:D) (Q:VK),c.C f F H->gr k A->oV P w K mg base A outer s H->aG F H->fC v u->fP K F d v->φ d=Ga r ->
  (∀ v' H' F',aG H H'->aG F F'->aG F' H'->fR F F' H->fP K F' r v'->Q v' H')->codeAny (model P w) A (.call (.ref f) ⟨[u],[]⟩) (CR fL outer P w H s Q E0) s
theorem mE.mono {P:Program}{w:World}{K:ja}{mg:Str->Option Gg}{base:Heap}{j k:Nat}{c:gD}{φ:D->Option D}(x:mE P w K mg base j c φ)(h:j<=k):mE P w K mg base k c φ :=
 ⟨x.obj,λf F H A outer s u v d r Q hC hr=>x.run f F H A outer s u v d r Q hC (hr.mono h)⟩
theorem UC {P:Program}{w:World}{K:ja}{mg:Str->Option Gg}{base:Heap}{x:Str}{fr:List Str}{scope:Scope}{ds:List D}{k:Nat}{params:Arguments}{body:Expr}{fb:FV}(S:tE x fr scope)
  (hbind:∀ (name qual:Str) (cl:List (Str×Gj)) (pm:Gg) (c:Gj) (ctv u:Gg),bindArgs (qd name qual params body scope cl pm (.ref c) ctv) ⟨[u],[]⟩=pure [(x,u)])
  (hb:∀ (qual:Str) (f:Gj) (cd:Gg) (cl:List (Str×Gj)) (A:Around) (outer:List Env) (s:Gh) (H:Hp),gr k (A.deeper (u7 qual scope s.heap.objs.size f cd cl))->PV (sO P w K mg base (x::fr) qual scope f cd cl A outer s H) body fb) :
  mE P w K mg base (k+1) (BF K params body scope fr ds) λd=>fb (.val d::ds.map .val) where
 obj:=λf F H h ⟨name,qual,cl,pm,c,ctv,cs,o,vs,qt,hf,_⟩ g hok=>⟨_,_,(hok f _ (g _ _ hf)).1,rfl⟩
 run:=λf F H A outer s u v d r Q hC hr e0 g ru rv e hq=>zw1 S hbind hb hC hr e0 g ru rv e hq
open Classical in
noncomputable def oN (i:Nat)(c:gD)(φ:D->Option D)(f:FV):FV:=λψ=>if ψ[i]?=Ga (.fn c) then(f ψ).bind φ else Gb
section
variable {X:Cx}{pos p:Pos}{k:Nat}{c:gD}{φ:D->Option D}
theorem SV (i:Nat){y:Str}{ex:Expr}{f:FV}(hC:mE X.prog X.w X.K X.mg X.base k c φ)(hr:gr k X.A)(ha:PV X ex f)(hN:X.N[i]?=Ga y:=by rfl)(hv:mq X.env.scope y:=by first|exact kw rfl|exact jZ (kw rfl)|exact jZ (jZ rfl))
  (hd:(y==("__debug__":Str))=false:=by decide) (hcd:(y==("__classdict__":Str))=false:=by decide) (hs:starEach [ex] X.env=[(false,eval ex X.env)]:=by rfl):PV X (.Call (.Name y p) [ex] [] pos) (oN i c φ f):=by
 intro ω s σ H Q I h;obtain⟨H0,F,ψ,d,r,e,q⟩:=h;unfold oN at e;split at e;rotate_left
 .cases e
 rename_i hi;obtain⟨d1,e1,e2⟩:=aj e;obtain⟨u,e3,g,e4,hg⟩:=r.sl i _ hi;subst e4;refine wpAny_Call_Name_kw (fW (iJ (pos:=p) hN hv hd hcd ω s σ H (λv H1=>v=.ref g/\H1=H) I ⟨.ref g,e3,rfl,rfl⟩) λu1 s1 ⟨v1,H1,I1,rel,z1,z2⟩=>?_);subst z1;subst z2;obtain rfl:u1=kD g:=rel;refine PySem.W.callWith_of (P:=λh=>∃ o fd,h.get? g=Ga o/\o.data=.func fd) (by rw[hs];rfl) (λh ⟨o,fd,h1,h2⟩=>⟨.frame,.inl rfl,?_⟩) ?_
 .obtain⟨cl0,dc0,dt0,sl0⟩:=o;have h2:dt0=.func fd:=h2;subst h2;exact(PySem.W.Looks.ld (part:=Gb) h1).andThen .now
 .have hp:PA X [ex] (CO (tV X.K f) Hr):=gA ha iL hs;rw[hs];refine uR ?_;have hw:=hp pos ω s1 σ H1 (λvs H2=>∃ v F2,vs=[v]/\aG H1 H2/\aG F F2/\aG F2 H2/\fR F F2 H1/\fP X.K F2 d1 v) I1 ⟨H0,F,ψ,d1,r,e1,λv H2 F2 g2 f2 fh2 n2 rv=>⟨v,F2,rfl,g2,f2,fh2,n2,rv⟩⟩;rw[hs] at hw;refine fW hw λus s2 ⟨vs,H2,I2,rvs,v,F2,z,g2,f2,fh2,n2,rv⟩=>?_;subst z;cases rvs with
  | cons ru rn =>
   cases rn;have hg2:=c.mono g F F2 H1 H2 f2 g2.fz hg;refine⟨hC.obj g F2 H2 _ hg2 fh2 I2.hok,?_⟩;refine wpAny_call (codeAny_mono (hC.run g F2 H2 X.A X.stack s2 _ v d1 d Q hg2 hr I2.env0 fh2 ru rv e2 λv' H' F' g3 f3 fh3 n3 rv3=>q v' H' F' (g2.trans g3) (f2.trans f3) fh3 (n2.trans n3 g2) rv3) λr s' hq=>?_);cases r with
   | error e=>exact hq.elim
   | ok fl =>
    cases fl with
    | ret u=>exact I2.after hq
    | next=>exact False.elim hq
    | brk=>exact False.elim hq
    | cont=>exact False.elim hq
end
def Bm (K:ja)(p:Nat)(c:gD)(fm:List D->Option D):Sp:=λvs H Q _=>∃ (F:Hp) (g:Gj) (us:List V) (ds:List D) (d:D),vs=us.take p++.ref g::us.drop p/\c.C g F H/\aG F H/\fg K F ds us/\fm ds=Ga d /\
 ∀ v H' F',aG H H'->aG F F'->aG F' H'->fR F F' H->fP K F' d v->Q v H'
def startP (c:gD):Nat->Nat->List D->En
 | 0,n,ds=>.fn c::lR (n-1) ds
 | p+1,n,d::ds=>.val d::startP c p (n-1) ds
 | _+1,_,[]=>[]
def xR (p np n:Nat)(c:gD)(g:FS)(ds:List D):Option D:=if ds.length+1=np then fK (g (startP c p n ds)) else Gb
theorem RS.cons {K:ja}{H0 F H:Hp}{ψ:En}{σ:St}(r:RS K H0 F H ψ σ){s:Sl}{u:Option V}(q:mj K H0 F H s u)(o:gJ s=false):RS K H0 F H (s::ψ) (u::σ):=by
 refine⟨r.h0,r.fh,λi t e=>?_,λi j a t1 t2 o1 o2 e1 e2 e3 e4=>?_⟩
 .cases i with
  | zero=>cases e;exact⟨u,rfl,q⟩
  | succ i=>exact r.sl i t e
 .cases i with
  | zero=>cases e1;rw[o] at o1;cases o1
  | succ i =>
   cases j with
   | zero=>cases e2;rw[o] at o2;cases o2
   | succ j=>rw[r.ap i j a t1 t2 o1 o2 e1 e2 e3 e4]
theorem LX {N:List Str}{v:V}{us:List V}:L2.start N (v::us)=Ga v::L2.start N.tail us:=by
 unfold L2.start;rw[jB,vN,jL,qz]
 congr 3
 omega
theorem RS.startP {K:ja}{F H:Hp}{c:gD}{g:Gj}(h:aG F H)(q:c.C g F H):∀ (p:Nat) {N:List Str} {ds:List D} {us:List V},fg K F ds us->p<=ds.length->RS K H F H (T3.startP c p N.length ds) (L2.start N (us.take p++.ref g::us.drop p))
 | 0,N,ds,us,r,_=>by
  show RS K H F H (.fn c::lR (N.length-1) ds) (L2.start N (.ref g::us));rw[LX,show N.length-1=N.tail.length by rw[qz]];exact(RS.start (N:=N.tail) h r).cons ⟨g,rfl,q⟩ rfl
 | p+1,N,_,_,.cons (d:=d) (v:=v) hd t,hp=>by
  show RS K H F H (.val d::T3.startP c p (N.length-1) _) (L2.start N (v::_));rw[LX,show N.length-1=N.tail.length by rw[qz]];exact(RS.startP h q p (N:=N.tail) t (Nat.le_of_succ_le_succ hp)).cons ⟨v,rfl,hd⟩ rfl
theorem ZX {α:Type}(p:Nat)(x:α)(us:List α):(us.take p++x::us.drop p).length=us.length+1:=by
 rw[jC,jL,<- vW,<- jC,List.take_append_drop]
section
variable {P:Program}{w:World}{K:ja}{mg:Str->Option Gg}{base:Heap}{x qual:Str}{st:Stmt}{f:Gj}{fd:Gi}{N ps:List Str}{k p:Nat}{g:FS}{c:gD}
theorem Nt (F:nW K x qual st f fd)(S:fo N ps (eP st))(hp:p<ps.length)
  (hb:∀ (cdv:Gg) (A:Around) (outer:List Env) (s:Gh) (H:Hp) (E:XK),gr k (A.deeper (envOfC qual (eP st) s.heap.objs.size f cdv))->lz (lX fL P w K mg base N qual (eP st) f cdv A outer s H E).nox (gE st) g) :
  fB P w K mg base fL (k+1) f fd ps (Bm K p c (xR p ps.length N.length c g)):=by
 have hr0:∀ {ds:List D} {d:D},xR p ps.length N.length c g ds=Ga d->ds.length+1=ps.length/\(g (startP c p N.length ds)=Ga (.rt d)\/∃ xs,d=.list xs/\g (startP c p N.length ds)=Ga (.ro xs)):=λ{ds d} h=>by
  unfold xR at h;split at h
  .rename_i z;refine⟨z,?_⟩;unfold fK at h;split at h
   .rename_i e;cases h;exact .inl e
   .rename_i e;cases h;exact .inr ⟨_,rfl,e⟩
   .cases h
  .cases h
 refine F.ok S (λvs H Q E h=>?_) (λcdv A outer s H vs Q E hr h=>?_)
 .obtain⟨F0,g0,us,ds,d,rfl,_,_,r,e,_⟩:=h;rw[ZX,<- r.length];exact(hr0 e).1
 .obtain⟨F0,g0,us,ds,d,rfl,hC,hs,r,e,q⟩:=h;have hp2:p<=ds.length:=by have:=(hr0 e).1;omega
  rcases(hr0 e).2 with z|⟨xs,rfl,z⟩
  .exact⟨_,hb cdv A outer s H E hr,H,F0,_,_,RS.startP hs hC p r hp2,z,λv H' F' g1 f1 fh1 n1 rv=>q v H' F' g1 f1 fh1 n1 rv⟩
  .refine⟨_,hb cdv A outer s H E hr,H,F0,_,_,RS.startP hs hC p r hp2,z,λa ys H' F' g1 f1 fh1 n1 ha fa ha' rr=>?_⟩;have sF:aG F' (upd F' a (.lst ys)):=aG.new fa;refine q (.ref a) H' (upd F' a (.lst ys)) g1 (f1.trans sF) (aG.upL fh1 ha' trivial) (λb o h nb=>?_) (.lst (gp.of eZ) (rr.mono sF));by_cases hb:b=a
   .subst hb;exact ha
   .rw[eQ hb] at h;exact n1 b o h nb
end
open Classical in
noncomputable def nZ (i:Nat)(c:gD)(fm:List D->Option D)(g:FL):FV:=λψ=>if ψ[i]?=Ga (.fn c) then(g ψ).bind fm else Gb
section
variable {X:Cx}{k:Nat}{f:Gj}{fd:Gi}{ps:List Str}{x:Str}{p pos:Pos}{es:List Expr}{g:FL}{c:gD}
theorem zw4 (i:Nat){y:Str}{py:Pos}{fm:List D->Option D}(F:fB X.prog X.w X.K X.mg X.base fL k f fd ps (Bm X.K 0 c fm))(hr:gr k X.A)(hm:X.mg x=Ga (.ref f))(hk:kG X.K (.ref f)=true)(hb:lS X.K fd ps [])(ha:PL X es g)(hg:Gl X x:=by rfl)
  (hN:X.N[i]?=Ga y:=by rfl) (hv:mq X.env.scope y:=by first|exact kw rfl|exact jZ (kw rfl)|exact jZ (jZ rfl)) (hd:(y==("__debug__":Str))=false:=by decide) (hcd:(y==("__classdict__":Str))=false:=by decide)
  (hdb:(x==("__debug__":Str))=false:=by decide) (he:starEach (.Name y py::es) X.env=(false,eval (.Name y py) X.env)::starEach es X.env:=by rfl) (hpl:(backTo pos (starEach es X.env)).any (·.1)=false:=by rfl) :
  PV X (.Call (.Name x p) (.Name y py::es) [] pos) (nZ i c fm g):=by
 refine gX (ph F hr hg hm hk hb .nil tB (gA (iJ (pos:=py) hN hv hd hcd) ha.pa he) hdb he hpl) λσ H Q=>?_;rintro⟨H0,F,ψ,d,r,e,q⟩;unfold nZ at e;split at e;rotate_left
 .cases e
 rename_i hi;obtain⟨ds,e1,e2⟩:=aj e;obtain⟨u,e3,h,e4,hh⟩:=r.sl i _ hi;subst e4;refine⟨.ref h,e3,H0,F,ψ,ds,r,e1,λvs H1 F1 g1 f1 fh1 n1 rv=>⟨F1,h,vs,ds,d,by rw[j4];rfl,c.mono _ _ _ _ _ f1 g1.fz hh,fh1,rv,e2,λv H2 F2 g2 f2 fh2 n2 rv2=>?_⟩⟩;exact q v H2 F2 (g1.trans g2) (f1.trans f2) fh2 (n1.trans n2 g1) rv2
end
def sK (P:Program)(w:World)(K:ja)(mg:Str->Option Gg)(base:Heap)(k:Nat)(φ:D->Option D):gD where
 C:=λf F H=>∀ F' H',aG F F'->Fz H H'->aG F' H'->(∀ h,HOk P w H' h->∃ o fd,h.get? f=Ga o/\o.data=.func fd) /\
  ∀ (A:Around) (outer:List Env) (s:Gh) (u:Gg) (v:V) (d r:D) (Q:VK),gr k A->oV P w K mg base A outer s H'->fC v u->fP K F' d v->φ d=Ga r ->
   (∀ v' H2 F2,aG H' H2->aG F' F2->aG F2 H2->fR F' F2 H'->fP K F2 r v'->Q v' H2)->codeAny (model P w) A (.call (.ref f) ⟨[u],[]⟩) (CR fL outer P w H' s Q E0) s
 mono:=λf F F' H H' s z h F2 H2 s2 z2=>h F2 H2 (s.trans s2) λb x q=>z2 b x (z b x q)
theorem XW (P:Program)(w:World)(K:ja)(mg:Str->Option Gg)(base:Heap)(k:Nat)(φ:D->Option D):mE P w K mg base k (sK P w K mg base k φ) φ where
 obj:=λf F H h hC g hok=>(hC F H (.refl _) (λ_ _ q=>q) g).1 h hok
 run:=λf F H A outer s u v d r Q hC hr e0 g ru rv e hq=>(hC F H (.refl _) (λ_ _ q=>q) g).2 A outer s u v d r Q hr e0 ru rv e hq
theorem Vx {P:Program}{w:World}{K:ja}{mg:Str->Option Gg}{base:Heap}{k:Nat}{φ:D->Option D}{c:gD}(x:mE P w K mg base k c φ){f:Gj}{F H:Hp}(h:c.C f F H):(sK P w K mg base k φ).C f F H:=λF' H' s z g =>
 have h':=c.mono f F F' H H' s z h
 ⟨λhp hok=>x.obj f F' H' hp h' g hok,λA outer st u v d r Q hr e0 ru rv e hq=>x.run f F' H' A outer st u v d r Q h' hr e0 g ru rv e hq⟩
structure zV (X:Cx)(c0 P:Gj):Prop where
 code:X.env.code=.ref c0
 hd:∀ h,X.K.In h->PySem.W.CodeHd h c0 P
 bm:∃ bm o,X.mg "__builtins__"=Ga (.ref bm)/\bm≠builtinsNs/\bm≠mainGlobals/\X.K.lookup bm=Ga o/\o.cls=.type "module"/\o.dict=Ga builtinsNs/\o.data=.plain
structure Dt (params:Arguments)(body:Expr)(scope:Scope)(cl:List (Str×Gj))(H:Hp)(f:Gj)(H':Hp):Prop where
 same:aG H H'
 new:H f=Gb
 ex:∃ name qual pm c ctv o vs,∃ v:Str×Tok,H' f=Ga (.ext (lP f (kY name qual params body scope cl pm c ctv)))/\H' c=Ga (.frz o (.own c))/\o.data=.fields vs/\vs[1]?=Ga (.str v.1 v.2)
def QF (ψ:Env)(fr:List Str)(params:Arguments)(body:Expr)(scope:Scope)(P:Gj):TE:=λ_ H Q=>∃ ps,H P=Ga (.tbl ps)/\fV H ps.toList /\
 ∀ f cl H',Dt params body scope cl H f H'->(∀ y a,cl.lookup y=Ga a->ψ.cells.lookup y=Ga a)->(∀ y∈fr,∃ a,cl.lookup y=Ga a)->Q (.ref f) H'
theorem Xe {pos:Pos}{l m:List Gg}(t:TriplesOk l):codeAmong pos (l++m)=(codeAmong pos l).or (codeAmong pos m):=by
 fun_induction TriplesOk l with
 | case1=>simp[codeAmong]
 | case2 a b c d e rest ih =>
  simp only[vN,codeAmong];split
  .rfl
  .exact ih t
 | case3=>cases t
theorem zmQ {l m:List Gg}(t:TriplesOk l)(u:TriplesOk m):TriplesOk (l++m):=by
 fun_induction TriplesOk l with
 | case1=>exact u
 | case2 a b c d e rest ih=>exact ih t
 | case3=>cases t
theorem aG.tbl {H:Hp}{P:Gj}{ps qs:Array Gg}(hP:H P=Ga (.tbl ps))(g:fV H ps.toList->fV (upd H P (.tbl qs)) qs.toList):aG H (upd H P (.tbl qs)):=λb o h=>by
 by_cases hb:b=P
 .subst hb;rw[hP] at h;cases h;rw[eZ];exact⟨qs,rfl,g⟩
 .rw[eQ hb];exact .of h λl z=>z.updG λx u q=>by rw[hP] at q;cases q
theorem Wi {H:Hp}{P c:Gj}{ps:Array Gg}{pos:Pos}{o:Obj}{vs:Array Gg}{v:Str×Tok}(hP:H P=Ga (.tbl ps))(hc:H c=Ga (.frz o (.own c)))(h1:o.data=.fields vs)(h2:vs[1]?=Ga (.str v.1 v.2))(g:fV H ps.toList) :
  fV (upd H P (.tbl (ps++#[rawInt pos.line,rawInt pos.col,.ref c]))) (ps++#[rawInt pos.line,rawInt pos.col,.ref c]).toList:=by
 have ne:c≠P:=λz=>by subst z;rw[hP] at hc;cases hc
 have e:(ps++#[rawInt pos.line,rawInt pos.col,kD c]).toList=ps.toList++[rawInt pos.line,rawInt pos.col,kD c]:=by simp
 rw[e];refine⟨zmQ g.1 trivial,λp cv hcv=>?_⟩;rw[Xe g.1] at hcv;cases z:codeAmong p ps.toList with
 | some cv' =>
  rw[z] at hcv;cases hcv;obtain⟨c2,o2,vs2,v2,e1,e2,e3⟩:=g.2 p _ z;exact⟨c2,o2,vs2,v2,e1,by rw[eQ (λq=>by subst q;rw[hP] at e2;cases e2)];exact e2,e3⟩
 | none =>
  rw[z] at hcv;have hcv:codeAmong p [rawInt pos.line,rawInt pos.col,kD c]=Ga cv:=hcv;unfold rawInt codeAmong at hcv;split at hcv
  .cases hcv;exact⟨c,o,vs,v,rfl,by rw[eQ ne];exact hc,h1,h2⟩
  .unfold codeAmong at hcv;cases hcv
section
variable {X:Cx}{c0 P:Gj}{fr:List Str}{params:Arguments}{body:Expr}{scope:Scope}{lpos:Pos}
theorem Xv (L:zV X c0 P)(outs:∀ y∈scope.names,y.2=.free->X.env.scope.names.lookup y.1=Ga .cell\/X.env.scope.names.lookup y.1=Ga .free)(hfr:∀ y∈fr,(y,jY)∈scope.names)
  (hdef:defaultsOf params X.env=([],[]):=by rfl):PE X (.Lambda params body scope lpos) (QF X.env fr params body scope P):=by
 intro ω s σ H Q I h;obtain⟨ps,hP,gt,q⟩:=h;refine PySem.W.kla_eval hdef ?_;obtain⟨cl,ecl,c1,c2,_⟩:=CQ (ψ:=X.env) scope.names [] (λy hy hf=>I.ok.has y.1 (outs y hy hf)) (λx c h=>by simp at h);have hcl:closureFor scope X.env=pure cl:=by rw[Ob,ecl];rfl
 have hPo:s.heap.get? P=Ga (Ja ps):=I.hok P _ hP;have C:=L.hd _ I.kIn;have hg:=I.mod.glob.keeps I.bk;have nb:∀ b o,X.base.get? b=Ga o->b≠P:=λb o e z=>by subst z;rw[(I.bs b o e).2] at hP;cases hP
 have hgP:mainGlobals≠P:=by obtain⟨o,es,ep,e,_⟩:=I.mod.glob;exact nb _ o e
 have hbm:s.heap.BuiltinsAt X.mg P:=by
  obtain⟨bm,o,b1,b2,b3,b4,b5⟩:=L.bm;have b6:=I.mod.kin bm o b4;exact⟨bm,o,b1,b2,b3,nb bm o b6,I.bk bm o b6,b5⟩
 have lt:∀ b o,H b=Ga o->b<s.heap.objs.size:=λb o e=>I.hok.lt e;cases hc:codeAmong lpos ps.toList with
 | none =>
  refine PySem.W.kla_makeFunction hcl I.ok.glob hg L.code C hPo gt.1 hc hgP hbm (λc' ctv h' tk hx hge hlt hrec htb=>?_);obtain⟨c2',oc,vs,t,e2,hoc,hd,hv⟩:=hrec;cases e2;generalize hob:kY ("<lambda>":Str) (X.env.qual++"<lambda>") params body scope cl ((X.mg "__name__").getD .none) c' ctv=ob;have nP:∀ b,H b=Gb->b≠P:=λb e z=>by subst z;rw[hP] at e;cases e
  have ltc:∀ b,b<s.heap.objs.size->b≠c':=λb h=>jG (jz h hge);have ltf:∀ b,b<s.heap.objs.size->b≠h'.objs.size:=λb h=>jG (jz h (j6 hge (uN hlt)));have Pc:P≠c':=ltc P (lt P _ hP);have Pf:P≠h'.objs.size:=ltf P (lt P _ hP);have cf:c'≠h'.objs.size:=jG hlt;have nc:H c'=Gb:=I.hok.fresh hge;have nf:H h'.objs.size=Gb:=I.hok.fresh (j6 hge (uN hlt));have keep:∀ b o,b≠P->s.heap.get? b=Ga o->(h'.push ob).get? b=Ga o:=λb o ne e=>jg _ (hx b o ne e);have H1e:∀ b o,b≠P->H b=Ga o->(upd (upd (upd H c' (.frz oc (.own c'))) P (.tbl (ps++#[rawInt lpos.line,rawInt lpos.col,.ref c']))) h'.objs.size (.ext (lP h'.objs.size ob))) b=Ga o:=λb o ne e=>by
   have:=lt b o e;rw[eQ (ltf b this),eQ ne,eQ (ltc b this)];exact e
  have sa:aG H (upd H c' (.frz oc (.own c'))):=aG.new nc;have hPa:(upd H c' (.frz oc (.own c'))) P=Ga (.tbl ps):=by rw[eQ Pc];exact hP
  have sb:aG (upd H c' (.frz oc (.own c'))) (upd (upd H c' (.frz oc (.own c'))) P (.tbl (ps++#[rawInt lpos.line,rawInt lpos.col,.ref c']))):=aG.tbl hPa λg=>Wi hPa eZ hd (v:=(_,_)) hv g;have nfb:(upd (upd H c' (.frz oc (.own c'))) P (.tbl (ps++#[rawInt lpos.line,rawInt lpos.col,.ref c']))) h'.objs.size=Gb:=by rw[eQ (kT Pf),eQ (kT cf)];exact nf
  have sc:aG _ (upd (upd (upd H c' (.frz oc (.own c'))) P (.tbl (ps++#[rawInt lpos.line,rawInt lpos.col,.ref c']))) h'.objs.size (.ext (lP h'.objs.size ob))):=aG.new nfb;have same:=sa.trans (sb.trans sc);have H1P:(upd (upd (upd H c' (.frz oc (.own c'))) P (.tbl (ps++#[rawInt lpos.line,rawInt lpos.col,.ref c']))) h'.objs.size (.ext (lP h'.objs.size ob))) P=Ga (.tbl (ps++#[rawInt lpos.line,rawInt lpos.col,.ref c'])):=by rw[eQ Pf,eZ]
  have H1c:(upd (upd (upd H c' (.frz oc (.own c'))) P (.tbl (ps++#[rawInt lpos.line,rawInt lpos.col,.ref c']))) h'.objs.size (.ext (lP h'.objs.size ob))) c'=Ga (.frz oc (.own c')):=by rw[eQ cf,eQ (kT Pc),eZ]
  have H1f:(upd (upd (upd H c' (.frz oc (.own c'))) P (.tbl (ps++#[rawInt lpos.line,rawInt lpos.col,.ref c']))) h'.objs.size (.ext (lP h'.objs.size ob))) h'.objs.size=Ga (.ext (lP h'.objs.size ob)):=eZ;have H1n:∀ b,b<s.heap.objs.size->H b=Gb->(upd (upd (upd H c' (.frz oc (.own c'))) P (.tbl (ps++#[rawInt lpos.line,rawInt lpos.col,.ref c']))) h'.objs.size (.ext (lP h'.objs.size ob))) b=Gb:=λb hb e=>by
   rw[eQ (ltf b hb),eQ (nP b e),eQ (ltc b hb)];exact e
  have H1i:∀ b o,(upd (upd (upd H c' (.frz oc (.own c'))) P (.tbl (ps++#[rawInt lpos.line,rawInt lpos.col,.ref c']))) h'.objs.size (.ext (lP h'.objs.size ob))) b=Ga o->b=h'.objs.size\/b=P\/b=c'\/(b≠P/\H b=Ga o):=λb o e=>by
   by_cases z1:b=h'.objs.size
   .exact .inl z1
   .by_cases z2:b=P
    .exact .inr (.inl z2)
    .by_cases z3:b=c'
     .exact .inr (.inr (.inl z3))
     .rw[eQ z1,eQ z2,eQ z3] at e;exact .inr (.inr (.inr ⟨z2,e⟩))
  generalize (upd (upd (upd H c' (.frz oc (.own c'))) P (.tbl (ps++#[rawInt lpos.line,rawInt lpos.col,.ref c']))) h'.objs.size (.ext (lP h'.objs.size ob)))=H1 at H1e same H1P H1c H1f H1n H1i;clear sb sc nfb hPa sa;have U:Un X.fs [] H H1 s.heap (h'.push ob):=by
   refine⟨λb o e n _ _=>keep b o (nP b n) e,λb o e n _ _=>⟨o.slots,keep b o (nP b n) e⟩,λb o e n _=>H1n b (ju e) n,λb o e _=>?_,λb xs e=>H1e b _ (λz=>by subst z;rw[hP] at e;cases e) e,λb o u e=>H1e b _ (λz=>by subst z;rw[hP] at e;cases e) e,λb qs e=>?_⟩
   .by_cases z:b=P
    .subst z;exact⟨_,jg _ htb⟩
    .exact⟨o,keep b o z e⟩
   .by_cases z:b=P
    .subst z;rw[hP] at e;cases e;exact⟨_,H1P⟩
    .exact⟨#[],by rw[H1e b _ z e];simp⟩
  have K1:HOk X.prog X.w H1 (h'.push ob):=λb o e=>by
   rcases H1i b o e with rfl|rfl|rfl|⟨z,e'⟩
   .rw[H1f] at e;cases e;have g:(h'.push ob).get? h'.objs.size=Ga ob:=by rw[<- hob];exact jD _ rfl
    exact⟨g,⟨_,g⟩,λh1 h2 p k=>k _ p⟩
   .rw[H1P] at e;cases e;exact jg _ htb
   .rw[H1c] at e;cases e;have g:=jg ob hoc;exact⟨g,_,g⟩
   .refine(I.hok b o e').stay (λc u hcu r=>keep c u ?_ r) (λc r=>H1e c _ (λw=>by subst w;rw[hP] at r;cases r) r) λc xs r=>H1e c _ (λw=>by subst w;rw[hP] at r;cases r) r;rcases hcu with rfl|w
    .exact z
    .intro w2;subst w2;rw[hP] at w;cases w
  refine⟨.ref h'.objs.size,H1,I.un (t':=tk) U K1,rfl,q h'.objs.size cl H1 ⟨same,nf,("<lambda>":Str),X.env.qual++"<lambda>",(X.mg "__name__").getD .none,c',ctv,oc,vs,(_,t),?_,H1c,hd,hv⟩ c1 λy hy=>c2 y (hfr y hy)⟩;rw[H1f,<- hob]
 | some cv =>
  obtain⟨c,o,vs,v,rfl,hcH,hod,hv⟩:=gt.2 lpos cv hc;refine PySem.W.kla_makeFunctionHit hcl I.ok.glob hg L.code C hPo gt.1 hc hbm (λctv h' tk hk hsz=>?_);generalize hob:({ cls:=.type "function",data:=.func (qd ("<lambda>":Str) (X.env.qual++"<lambda>") params body scope cl ((X.mg "__name__").getD .none) (.ref c) ctv) }:Obj)=ob;have nf:H h'.objs.size=Gb:=I.hok.fresh hsz;have keep:∀ b o,s.heap.get? b=Ga o->(h'.push ob).get? b=Ga o:=λb o e=>jg _ (hk b o e);have g:(h'.push ob).get? h'.objs.size=Ga ob:=by rw[<- hob];exact jD _ rfl
  have I':eS X ω σ (upd H h'.objs.size (.ext (lP h'.objs.size ob))) { s with heap:=h'.push ob,toks:=tk }:=I.laid keep hsz ⟨g,⟨_,g⟩,λh1 h2 p k=>k _ p⟩;refine⟨.ref h'.objs.size,_,I',rfl,q h'.objs.size cl _ ⟨aG.new nf,nf,("<lambda>":Str),X.env.qual++"<lambda>",(X.mg "__name__").getD .none,c,ctv,o,vs,v,?_,?_,hod,hv⟩ c1 λy hy=>c2 y (hfr y hy)⟩
  .rw[eZ,<- hob]
  .rw[eQ (λz=>by rw[z] at hcH;rw[nf] at hcH;cases hcH)];exact hcH
end
def iM (h:Heap)(H:Hp)(cs:List Gj):Hp:=λb=>if b∈cs then(h.get? b).map (λo=>HO.frz o (.own b)) else H b
theorem yP {h:Heap}{H:Hp}{cs:List Gj}{b:Gj}(hb:b∈cs):iM h H cs b=(h.get? b).map (λo=>HO.frz o (.own b)):=Ge hb
theorem pW {h:Heap}{H:Hp}{cs:List Gj}{b:Gj}(hb:b∉cs):iM h H cs b=H b:=Gf hb
section
variable {h:Heap}{F H H':Hp}{cs:List Gj}{P:Program}{w:World}
theorem pZ (n:∀ c∈cs,H c=Gb):∀ c o,H c=Ga o->iM h H cs c=Ga o:=λc o e=>by
 rw[pW λz=>by rw[n c z] at e;cases e];exact e
theorem FY (hc:∀ c∈cs,∃ o v,h.get? c=Ga o/\o.data=.cell v):ip (iM h H cs) cs:=λc z=>by
 obtain⟨o,v,e1,e2⟩:=hc c z;exact⟨o,v,by rw[yP z,e1];rfl,e2⟩
theorem ztG (hc:∀ c∈cs,∃ o v,h.get? c=Ga o/\o.data=.cell v)(n:∀ c∈cs,H c=Gb)(x:HOk P w H h):HOk P w (iM h H cs) h:=λa o e=>by
 by_cases ha:a∈cs
 .obtain⟨o1,v,e1,e2⟩:=hc a ha;rw[yP ha,e1] at e;cases e;exact⟨e1,_,e1⟩
 .rw[pW ha] at e;exact(x a o e).stay (λ_ _ _ q=>q) (λb q=>pZ n b _ q) λb xs q=>pZ n b _ q
theorem Zs (hc:∀ c∈cs,∃ o v,h.get? c=Ga o/\o.data=.cell v){l:List Gg}(g:fV (iM h H cs) l):fV H l :=
 ⟨g.1,λpos cv e=>by
  obtain⟨c,x,vs,v,e1,e2,e3,e4⟩:=g.2 pos cv e;refine⟨c,x,vs,v,e1,?_,e3,e4⟩;by_cases z:c∈cs
  .obtain⟨o1,v1,h1,h2⟩:=hc c z;rw[yP z,h1] at e2;cases e2;rw[e3] at h2;cases h2
  .rw[pW z] at e2;exact e2⟩
theorem NY (hc:∀ c∈cs,∃ o v,h.get? c=Ga o/\o.data=.cell v)(n:∀ c∈cs,H c=Gb)(s:aG F H):aG (iM h F cs) (iM h H cs):=λb o e=>by
 by_cases hb:b∈cs
 .obtain⟨o1,v,e1,e2⟩:=hc b hb;rw[yP hb,e1] at e ⊢;cases e;exact rfl
 .rw[pW hb] at e ⊢;exact((s b o e).from λ_ z=>Zs hc z).to λ_ z=>z.sub (pZ n)
theorem KM (n:∀ c∈cs,H c=Gb)(m:ip H' cs)(s:aG (iM h H cs) H'):aG H (butC H' cs):=λb o e=>by
 have hb:b∉cs:=λz=>by rw[n b z] at e;cases e
 rw[lw hb];exact((s b o (pZ n b o e)).from λ_ z=>z.sub (pZ n)).to λ_ z=>Ip m z
end
def yi (ψ:En):List Nat->Option (List D)
 | []=>Ga []
 | i::r=>match ψ[i]? with
  | some (.val d)=>(yi ψ r).bind λds=>Ga (d::ds)
  | _=>Gb
theorem Nr {ψ:En}:∀ {ix:List Nat} {ds:List D},yi ψ ix=Ga ds->ds.length=ix.length/\∀ (j i:Nat) (d:D),ix[j]?=Ga i->ds[j]?=Ga d->ψ[i]?=Ga (.val d)
 | [],ds,h=>by cases h;exact⟨rfl,λj i d e=>by simp at e⟩
 | i::r,ds,h=>by
  unfold yi at h;split at h
  .rename_i d hd;obtain⟨es,e1,e2⟩:=aj h;cases e2;obtain⟨l,k⟩:=Nr e1;refine⟨by simpa using l,λj i' d' q1 q2=>?_⟩;cases j with
   | zero=>cases q1;cases q2;exact hd
   | succ j=>exact k j i' d' q1 q2
  .cases h
open Classical in
noncomputable def pC (it:Nat)(P:Gj)(mk:(D->Option D)->gD)(fb:FV)(fm:gD->(D->Option D)->List D->Option D)(ix:List Nat)(g:FL):FV:=λψ =>
 if ψ[it]?=Ga (.tab P) then(yi ψ ix).bind λcs=>(g ψ).bind (fm (mk λd=>fb (.val d::cs.map .val)) λd=>fb (.val d::cs.map .val)) else Gb
def KJ (K:ja)(ψ:Env)(fr:List Str)(params:Arguments)(body:Expr)(scope:Scope)(P:Gj)(p:Nat)(g:FL):TA:=λσ H Q=>∃ (H0 F0:Hp) (en:En) (as:List D) (qs:Array Gg),RS K H0 F0 H en σ/\g en=Ga as/\H P=Ga (.tbl qs)/\fV H qs.toList /\
 ∀ (a:Gj) (cl:List (Str×Gj)) (us:List V) (H2 F2:Hp),aG H H2->aG F0 F2->aG F2 H2->fR F0 F2 H->fg K F2 as us->RS K H0 F2 H2 en σ ->
  (∃ name qual pm c ctv o vs,∃ v:Str×Tok,F2 a=Ga (.ext (lP a (kY name qual params body scope cl pm c ctv)))/\H2 c=Ga (.frz o (.own c))/\o.data=.fields vs/\vs[1]?=Ga (.str v.1 v.2)) ->
  (∀ y a,cl.lookup y=Ga a->ψ.cells.lookup y=Ga a)->(∀ y∈fr,∃ a,cl.lookup y=Ga a)->Q (us.take p++.ref a::us.drop p) H2
section
variable {X:Cx}{c0 P:Gj}{fr:List Str}{params:Arguments}{body:Expr}{scope:Scope}{lpos:Pos}{es:List Expr}{g:FL}
theorem RC (L:zV X c0 P)(outs:∀ y∈scope.names,y.2=.free->X.env.scope.names.lookup y.1=Ga .cell\/X.env.scope.names.lookup y.1=Ga .free)(hfr:∀ y∈fr,(y,jY)∈scope.names)(ha:PL X es g)(hdef:defaultsOf params X.env=([],[]):=by rfl)
  (he:starEach (.Lambda params body scope lpos::es) X.env=(false,eval (.Lambda params body scope lpos) X.env)::starEach es X.env:=by rfl):PA X (.Lambda params body scope lpos::es) (KJ X.K X.env fr params body scope P 0 g):=by
 refine rG (gA (Xv L outs hfr hdef) ha.pa he) λσ H Q=>?_;rintro⟨H0,F0,ψ,as,qs,r,e2,hP,gd,q⟩;refine⟨qs,hP,gd,λa cl H1 M m1 m2=>?_⟩;obtain⟨name,qual,pm,c,ctv,o,vs,v,x1,x2,x3⟩:=M.ex;have fa:F0 a=Gb:=r.fh.free M.new;have s1:aG F0 (upd F0 a (.ext (lP a (kY name qual params body scope cl pm c ctv)))):=aG.new fa;have s2:aG (upd F0 a (.ext (lP a (kY name qual params body scope cl pm c ctv)))) H1:=(r.fh.trans M.same).upL x1 trivial;have n1:fR F0 (upd F0 a (.ext (lP a (kY name qual params body scope cl pm c ctv)))) H:=λb o' h n=>by
  by_cases hb:b=a
  .subst hb;exact M.new
  .rw[eQ hb,n] at h;cases h
 have r1:=r.grow M.same s1 s2 n1;exact⟨H0,_,ψ,as,r1,e2,λus H2 F2 g2 f2 fh2 n2 rv=>q a cl us H2 F2 (M.same.trans g2) (s1.trans f2) fh2 (n1.trans n2 M.same) rv (r1.grow g2 f2 fh2 n2) ⟨name,qual,pm,c,ctv,o,vs,v,f2 _ _ eZ,g2 _ _ x2,x3⟩ m1 m2⟩
end
section
variable {X:Cx}{c0 P:Gj}{fr:List Str}{params:Arguments}{body:Expr}{scope:Scope}{lpos:Pos}{e0:Expr}{k kl lp:Nat}{f:Gj}{fd:Gi}{ps:List Str}{x xl:Str}{p pos:Pos}{es:List Expr}{g:FL}{fb:FV}{fm:gD->(D->Option D)->List D->Option D}{ix:List Nat}
theorem zw8 (it:Nat)(S:tE xl fr scope)(outs:∀ y∈scope.names,y.2=.free->X.env.scope.names.lookup y.1=Ga .cell\/X.env.scope.names.lookup y.1=Ga .free)(hfr:∀ y∈fr,(y,jY)∈scope.names)(hfn:∀ y,X.fn y=true)
  (hlen:ix.length=fr.length) (hat:∀ (j i:Nat) (y:Str),ix[j]?=Ga i->fr[j]?=Ga y->X.N[i]?=Ga y)
  (hbind:∀ (name qual:Str) (cl:List (Str×Gj)) (pm:Gg) (c:Gj) (ctv u:Gg),bindArgs (qd name qual params body scope cl pm (.ref c) ctv) ⟨[u],[]⟩=pure [(xl,u)])
  (hbody:∀ (qual:Str) (f:Gj) (cd:Gg) (cl:List (Str×Gj)) (A:Around) (outer:List Env) (s:Gh) (H:Hp),gr kl (A.deeper (u7 qual scope s.heap.objs.size f cd cl))->PV (sO X.prog X.w X.K X.mg X.base (xl::fr) qual scope f cd cl A outer s H) body fb)
  (F:∀ φ,fB X.prog X.w X.K X.mg X.base fL k f fd ps (Bm X.K lp (sK X.prog X.w X.K X.mg X.base (kl+1) φ) (fm (sK X.prog X.w X.K X.mg X.base (kl+1) φ) φ))) (hr:gr k X.A) (hm:X.mg x=Ga (.ref f)) (hk:kG X.K (.ref f)=true) (hb:lS X.K fd ps []) (hPA:PA X (e0::es) (KJ X.K X.env fr params body scope P lp g)) (hg:Gl X x:=by rfl)
  (hdb:(x==("__debug__":Str))=false:=by decide) (he:starEach (e0::es) X.env=(false,eval e0 X.env)::starEach es X.env:=by rfl) (hpl:(backTo pos (starEach es X.env)).any (·.1)=false:=by rfl) :
  PV X (.Call (.Name x p) (e0::es) [] pos) (pC it P (sK X.prog X.w X.K X.mg X.base (kl+1)) fb fm ix g):=by
 intro ω s σ H Q I h;obtain⟨H0,F0,ψ,d,r,e,q⟩:=h;unfold pC at e;split at e;rotate_left
 .cases e
 rename_i hi;obtain⟨ds,e1,e⟩:=aj e;obtain⟨as,e2,e3⟩:=aj e;obtain⟨dl,dat⟩:=Nr e1;generalize hφ:(λd=>fb (.val d::ds.map .val))=φ at e3;obtain⟨_,_,ht⟩:=r.sl it _ hi;obtain⟨ps0,ht,g0⟩:∃ ps,H0 P=Ga (.tbl ps)/\fV H0 ps.toList:=ht;obtain⟨qs,hP,hgd⟩:=r.h0 P _ ht;have gd:fV H qs.toList:=hgd g0;refine wpAny_Call_Name_kw (wn I hg hm ?_ hdb);refine Jn (h₀:=X.base) I.ok.mod.kin hk (fW (hPA pos ω s σ H (λvs H2=>∃ (a:Gj) (cl:List (Str×Gj)) (F2:Hp) (us:List V),vs=us.take lp++.ref a::us.drop lp/\aG H H2/\aG F0 F2/\aG F2 H2/\fR F0 F2 H/\fg X.K F2 as us/\RS X.K H0 F2 H2 ψ σ /\
   (∃ name qual pm c ctv o vs,∃ v:Str×Tok,F2 a=Ga (.ext (lP a (kY name qual params body scope cl pm c ctv)))/\H2 c=Ga (.frz o (.own c))/\o.data=.fields vs/\vs[1]?=Ga (.str v.1 v.2)) /\
   (∀ y a,cl.lookup y=Ga a->X.env.cells.lookup y=Ga a)/\(∀ y∈fr,∃ a,cl.lookup y=Ga a)) I ⟨H0,F0,ψ,as,qs,r,e2,hP,gd,λa cl us H2 F2 g2 f2 fh2 n2 rv r2 ex m1 m2=>⟨a,cl,F2,us,rfl,g2,f2,fh2,n2,rv,r2,ex,m1,m2⟩⟩) λus s1 ⟨vs,H2,I1,rvs,q1⟩=>⟨I1.kIn,?_⟩) he hpl
 .obtain⟨a,cl,F2,us',rfl,g2,f2,fh2,n2,rv,r2,⟨name,qual,pm,c,ctv,o,vs',v,x1,x2,x3,x4⟩,m1,m2⟩:=q1;have hcs:∀ c',c'∈(cl.filterMap λq=>cl.lookup q.1)->∃ y,cl.lookup y=Ga c':=λc' hc=>by
   obtain⟨q,_,hq⟩:=vm.mp hc;exact⟨q.1,hq⟩
  have hsc:∀ y c',cl.lookup y=Ga c'->c'∈(cl.filterMap λq=>cl.lookup q.1):=λy c' hy=>vm.mpr ⟨(y,c'),kE hy,hy⟩;generalize (cl.filterMap λq=>cl.lookup q.1)=cs at hcs hsc;have hc:∀ c'∈cs,∃ o v,s1.heap.get? c'=Ga o/\o.data=.cell v:=λc' hc=>by
   obtain⟨y,hy⟩:=hcs c' hc;obtain⟨v,o,h1,h2⟩:=I1.cell y c' (m1 y c' hy);exact⟨o,v,h1,h2⟩
  have nH:∀ c'∈cs,H2 c'=Gb:=λc' hc=>by
   obtain⟨y,hy⟩:=hcs c' hc;exact I1.freeC y c' (m1 y c' hy)
  have nF:∀ c'∈cs,F2 c'=Gb:=λc' hc=>fh2.free (nH c' hc);have above:∀ c'∈cs,X.s₀.heap.objs.size<=c':=λc' hc=>by
   obtain⟨y,hy⟩:=hcs c' hc;exact I1.ok.cab y c' (hfn y) (m1 y c' hy)
  have nfr:∀ c'∈cs,c'∉mL X.stack:=λc' hc hz=>by
   obtain⟨y,hy⟩:=hcs c' hc;rcases jx.mp (I1.stkSub c' hz) with z|z
   .exact I1.cne y c' (m1 y c' hy) z
   .obtain⟨_,o,ho,_⟩:=I1.ok.funs.mem z;exact absurd (jz (ju ho) (above c' hc)) (ko _)
  have sH:aG F2 (iM s1.heap F2 cs):=aG.of (pZ nF);have cP:rQ X.K (iM s1.heap F2 cs) fr ds cl cs:=by
   refine⟨λj y dj h1 h2=>?_,hsc,m2,FY hc,λx y c' h1 h2=>I1.ok.inj x y c' (m1 x c' h1) (m1 y c' h2),by rw[dl,hlen],hcs⟩;obtain⟨c',hc'⟩:=m2 y (jM h1);obtain⟨i,hi'⟩:∃ i,ix[j]?=Ga i:=⟨_,jh (by rw[hlen];exact(ji.mp h1).1)⟩;have hv:=dat j i dj hi' h2;obtain⟨u,e5,v2,e6,rv2⟩:=r2.sl i _ hv;subst e6;obtain⟨m,hm1,hm2⟩:=I1.loc;have kd:=outs _ (hfr y (jM h1)) rfl;obtain⟨u2,ru2,lk⟩:=hm2 i y v2 (hat j i y hi' h1) e5 (.inr kd);rcases lk with ⟨k1,_⟩|⟨_,c2,k2,o2,k3,k4⟩
   .have k1:X.env.scope.names.lookup y=Ga .local:=k1;rcases kd with kd|kd<;>(rw[kd] at k1;cases k1)
   .have:c2=c':=by have:=m1 y c' hc';rw[k2] at this;cases this;rfl
    subst this;exact⟨c2,o2,u2,v2,hc',hsc y c2 hc',by rw[yP (hsc y c2 hc'),k3];rfl,k4,ru2,rv2.mono sH⟩
  have hC:(BF X.K params body scope fr ds).C a (iM s1.heap F2 cs) (iM s1.heap H2 cs):=⟨name,qual,cl,pm,c,ctv,cs,o,vs',v,pZ nF _ _ x1,pZ nH _ _ x2,x3,x4,cP⟩;have hC2:=Vx (UC (P:=X.prog) (w:=X.w) (mg:=X.mg) (base:=X.base) (k:=kl) S hbind hbody) hC;rw[hφ] at hC2;have e0:oV X.prog X.w X.K X.mg X.base X.A X.stack s1 (iM s1.heap H2 cs):=by
   have e:=I1.env0;refine⟨e.frames,e.mod,λb o hb=>⟨(e.bs b o hb).1,?_⟩,e.bsz,e.funs,λb hb=>?_,ztG hc nH e.hok,e.bare⟩
   .rw[pW λz=>absurd (jz (ju hb) (j6 I1.ok.bsz (above b z))) (ko _)];exact(e.bs b o hb).2
   .rw[pW λz=>nfr b z hb];exact e.frf b hb
  have hl:us.length=ps.length:=by
   rw[<- rvs.length];exact(F φ).len (us'.take lp++.ref a::us'.drop lp) (iM s1.heap H2 cs) (λ_ _=>True) E0 ⟨iM s1.heap F2 cs,a,us',as,d,rfl,hC2,NY hc nH fh2,rv.mono sH,e3,λ_ _ _ _ _ _ _ _=>trivial⟩
  have hbs:=hb s1 us I1.kIn (by rw[j4];exact hl);rw[j4] at hbs;refine wpAny_call (codeAny_mono ((F φ).run X.A X.stack s1 (iM s1.heap H2 cs) ⟨us,[]⟩ us (us'.take lp++.ref a::us'.drop lp) (λv' H'=>ip H' cs/\Q v' (butC H' cs)) E0 hr e0 hbs rvs
   ⟨iM s1.heap F2 cs,a,us',as,d,rfl,hC2,NY hc nH fh2,rv.mono sH,e3,λv' H' F' g3 f3 fh3 n3 rv3=>?_⟩) λrr s' hq=>?_)
  .have mH:ip H' cs:=(FY hc).mono g3;have mF:ip F' cs:=(FY hc).mono f3;refine⟨mH,q v' (butC H' cs) (butC F' cs) (g2.trans (KM nH mH g3)) (f2.trans (KM nF mF f3)) (fh3.butC2 mH) (λb o h n=>?_) (rv3.butC mF)⟩;obtain⟨hb,h⟩:=Di h;cases z:F2 b with
   | none =>
    have:=n3 b o h (by rw[pW hb];exact z);rw[pW hb] at this;exact g2.free this
   | some u=>exact n2 b u z n
  .cases rr with
   | error e=>exact hq.elim
   | ok fl =>
    cases fl with
    | ret u =>
     obtain⟨v',H',os,bare,un,hok,rel,mH,qv⟩:=hq;refine⟨v',butC H' cs,I1.call' (ch:=[]) os ⟨λb o hb n hf hx=>?_,λb o hb n hf hx=>?_,λb o hb n hx=>?_,λb o hb hx=>un.there b o hb hx,λb xs hb=>?_,λb o x hb=>?_,λb ps hb=>?_⟩ (T3.HOk.butC mH hok) bare (λb z=>absurd z (by simp)),rel,qv⟩
     .by_cases z:b∈cs
      .have:=un.frzs b o (.own b) (by rw[yP z,hb];rfl);exact(hok b _ this).1
      .exact un.keep b o hb (by rw[pW z];exact n) hf hx
     .have z:b∉cs:=λz=>nfr b z hf;exact un.slot b o hb (by rw[pW z];exact n) hf hx
     .by_cases z:b∈cs
      .exact xa z
      .rw[lw z];exact un.free b o hb (by rw[pW z];exact n) hx
     .have z:b∉cs:=λz=>by rw[nH b z] at hb;cases hb
      rw[lw z];exact un.tups b xs (pZ nH b _ hb)
     .have z:b∉cs:=λz=>by rw[nH b z] at hb;cases hb
      rw[lw z];exact un.frzs b o x (pZ nH b _ hb)
     .have z:b∉cs:=λz=>by rw[nH b z] at hb;cases hb
      rw[lw z];exact un.tbls b ps (pZ nH b _ hb)
    | next=>exact False.elim hq
    | brk=>exact False.elim hq
    | cont=>exact False.elim hq
end
def sX (n:Nat)(Pt:Gj)(ds:List D):En:=(lR n ds).set (n-1) (.tab Pt)
def sq (np n:Nat)(Pt:Gj)(g:FS)(ds:List D):Option D:=if ds.length=np then fK (g (sX n Pt ds)) else Gb
def spT (K:ja)(Pt:Gj)(fm:List D->Option D):Sp:=λvs H Q _=>∃ (F:Hp) (ds:List D) (d:D),(∃ ps,H Pt=Ga (.tbl ps)/\fV H ps.toList)/\aG F H/\fg K F ds vs/\fm ds=Ga d/\∀ v H' F',aG H H'->aG F F'->aG F' H'->fR F F' H->fP K F' d v->Q v H'
theorem RS.putN {K:ja}{H0 F H:Hp}{ψ:En}{σ:St}(r:RS K H0 F H ψ σ){i:Nat}{s:Sl}{u:Option V}(hu:σ[i]?=Ga u)(q:mj K H0 F H s u)(o:gJ s=false):RS K H0 F H (ψ.set i s) σ:=by
 refine⟨r.h0,r.fh,λj t e=>?_,λj k a t1 t2 o1 o2 e1 e2 e3 e4=>?_⟩
 .by_cases h:i=j
  .subst h;by_cases hl:i<ψ.length
   .rw[jN hl] at e;cases e;exact⟨u,hu,q⟩
   .rw[kq (by simpa using hl)] at e;cases e
  .rw[jI h] at e;exact r.sl j t e
 .have f1:∀ (j:Nat) (t:Sl),gJ t=true->(ψ.set i s)[j]?=Ga t->ψ[j]?=Ga t:=λj t ow e=>by
   by_cases h:i=j
   .subst h;by_cases hl:i<ψ.length
    .rw[jN hl] at e;cases e;rw[o] at ow;cases ow
    .rw[kq (by simpa using hl)] at e;cases e
   .rw[jI h] at e;exact e
  exact r.ap j k a t1 t2 o1 o2 (f1 j t1 o1 e1) (f1 k t2 o2 e2) e3 e4
section
variable {P:Program}{w:World}{K:ja}{mg:Str->Option Gg}{base:Heap}{x qual:Str}{st:Stmt}{f:Gj}{fd:Gi}{N ps:List Str}{k:Nat}{g:FS}{Pt c0:Gj}
theorem Hf (F:nW K x qual st f fd)(S:fo N ps (eP st))(hN:0<N.length)(hpn:ps.length<=N.length)
  (hb:∀ cdv,fd.code=cdv->∀ (A:Around) (outer:List Env) (s:Gh) (H:Hp) (E:XK),gr k (A.deeper (envOfC qual (eP st) s.heap.objs.size f cdv))->lz (lX fL P w K mg base N qual (eP st) f cdv A outer s H E).nox (gE st) g) :
  fB P w K mg base fL (k+1) f fd ps (spT K Pt (sq ps.length N.length Pt g)):=by
 have hr0:∀ {ds:List D} {d:D},sq ps.length N.length Pt g ds=Ga d->ds.length=ps.length/\(g (sX N.length Pt ds)=Ga (.rt d)\/∃ xs,d=.list xs/\g (sX N.length Pt ds)=Ga (.ro xs)):=λ{ds d} h=>by
  unfold sq at h;split at h
  .rename_i z;refine⟨z,?_⟩;unfold fK at h;split at h
   .rename_i e;cases h;exact .inl e
   .rename_i e;cases h;exact .inr ⟨_,rfl,e⟩
   .cases h
  .cases h
 obtain⟨oc,od,kV,doc,pm,an,cdv,ct,osl,rfl,lk,hcd'⟩:=F.ex;have hb:=hb cdv rfl;refine Dg lk hcd' S (λvs H Q E h=>?_) λA outer s H vs Q E hr h=>?_
 .obtain⟨F0,ds,d,_,_,r,e,_⟩:=h;rw[<- r.length];exact(hr0 e).1
 .obtain⟨F0,ds,d,ht,hs,r,e,q⟩:=h;have rs:RS K H F0 H (sX N.length Pt ds) (L2.start N vs):=by
   refine(RS.start (N:=N) hs r).putN (u:=((L2.start N vs)[N.length-1]?).getD Gb) ?_ ht rfl;have hl:N.length-1<(L2.start N vs).length:=by
    unfold L2.start;rw[jC,jd,uV];have:=r.length;have:=(hr0 e).1;omega
   rw[jh hl];rfl
  rcases(hr0 e).2 with z|⟨xs,rfl,z⟩
  .exact⟨_,(hb A outer s H E hr).nox,H,F0,_,_,rs,z,λv H' F' g1 f1 fh1 n1 rv=>q v H' F' g1 f1 fh1 n1 rv⟩
  .refine⟨_,(hb A outer s H E hr).nox,H,F0,_,_,rs,z,λa ys H' F' g1 f1 fh1 n1 ha fa ha' rr=>?_⟩;have sF:aG F' (upd F' a (.lst ys)):=aG.new fa;refine q (.ref a) H' (upd F' a (.lst ys)) g1 (f1.trans sF) (aG.upL fh1 ha' trivial) (λb o h nb=>?_) (.lst (gp.of eZ) (rr.mono sF));by_cases hb:b=a
   .subst hb;exact ha
   .rw[eQ hb] at h;exact n1 b o h nb
theorem Tu (F:nW K x qual st f fd)(hcd:fd.code=.ref c0)(S:fo N ps (eP st))(hN:0<N.length)(hpn:ps.length<=N.length)
  (hb:∀ (A:Around) (outer:List Env) (s:Gh) (H:Hp) (E:XK),gr k (A.deeper (envOfC qual (eP st) s.heap.objs.size f (.ref c0)))->lz (lX fL P w K mg base N qual (eP st) f (.ref c0) A outer s H E).nox (gE st) g) :
  fB P w K mg base fL (k+1) f fd ps (spT K Pt (sq ps.length N.length Pt g)) :=
 Hf F S hN hpn λcdv e=>by
  rw[hcd] at e;subst e;exact hb
theorem PZ (F:nW K x qual st f fd)(S:fo N ps (eP st))(hN:0<N.length)(hpn:ps.length<=N.length)
  (hb:∀ (cdv:Gg) (A:Around) (outer:List Env) (s:Gh) (H:Hp) (E:XK),gr k (A.deeper (envOfC qual (eP st) s.heap.objs.size f cdv))->lz (lX fL P w K mg base N qual (eP st) f cdv A outer s H E).nox (gE st) g) :
  fB P w K mg base fL (k+1) f fd ps (spT K Pt (sq ps.length N.length Pt g)) :=
 Hf F S hN hpn λcdv _=>hb cdv
theorem VQ {mb:Str->Option Gg}{fa a:Gj}{sp:Sp}{s₁:Gh}{vs:List Gg}{ns:List Int}
  (KX:K.In s₁.heap) (hns:s₁.heap.Ns mainGlobals mg) (hb:s₁.heap.Ns builtinsNs mb) (hbb:∀ x:Str,x≠"__name__"->mb x=bootBuiltins x) (hlim:s₁.heap.NoLimit) (hg:s₁.gens=#[])
  (ha:s₁.heap.get? a=Ga { cls:=.type "list",data:=.seq vs.toArray }) (hi:IntsAre vs ns) (hl:ns.length<=sizeLine) (hr:gr k callerA)
  (hT:s₁.heap.get? Pt=Ga (Ja #[])) (hKT:K.lookup Pt=Gb) (hTc:isCodeTable s₁.heap Pt)
  (F:∀ base:Heap,K.In base->base.Ns mainGlobals mg->fB P w K mg base fL k fa fd [x] sp) (hbind:∀ (s:Gh) (u:Gg),BindsTo s fd ⟨[u],[]⟩ [(x,u)])
  (hsp:∀ H:Hp,H Pt=Ga (.tbl #[])->gp K H a (ns.map V.int)->sp [.ref a] H (λv _=>v=.bl true) λ_ _ _=>False) :
  codeAny (model P w) callerA (.call (.ref fa) ⟨[.ref a],[]⟩) (λr s'=>r=.ok (.ret (.bool true))/\OldK s₁.heap s'.heap/\s'.os=s₁.os/\AllBare s'.gens) s₁:=by
 have rv:=nE hi;have lenV:=hi.length;have aT:a≠Pt:=λz=>by rw[z,hT] at ha;cases ha
 have core:∀ H:Hp,H Pt=Ga (.tbl #[])->(∀ b,b≠Pt->H b=Gb\/∃ o xs,H b=Ga (.frz o (.lst xs)))->gp K H a (ns.map V.int)->HOk P w H s₁.heap->(∀ b,H b≠Gb->b=a\/b=Pt)->(H a≠Gb->K.lookup a=Gb) ->
   codeAny (model P w) callerA (.call (.ref fa) ⟨[.ref a],[]⟩) (λr s'=>r=.ok (.ret (.bool true))/\OldK s₁.heap s'.heap/\s'.os=s₁.os/\AllBare s'.gens) s₁:=by
  intro H hPt hO hS hok hA hK;have base_of:∀ {b:Gj} {o:Obj},s₁.heap.get? b=Ga o->H b=Gb->(mR s₁.heap H).get? b=Ga o:=λe n=>yb e n;have noA:∀ {b:Gj} {o:Obj} {es:Array DictEntry} {ep:Nat},s₁.heap.get? b=Ga o->o.data=.dict es ep->H b=Gb:=λ{b o es ep} e d=>by
   cases q:H b with
   | none=>rfl
   | some u =>
    rcases hA b (by rw[q];simp) with e'|e'
    .subst e';rw[ha] at e;cases e;have d':Data.seq vs.toArray _=Data.dict es ep:=d;cases d'
    .subst e';rw[hT] at e;cases e;cases d
  have nsK:∀ {b:Gj} {m:Str->Option Gg},s₁.heap.Ns b m->(mR s₁.heap H).Ns b m:=λ{b m} ⟨o,es,ep,e,d,r⟩=>⟨o,es,ep,base_of e (noA e d),d,r⟩;have hKb:K.In (mR s₁.heap H):=λb o e=>base_of (KX b o e) (by
   cases q:H b with
   | none=>rfl
   | some u =>
    rcases hA b (by rw[q];simp) with e'|e'
    .subst e';rw[hK (by rw[q];simp)] at e;cases e
    .subst e';rw[hKT] at e;cases e)
  have hM:Mod K mg (mR s₁.heap H):=⟨hKb,nsK hns,⟨mb,nsK hb,hbb⟩,let ⟨mc,h1,h2⟩:=hlim;⟨mc,nsK h1,h2⟩⟩;have e0:oV P w K mg (mR s₁.heap H) callerA [] s₁ H:=⟨rfl,hM,λb o e=>yL e,Ju (wO _ _),trivial,λb hb=>absurd (show b∈([]:List Gj) from hb) (by simp),hok,.of_eq hg⟩;refine codeAny_mono ((F _ hKb (nsK hns)).run callerA [] s₁ H ⟨[.ref a],[]⟩ [.ref a] [.ref a] _ _ hr e0 (hbind s₁ (.ref a)) (.cons rfl .nil) (hsp H hPt hS)) λr s' h=>?_;cases r with
  | error e=>exact h.elim
  | ok fl =>
   cases fl with
   | next=>exact False.elim h
   | brk=>exact False.elim h
   | cont=>exact False.elim h
   | ret u =>
    obtain⟨v,H',os,bare,un,hok',r',q⟩:=h;have q':v=.bl true:=q;subst q';obtain rfl:u=uM true:=r';have keep:∀ b o,b≠Pt->s₁.heap.get? b=Ga o->s'.heap.get? b=Ga o:=λb o hb e=>by
     cases q:H b with
     | none=>exact un.keep b o e q (by intro z;exact absurd (show b∈([]:List Gj) from z) (by simp)) (by simp)
     | some u =>
      rcases hO b hb with z|⟨ob,xs,z⟩
      .rw[q] at z;cases z
      .have z2:=un.frzs b ob _ z;obtain⟨e1,_⟩:=hok b _ z;obtain⟨e2,_⟩:=hok' b _ z2;rw[e] at e1;cases e1;exact e2
    obtain⟨more,hmore⟩:=un.tbls Pt _ hPt;have hT':s'.heap.get? Pt=Ga { cls:=.none,data:=.fields (#[]++more) }:=hok' Pt _ hmore;refine⟨rfl,⟨λb o e=>?_,λb o e=>?_⟩,os,bare⟩
    .by_cases hb:b=Pt
     .subst hb;rw[hT] at e;cases e;exact .inr (.inl ⟨hTc,rfl,#[],more,rfl,hT'⟩)
     .exact .inl (keep b o hb e)
    .by_cases hb:b=Pt
     .subst hb;exact⟨_,hT'⟩
     .exact⟨o,keep b o hb e⟩
 cases hk:K.lookup a with
 | some o =>
  have e:=KX a o hk;rw[ha] at e;cases e;refine core (λb=>if b=Pt then Ga (.tbl #[]) else Gb) (Ge rfl) (λb hb=>.inl (Gf hb)) (.inr ⟨_,vs.toArray,_,hk,rfl,rfl,rfl,by rw[jn,lenV];exact hl,by simpa using rv⟩) (λb u z=>?_) (λb z=>?_) λz=>absurd (Gf aT) z
  .by_cases hb:b=Pt
   .have z':=(Ge hb).symm.trans z;cases z';subst hb;exact hT
   .have z':=(Gf hb).symm.trans z;cases z'
  .by_cases hb:b=Pt
   .exact .inr hb
   .exact absurd (Gf hb) z
 | none =>
  refine core (λb=>if b=Pt then Ga (.tbl #[]) else if b=a then Ga (.frz { cls:=.type "list",data:=.seq vs.toArray } (.lst (ns.map V.int))) else Gb) (Ge rfl) (λb hb=>?_) (.inl (.inr ⟨{ cls:=.type "list",data:=.seq vs.toArray },(Gf aT).trans (Ge rfl)⟩)) (λb u z=>?_) (λb z=>?_) λ_=>hk
  .by_cases hba:b=a
   .exact .inr ⟨_,_,(Gf hb).trans (Ge hba)⟩
   .exact .inl ((Gf hb).trans (Gf hba))
  .by_cases hb:b=Pt
   .have z':=(Ge hb).symm.trans z;cases z';subst hb;exact hT
   .replace z:=(Gf hb).symm.trans z;by_cases hba:b=a
    .have z':=(Ge hba).symm.trans z;cases z';subst hba;exact⟨ha,by rw[jd];exact hl,vs,_,rv,ha⟩
    .have z':=(Gf hba).symm.trans z;cases z'
  .by_cases hb:b=Pt
   .exact .inr hb
   .by_cases hba:b=a
    .exact .inl hba
    .exact absurd ((Gf hb).trans (Gf hba)) z
end
theorem ztH {l:qL}{n k:Nat}{q:Program}{loose:List Str}{XP:(Str->Option Gg)->Heap->Prop}{YP:World->Heap->Prop}{d:DefRec}{K:Params->ja}{sp:ja->Sp}{x:Str}{Pt:Gj}
  (hn:l.most=Ga n) (hn2:n<=sizeLine) (hdf:d.params.defaults=[]) (hr:gr k callerA)
  (hY:∀ (w:World) (h:Heap),YP w h->(K w.params).In h/\h.get? Pt=Ga (Ja #[]))
  (hKT:∀ P,(K P).lookup Pt=Gb) (hTc:∀ (w:World) (h:Heap),(K w.params).In h->isCodeTable h Pt)
  (F:∀ (w:World) (mg:Str->Option Gg) (fa:Gj) (h:Heap),(K w.params).In h->h.Ns mainGlobals mg->mg d.name=Ga (.ref fa) ->
   ∃ fd:Gi,(∀ (s:Gh) (u:Gg),BindsTo s fd ⟨[u],[]⟩ [(x,u)]) /\
    ∀ base:Heap,(K w.params).In base->base.Ns mainGlobals mg->fB l.prog w (K w.params) mg base fL k fa fd [x] (sp (K w.params)))
  (hsp:∀ (K:ja) (H:Hp) (a:Gj) (ns:List Int),ns.length<=n->H Pt=Ga (.tbl #[])->gp K H a (ns.map V.int)->sp K [.ref a] H (λv _=>v=.bl true) λ_ _ _=>False) :
  Jg q loose XP YP l.row.toRowW d [] (λf vs=>Jo f vs):=by
 refine Att.attach_call hn hdf λw s₀ s₁ mg mb fa o pm cd doc a vs ns G Y ho hd hcd hmg hobj hints hlen hg=>?_;obtain⟨KX,hT⟩:=hY w _ Y;obtain⟨fd,hb,hF⟩:=F w mg fa _ KX G.T.g hmg;exact VQ KX G.T.g G.T.b G.T.builtins G.T.nolimit hg hobj hints (j6 hlen hn2) hr hT (hKT _) (hTc w _ KX) hF hb (λH hT hS=>hsp (K w.params) H a ns hlen hT hS)
theorem zw9 {K:ja}{Pt:Gj}{fm:List D->Option D}{H:Hp}{a:Gj}{ns:List Int}(hT:H Pt=Ga (.tbl #[]))(hS:gp K H a (ns.map V.int))(h:fm [.list (ns.map jc)]=Ga (.bool true)):spT K Pt fm [.ref a] H (λv _=>v=.bl true) λ_ _ _=>False :=
 ⟨H,[.list (ns.map jc)],.bool true,⟨#[],hT,trivial,λpos cv h=>by cases h⟩,.refl _,.cons (.lst hS (fg.ints ns)) .nil,h,λv H' F' _ _ _ _ r=>by cases r;rfl⟩
theorem zlM {K:ja}{h:Heap}{c P:Gj}(X:K.In h)(e:qA K c P=true):isCodeTable h P:=by
 obtain⟨o,vs,file,tf,flags,tg,inF,text,tt,e1,e2,e3,e4,_⟩:=Jf X e;exact⟨c,o,vs,e1,e2,e3,e4⟩
open Classical in
noncomputable def oJ (it:Nat)(P:Gj)(fm:List D->Option D)(g:FL):FV:=λψ=>if ψ[it]?=Ga (.tab P) then(g ψ).bind fm else Gb
section
variable {X:Cx}{k:Nat}{f:Gj}{fd:Gi}{ps:List Str}{x:Str}{p pos:Pos}{e:Expr}{es:List Expr}{g:FL}
theorem YH (it:Nat){P:Gj}{fm:List D->Option D}(F:fB X.prog X.w X.K X.mg X.base fL k f fd ps (spT X.K P fm))(hr:gr k X.A)(hm:X.mg x=Ga (.ref f))(hk:kG X.K (.ref f)=true)(hb:lS X.K fd ps [])(ha:PL X (e::es) g)(hg:Gl X x:=by rfl)
  (hdb:(x==("__debug__":Str))=false:=by decide) (he:starEach (e::es) X.env=(false,eval e X.env)::starEach es X.env:=by rfl) (hpl:(backTo pos (starEach es X.env)).any (·.1)=false:=by rfl) :
  PV X (.Call (.Name x p) (e::es) [] pos) (oJ it P fm g):=by
 refine gX (ph F hr hg hm hk hb .nil tB ha.pa hdb he hpl) λσ H Q=>?_;rintro⟨H0,F,ψ,d,r,e,q⟩;unfold oJ at e;split at e;rotate_left
 .cases e
 rename_i hi;obtain⟨ds,e1,e2⟩:=aj e;obtain⟨_,_,ht⟩:=r.sl it _ hi;obtain⟨ps0,ht,g0⟩:∃ ps,H0 P=Ga (.tbl ps)/\fV H0 ps.toList:=ht;obtain⟨qs,hP,hgd⟩:=r.h0 P _ ht;refine⟨H0,F,ψ,ds,r,e1,λvs H1 F1 g1 f1 fh1 n1 rv=>⟨F1,ds,d,?_,fh1,by rw[j4];exact rv,e2,λv H2 F2 g2 f2 fh2 n2 rv2=>?_⟩⟩
 .obtain⟨rs,h1,h2⟩:=g1 P _ hP;exact⟨rs,h1,h2 (hgd g0)⟩
 .exact q v H2 F2 (g1.trans g2) (f1.trans f2) fh2 (n1.trans n2 g1) rv2
end
structure gC (K:ja)(x:Str)(st:Stmt)(cd:Gg)(a:Gj)(fd:Gi):Prop where
 e:∃ (od an:Option Gj) (sl:Array (Option Gg)) (oc kV dc pm ct:Gg),ku K mainGlobals x=Ga (Ga (.ref a))/\K.lookup a=Ga ⟨oc,od,.func fd,sl⟩/\fd=kU x x (lj st) (gE st) (eP st) .none kV dc pm an cd ct/\vE K cd x=true/\kG K (.ref a)=true
theorem gO {K:ja}{mg:Str->Option Gg}{h:Heap}{x:Str}{st:Stmt}{ps:List Str}{f:Gj}{cd:Gg}{fd:Gi}(X:K.In h)(G:h.Ns mainGlobals mg)(w:gC K x st cd f fd)
  (hb:∀ (kV doc pm:Gg) (an:Option Gj) (cdv ct:Gg) (us:List Gg),us.length=ps.length->bindArgs (kU x x (lj st) (gE st) (eP st) .none kV doc pm an cdv ct) ⟨us,[]⟩=pure (ps.zip us):=by first|(exact λ_ _ _ _ _ _ us hl=>(match us,hl with|[_],_=>rfl))|(exact λ_ _ _ _ _ _ us hl=>(match us,hl with|[_,_],_=>rfl))|(exact λ_ _ _ _ _ _ us hl=>(match us,hl with|[_,_,_],_=>rfl))|(exact λ_ _ _ _ _ _ us hl=>(match us,hl with|[_,_,_,_],_=>rfl))|(exact λ_ _ _ _ _ _ us hl=>(match us,hl with|[_,_,_,_,_],_=>rfl))|(exact λ_ _ _ _ _ _ us hl=>(match us,hl with|[_,_,_,_,_,_],_=>rfl))|(exact λ_ _ _ _ _ _ us hl=>(match us,hl with|[_,_,_,_,_,_,_],_=>rfl))):Fn K mg x st ps f fd:=by
 obtain⟨od,an,sl,oc,kV,dc,pm,ct,e1,e2,rfl,e3,e4⟩:=w.e;exact Wb X G e1 e2 e3 e4 hb
theorem gC.code {K:ja}{x:Str}{st:Stmt}{f:Gj}{cd:Gg}{fd:Gi}(w:gC K x st cd f fd):fd.code=cd:=by
 obtain⟨od,an,sl,oc,kV,dc,pm,ct,e1,e2,rfl,e3,e4⟩:=w.e;rfl
theorem gC.bt {K:ja}{x:Str}{st:Stmt}{f:Gj}{cd:Gg}{fd:Gi}(w:gC K x st cd f fd){Q:Gi->Prop}(q:∀ (kV doc pm:Gg) (an:Option Gj) (cdv ct:Gg),Q (kU x x (lj st) (gE st) (eP st) .none kV doc pm an cdv ct)):Q fd:=by
 obtain⟨od,an,sl,oc,kV,dc,pm,ct,e1,e2,rfl,e3,e4⟩:=w.e;exact q _ _ _ _ _ _
def Kx (fs:List Gj)(h0:Heap)(H:Hp)(h h':Heap):Prop :=
 ∀ b o,h.get? b=Ga o->(h0.get? b≠Gb\/H b≠Gb\/∀ vs,o.data≠.fields vs)->∃ sl,h'.get? b=Ga { o with slots:=sl }/\(b∉fs->sl=o.slots)
section
variable {fs:List Gj}{h0 h h1 h2:Heap}{H:Hp}{y:Gj}{oy:Obj}{vs:Array Gg}
theorem Kx.trans (a:Kx fs h0 H h h1)(b:Kx fs h0 H h1 h2):Kx fs h0 H h h2:=λc o e q=>by
 obtain⟨sl,e1,n1⟩:=a c o e q;obtain⟨sl2,e2,n2⟩:=b c _ e1 q;exact⟨sl2,e2,λhc=>(n2 hc).trans (n1 hc)⟩
theorem Kx.of (k:∀ b o,h.get? b=Ga o->h1.get? b=Ga o):Kx fs h0 H h h1:=λc o e _=>⟨o.slots,k c o e,λ_=>rfl⟩
theorem Kx.slots (k:Heap.SlotsOnly fs h h1):Kx fs h0 H h h1:=λc o e _=>by
 by_cases hc:c∈fs
 .obtain⟨sl,z⟩:=k.2.2 c o e;exact⟨sl,z,λn=>absurd hc n⟩
 .exact⟨o.slots,(k.2.1 c hc).trans e,λ_=>rfl⟩
theorem Kx.upd (e:h.get? y=Ga oy)(d:oy.data=.fields vs)(n0:h0.get? y=Gb)(nH:H y=Gb)(f:Obj->Obj):Kx fs h0 H h (h.update y f):=λc o ec q=>by
 have ne:c≠y:=λz=>by
  subst z;rw[e] at ec;cases ec;rcases q with q|q|q
  .exact q n0
  .exact q nH
  .exact q vs d
 exact⟨o.slots,(kK _ _ (kT ne)).trans ec,λ_=>rfl⟩
theorem Kx.frames {base:Heap}{l:List Env}(k:Kx fs h0 H h h1)(hl:h.FunFrames base l):h1.FunFrames base l:=hl.of_keeps λb o e n=>by
 obtain⟨sl,z,_⟩:=k b o e (.inr (.inr n));exact⟨_,z,rfl⟩
end
def MU (h0:Heap)(H:Hp)(x:Gj)(cls fl:Gg)(h:Heap):Prop :=
 h0.get? x=Gb/\H x=Gb/\∃ oe vs T oT ts,h.get? x=Ga oe/\(oe.cls=cls/\oe.dict=Gb)/\oe.data=.fields vs/\vs[1]?=Ga (.ref T)/\T≠x/\h.get? T=Ga oT/\oT.data=.fields ts/\ts[3]?=Ga fl/\h0.get? T=Gb/\H T=Gb
section
variable {M:Model}{A:Around}{E:Gg->Gh->Prop}{s:Gh}{base h0:Heap}{H:Hp}{ψ:Env}{outer:List Env}{L x:Gj}{cls:Gg}{Q:Unit->Gh->Prop}
end
section
variable {X:Cx}{ω:List (Gj×Obj)}{σ:St}{H:Hp}{s:Gh}{x:Gj}{cls:Gg}
theorem Mn {o:Obj}{sl:Array (Option Gg)}(e:sl=o.slots):{ o with slots:=sl }=o:=by subst e;rfl
end
section
variable {P:Program}{w:World}{K:ja}{mg:Str->Option Gg}{base:Heap}{N:List Str}{qual:Str}{scope:Scope}{f:Gj}{cd:Gg}{A:Around}{outer:List Env}{s₀:Gh}{H₀:Hp}{E:XK}
end
abbrev FX:=En->Option Str
def Xw (mg:Str->Option Gg)(E:XK)(c:Str)(H0:Hp):Prop:=∃ C,mg c=Ga (.ref C)/\∀ H',aG H0 H'->E (.ref C) Gb H'
theorem Xw.dn {mg:Str->Option Gg}{E:XK}{c:Str}{H0 H1:Hp}(x:Xw mg E c H0)(s:aG H0 H1):Xw mg E c H1:=let ⟨C,a,b⟩:=x;⟨C,a,λH' q=>b H' (s.trans q)⟩
section
variable {X:Cx}{E:XK}{pos:Pos}
end
section
variable {X:Cx}{E:XK}{k:Nat}{f:Gj}{fd:Gi}{ps:List Str}{x:Str}{p pos:Pos}{e:Expr}{es:List Expr}{g:FL}
end
section
variable {P:Program}{w:World}{K:ja}{mg:Str->Option Gg}{base:Heap}{x qual:Str}{st:Stmt}{f:Gj}{fd:Gi}{N ps:List Str}{k:Nat}{kx:FX}
end
open PySem PySem.Spec PyProof.Rows PySem.W PySem.Calls
section
variable {prog:Program}{w:World}{A:Around}{E:Gg->Gh->Prop}{s:Gh}{K:Frag}{x D:Gj}{ox:Obj}
end
structure XS (X:Cx)(H:Hp)(s:Gh)(x C:Gj)(fl:Gg)(H':Hp)(s':Gh):Prop where
 os:s'.os=s.os
 bare:AllBare s'.gens
 un:Un (mL X.stack) [] H H' s.heap s'.heap
 hok:HOk X.prog X.w H' s'.heap
 ex:MU s.heap H' x (.ref C) fl s'.heap
theorem AK {α:Type}{o:Option α}{a:α}(e:o=Ga a):o≠Gb:=by rw[e];exact λz=>by cases z
theorem zBt {fs:List Gj}{H H':Hp}{h0 h h':Heap}(u:Un fs [] H H' h0 h)(k:Kx fs h0 H' h h'):Un fs [] H H' h0 h':=by
 refine⟨λb o e n hb hx=>?_,λb o e n hb hx=>?_,u.free,λb o e hx=>?_,u.tups,u.frzs,u.tbls⟩
 .obtain⟨sl,e2,q⟩:=k b o (u.keep b o e n hb hx) (.inl (AK e));rw[Mn (q hb)] at e2;exact e2
 .obtain⟨sl,e1⟩:=u.slot b o e n hb hx;obtain⟨sl2,e2,_⟩:=k b _ e1 (.inl (AK e));exact⟨sl2,e2⟩
 .obtain⟨o1,e1⟩:=u.there b o e hx;obtain⟨sl2,e2,_⟩:=k b _ e1 (.inl (AK e));exact⟨_,e2⟩
section
variable {X:Cx}{ω:List (Gj×Obj)}{σ:St}{H H':Hp}{s s':Gh}{x C:Gj}{fl fl':Gg}
theorem XS.inv (W:XS X H s x C fl H' s')(I:eS X ω σ H s):eS X ω σ H' s':=I.call' (ch:=[]) W.os W.un W.hok W.bare λb z=>absurd z (by simp)
theorem XS.kx (W:XS X H s x C fl H' s')(I:eS X ω σ H s){h':Heap}(k:Kx (mL X.stack) s.heap H' s'.heap h')(t:MU s.heap H' x (.ref C) fl' h'):XS X H s x C fl' H' { s' with heap:=h' }:=by
 have J:=W.inv I;refine⟨W.os,W.bare,zBt W.un k,λa o e=>?_,t⟩;have tr:∀ b u,H' b≠Gb->s'.heap.get? b=Ga u->h'.get? b=Ga u:=λb u hb e1=>by
  obtain⟨sl,e2,q⟩:=k b u e1 (.inr (.inl hb));rw[Mn (q λz=>hb (J.stkFree b z))] at e2;exact e2
 exact(W.hok a o e).stay (λb u hb e1=>tr b u (by
  rcases hb with rfl|hb
  .exact AK e
  .exact AK hb) e1) (λb z=>z) λb xs z=>z
theorem XS.lt (W:XS X H s x C fl H' s'):∀ b o,s.heap.get? b=Ga o->b<s'.heap.objs.size:=λb o e=>by
 obtain⟨o',e'⟩:=W.un.there b o e (by simp);exact ju e'
theorem XS.frz (W:XS X H s x C fl H' s'):∃ o,s'.heap.get? x=Ga o/\o.cls=.ref C/\o.dict=Gb/\JU o=true/\H' x=Gb/\Un (mL X.stack) [] H (upd H' x (.frz o (.own x))) s.heap s'.heap/\HOk X.prog X.w (upd H' x (.frz o (.own x))) s'.heap:=by
 obtain⟨n0,nH,oe,vs,T,oT,ts,he,⟨hc,hdn⟩,hd,h1,hT,eT,dT,h3,m0,mH⟩:=W.ex;have nn:∀ {b u},H' b=Ga u->b≠x:=λ{b u} e z=>by subst z;rw[nH] at e;cases e
 refine⟨oe,he,hc,hdn,by unfold JU;rw[hd],nH,⟨W.un.keep,W.un.slot,λb o e n hx=>?_,W.un.there,λb xs e=>?_,λb o u e=>?_,λb ps e=>?_⟩,λa o e=>?_⟩
 .rw[eQ (λz=>by subst z;rw[n0] at e;cases e)];exact W.un.free b o e n hx
 .rw[eQ (nn (W.un.tups b xs e))];exact W.un.tups b xs e
 .rw[eQ (nn (W.un.frzs b o u e))];exact W.un.frzs b o u e
 .obtain⟨m,q⟩:=W.un.tbls b ps e;exact⟨m,by rw[eQ (nn q)];exact q⟩
 .by_cases z:a=x
  .subst z;rw[eZ] at e;cases e;exact⟨he,⟨_,he⟩⟩
  .rw[eQ z] at e;exact(W.hok a o e).stay (λ_ _ _ q=>q) (λb q=>by rw[eQ (nn q)];exact q) λb xs q=>by rw[eQ (nn q)];exact q
end
def Wx (X:Cx)(ω:List (Gj×Obj))(σ:St)(H:Hp)(c:Str)(Ξ:Gg->Gh->Prop):Prop :=
 (∃ C,X.mg c=Ga (.ref C))/\∀ C s1 H1 x H' s',X.mg c=Ga (.ref C)->eS X ω σ H1 s1->XS X H1 s1 x C .none H' s'->aG H H'->Ξ (.ref x) s'
theorem Wx.dn {X:Cx}{ω:List (Gj×Obj)}{σ:St}{H H1:Hp}{c:Str}{Ξ:Gg->Gh->Prop}(w:Wx X ω σ H c Ξ)(g:aG H H1):Wx X ω σ H1 c Ξ:=⟨w.1,λC s1 H2 x H' s' a b d e=>w.2 C s1 H2 x H' s' a b d (g.trans e)⟩
section
variable {X:Cx}{k:Nat}{f:Gj}{fd:Gi}{ps:List Str}{x:Str}{p pos:Pos}{e:Expr}{es:List Expr}{g:FL}
end
section
variable {X:Cx}{ω:List (Gj×Obj)}{σ:St}{H H':Hp}{s s':Gh}{v:Gg}
end
section
variable {X:Cx}{pos Bp hp:Pos}{body suite:List Stmt}{b₀:Stmt}{B n:Str}{Ba:Gj}{i:Nat}{g:FS}{k:FX}{cs:List Str}{gs:Str->FS}
end
section
variable {X:Cx}{pos:Pos}
end
section
variable {P:Program}{w:World}{K:ja}{mg:Str->Option Gg}{base:Heap}{x qual:Str}{st:Stmt}{f:Gj}{N ps:List Str}
end
section
variable {prog:Program}{w:World}{A:Around}{E:Gg->Gh->Prop}
end
section
variable {X:Cx}{pos:Pos}
end
end T3
namespace HT
open PySem PySem.Spec PyProof.Rows
section
variable {prog:Program}{w:World}{A:Around}{E:Gg->Gh->Prop}{s:Gh}
end
end HT
namespace T3
open PySem PySem.Spec PyProof.Rows L2
section
variable {X:Cx}{pos p2:Pos}
end
end T3
namespace HT
open PySem PySem.Spec PyProof.Rows
section
variable {prog:Program}{w:World}{A:Around}{E:Gg->Gh->Prop}{s:Gh}
end
end HT
namespace T3
open PySem PySem.Spec PyProof.Rows L2
theorem fg.app {K:ja}{F:Hp}{es:List D}{ys:List V}(b:fg K F es ys):∀ {ds:List D} {xs:List V},fg K F ds xs->fg K F (ds++es) (xs++ys)
 | [],[],_=>b
 | d::ds,x::xs,a=>by
  cases a with
  | cons q r=>exact .cons q (fg.app b r)
section
variable {X:Cx}{pos p2:Pos}
end
def PC (t:SetTable)(es:Array (Int×Gg))(hh:Int)(x:Gg):Array (Int×Gg)×SetTable :=
 if (!(layNew t es hh x).2.2.1&&(layNew t es hh x).2.1.tooFull)=true then((relayAll (layNew t es hh x).2.1 (layNew t es hh x).1 (SetTable.grown (layNew t es hh x).1.size)).1,(relayAll (layNew t es hh x).2.1 (layNew t es hh x).1 (SetTable.grown (layNew t es hh x).1.size)).2.1)
 else((layNew t es hh x).1,(layNew t es hh x).2.1)
def SX (h:Heap)(a:Gj)(es:Array (Int×Gg))(t:SetTable):Prop:=∃ o ep,h.get? a=Ga o/\o.ExactSet/\o.data=.set es ep t
theorem SX.put {h:Heap}{a:Gj}{es es':Array (Int×Gg)}{t t':SetTable}(x:SX h a es t):SX (h.update a (Obj.putSet es' t')) a es' t':=by
 obtain⟨o,ep,ho,hex,hd⟩:=x;obtain⟨oc,odi,oda,osl⟩:=o;simp only at hd;subst hd;exact⟨_,_,kF _ ho rfl,hex,rfl⟩
section
variable {prog:Program}{w:World}{A:Around}{E:Gg->Gh->Prop}{s:Gh}
end
def Li (e:Int×Gg):Int×Gg:=(e.1,.int e.1 0)
def Zu (p:Array (Int×Gg)×SetTable)(k:Nat):Array (Int×Gg)×SetTable:=PC p.2 p.1 (k:Int) (.int (k:Int) 0)
def pB (led:Bool)(m:Nat):Array (Int×Gg)×SetTable:=((jb 5).filter λk=>m.testBit k).foldl Zu (#[],.fresh 0 0 led)
theorem US:∀ (led:Bool) (m:Fin 32),(pB led m.val).2.plain=true/\(pB led m.val).2.led=led/\(pB led m.val).2.fits (pB led m.val).1.size=true/\(pB led m.val).1.size<=5/\(pB led m.val).1.toList=(((jb 5).filter λk=>m.val.testBit k).map λ(k:Nat)=>((k:Int),v8 (k:Int) 0)):=by nofun
section
variable {prog:Program}{w:World}{A:Around}{E:Gg->Gh->Prop}{s:Gh}
def CS (h:Heap)(a:Gj)(led:Bool)(m:Nat):Prop:=∃ es,SX h a es (pB led m).2/\es.map Li=(pB led m).1/\∀ e∈es.toList,∃ tk,e.2=.int e.1 tk
theorem CS.fst {h:Heap}{a:Gj}{led:Bool}{m:Nat}(hm:m<32){es:Array (Int×Gg)}(e:es.map Li=(pB led m).1):es.toList.map (·.1)=((jb 5).filter λk=>m.testBit k).map λ(k:Nat)=>(k:Int):=by
 have f:=(US led ⟨m,hm⟩).2.2.2.2;have g:=congrArg (λx:Array (Int×Gg)=>x.toList.map (·.1)) e;dsimp only at f g;rw[f,JF,jT,jT] at g;exact g
end
section
variable {prog:Program}{w:World}{A:Around}{R:Result->Gh->Prop}{I:Gj}{fp wr:List Gj}{G:Array GenState->Array GenState->Prop}{n:Nat}{P:Nat->Gg->Prop}{St:Nat->Gh->Prop}
theorem CS.keep {h h':Heap}{a:Gj}{led:Bool}{m:Nat}(c:CS h a led m)(k:∀ o,h.get? a=Ga o->h'.get? a=Ga o):CS h' a led m:=by
 obtain⟨es,⟨o,ep,ho,hex,hd⟩,he,hv⟩:=c;exact⟨es,⟨o,ep,k o ho,hex,hd⟩,he,hv⟩
end
section
variable {prog:Program}{w:World}{A:Around}{E:Gg->Gh->Prop}{s:Gh}
end
section
variable {prog:Program}{w:World}{A:Around}{E:Gg->Gh->Prop}{s:Gh}
end
def BD:Nat->List (List Nat)
 | 0=>[[]]
 | n+1=>[]::((jb 5).flatMap λk=>((BD n).filter λl=>!l.contains k).map (k::·))
def Cj (l:List Nat):List Nat:=(jb 5).filter λk=>l.contains k
theorem Zz:(BD 5).all (λl=>(oi (l.map λ(k:Nat)=>jc (k:Int))).bind iZ==Ga ((Cj l).map λ(k:Nat)=>(k:Int)))=true:=by nofun
section
variable {prog:Program}{w:World}{A:Around}{E:Gg->Gh->Prop}{s:Gh}
end
section
variable {prog:Program}{w:World}{A:Around}{E:Gg->Gh->Prop}{s:Gh}
end
def Kd (l:List Nat):List D:=(Cj l).map λ(k:Nat)=>jc (k:Int)
theorem Oj:∀ (n:Nat) (l:List Nat),l.Nodup->(∀ x∈l,x<5)->l.length<=n->l∈BD n
 | 0,l,_,_,h=>by
  have:l=[]:=List.length_eq_zero_iff.mp (by omega);subst this;exact jp.mpr rfl
 | n+1,[],_,_,_=>jf
 | n+1,k::l,hd,h5,hl=>by
  have hd2:=jJ.mp hd;refine jj _ (JJ.mpr ⟨k,jm.mpr (h5 k jf),jq.mpr ⟨l,jA.mpr ⟨Oj n l hd2.2 (λx hx=>h5 x (jj _ hx)) (by simp at hl;omega),?_⟩,rfl⟩⟩);rw[ui,<- ua,kr];exact hd2.1
theorem tM {l:List Nat}(hd:l.Nodup)(h5:∀ x∈l,x<5)(hl:l.length<=5):oi (l.map λ(k:Nat)=>jc (k:Int))=Ga (Kd l):=by
 have:=jO.mp Zz l (Oj 5 l hd h5 hl);rw[beq_iff_eq] at this;obtain⟨rs,e1,e2⟩:=aj this;rw[e1,AV e2,jT];rfl
section
variable {X:Cx}{pos:Pos}
end
def mW (i:Nat):FL:=λψ=>match ψ[i]? with
 | some (.owk _ ds)=>Ga ds
 | _=>Gb
section
variable {X:Cx}{pos:Pos}
theorem GT (i:Nat){x:Str}(hN:X.N[i]?=Ga x:=by rfl)(hv:mq X.env.scope x:=by first|exact kw rfl|exact jZ (kw rfl)|exact jZ (jZ rfl))(hd:(x==("__debug__":Str))=false:=by decide)
  (hcd:(x==("__classdict__":Str))=false:=by decide):pN X (.Name x pos) (mW i):=by
 refine gX (iJ hN hv hd hcd) λσ H Q=>?_;rintro⟨H0,F,ψ,ds,r,e,q⟩;unfold mW at e;split at e;rotate_left
 .cases e
 rename_i a ds' z;cases e;obtain⟨u,e1,xs,e2,ha,fa,h0a,rr⟩:=r.sl i _ z;subst e2;exact⟨.ref a,e1,q a xs H F (.refl _) (.refl _) r.fh (.refl _ _) (gp.of ha) rr⟩
def nN (i:Nat)(fi f:FV):FS:=λψ=>(f ψ).bind λv=>match ψ[i]? with
 | some (.owk a ds)=>(fi ψ).bind λk=>(xL ds k v).bind λes=>Ga (.nx (ψ.set i (.owk a es)))
 | _=>Gb
theorem LF (i:Nat){x:Str}{ie e:Expr}{fi f:FV}{p p2:Pos}(hi:PV X ie fi)(h:PV X e f)(hN:X.N[i]?=Ga x:=by rfl)(hv:mq X.env.scope x:=by first|exact kw rfl|exact jZ (kw rfl)|exact jZ (jZ rfl))
  (hd:(x==("__debug__":Str))=false:=by decide) (hcd:(x==("__classdict__":Str))=false:=by decide)
  (hs:swapsWithSole [.Subscript (.Name x p) ie p2] e pos.line X.env=pure false:=by rfl) (hw:swappedStores [.Subscript (.Name x p) ie p2] e X.env=pure Gb:=by rfl)
  (h1:(assignEach [.Subscript (.Name x p) ie p2] X.env).map (·.2)=[assign (.Subscript (.Name x p) ie p2) X.env]:=by rfl)
  (ha:∀ v,assign (.Subscript (.Name x p) ie p2) X.env v=(do
   let ov <- holding [v] (eval (.Name x p) X.env)
   let iv <- holding [v,ov] (eval ie X.env)
   standAt p2
   holding [v,ov,iv] (setItem ov iv v)
   release [v,ov,iv] []):=by intro _;rfl) :
  lG X (.Assign [.Subscript (.Name x p) ie p2] e pos) (nN i fi f):=by
 refine oF (Br h (Bf (iJ (pos:=p) hN hv hd hcd) hi Bz ha) hs hw h1) λE σ H=>?_;rintro⟨H0,F,ψ,o,r,e,p⟩;obtain⟨dv,e1,e5⟩:=aj e;split at e5;rotate_left
 .cases e5
 rename_i a ds z;obtain⟨dk,e3,e7⟩:=aj e5;obtain⟨es,e4,e8⟩:=aj e7;cases e8;clear e e5 e7;refine⟨H0,F,ψ,dv,r,e1,λv H1 F1 g1 f1 fh1 n1 rv=>?_⟩;have r1:=r.grow g1 f1 fh1 n1;obtain⟨u,x3,xs,x4,ha1,fa,h0a,rr⟩:=r1.sl i _ z;subst x4;refine⟨.ref a,x3,H0,F1,ψ,dk,r1,e3,λw H2 F2 g2 f2 fh2 n2 rw_=>?_⟩;have r2:=r1.grow g2 f2 fh2 n2;cases rw_<;>first|(cases e4;done)|skip
 rename_i k;obtain⟨j,y1,y2⟩:=aj (show(ixN ds.length k).bind (λj=>Ga (ds.set j dv))=Ga es from e4);cases y2;refine⟨a,xs,k,j,rfl,rfl,g2 _ _ ha1,by rw[<- rr.length];exact y1,?_⟩;obtain⟨u2,x5,xs2,x6,ha2,fa2,h0a2,rr2⟩:=r2.sl i _ z;exact p σ _ F2 (f1.trans f2) ((n1.trans n2 g1).dn r.h0) (r2.chgG z rfl x3 ⟨_,rfl,eZ,fa2,h0a2,(rr.mono f2).set (rv.mono f2) j⟩)
def BL (kvs:List (Int×D))(k:Int):List (Int×D):=kvs.filter λkv=>decide (kv.1≠k)
theorem gb.pop {K:ja}{F:Hp}(k:Int):∀ {l:List (Int×D)} {m:List (Int×V)},gb K F l m->gb K F (BL l k) (m.filter λkv=>decide (kv.1≠k))
 | _,_,.nil=>.nil
 | (j,e)::_,(_,u)::_,.cons h t=>by
  unfold BL;rw[JK,JK];dsimp only;split
  .exact .cons h (t.pop k)
  .exact t.pop k
def abr (i:Nat)(f:FV):FS:=λψ=>(f ψ).bind λk=>match ψ[i]?,k with
 | some (.dki oa kvs),.int n=>Ga (.nx (ψ.set i (.dki oa (BL kvs n))))
 | _,_=>Gb
noncomputable def Ir (f:FV):FS:=λψ=>(f ψ).bind λd=>Ga (.rc d ψ)
theorem Yk {e:Expr}{f:FV}(h:PV X e f):lG X (.Return (Ga e) pos) (Ir f):=by
 refine oF (rz h) λE σ H=>?_;rintro⟨H0,F,ψ,o,r,e,p⟩;obtain⟨d,e1,e⟩:=aj e;cases e;exact⟨H0,F,ψ,d,r,e1,λv H' F' g f1 fh n rv=>p v σ H' F' f1 (n.dn r.h0) (r.grow g f1 fh n) rv⟩
end
def xG (K:ja)(N:List Str)(np:Nat)(g:FS):Sp:=λvs H Q _=>vs.length=np/\∃ H0 F ψ d env',RS K H0 F H ψ (L2.start N vs)/\g ψ=Ga (.rc d env')/\∀ v σ' H' F',aG F F'->fR F F' H0->RS K H0 F' H' env' σ'->fP K F' d v->Q v H'
section
variable {P:Program}{w:World}{K:ja}{mg:Str->Option Gg}{base:Heap}{x qual:Str}{st:Stmt}{f:Gj}{fd:Gi}{N ps:List Str}{k:Nat}{g:FS}
theorem Rh (F:nW K x qual st f fd)(S:fo N ps (eP st))
  (hb:∀ (cdv:Gg) (A:Around) (outer:List Env) (s:Gh) (H:Hp) (E:XK),gr k (A.deeper (envOfC qual (eP st) s.heap.objs.size f cdv))->lz (lX fL P w K mg base N qual (eP st) f cdv A outer s H E).nox (gE st) g) :
  fB P w K mg base fL (k+1) f fd ps (xG K N ps.length g):=by
 refine F.ok S (λvs H Q E h=>h.1) (λcdv A outer s H vs Q E hr h=>?_);obtain⟨_,H0,F0,ψ,d,env',r,e,q⟩:=h;exact⟨_,hb cdv A outer s H E hr,H0,F0,ψ,_,r,e,q⟩
def IG (g:FS):FS:=λψ=>(g ψ).bind λo=>match o with
 | .nx ψ=>Ga (.rc .none ψ)
 | o=>Ga o
theorem QD (F:nW K x qual st f fd)(S:fo N ps (eP st))
  (hb:∀ (cdv:Gg) (A:Around) (outer:List Env) (s:Gh) (H:Hp) (E:XK),gr k (A.deeper (envOfC qual (eP st) s.heap.objs.size f cdv))->lz (lX fL P w K mg base N qual (eP st) f cdv A outer s H E).nox (gE st) g) :
  fB P w K mg base fL (k+1) f fd ps (xG K N ps.length (IG g)):=by
 refine F.ok S (λvs H Q E h=>h.1) (λcdv A outer s H vs Q E hr h=>?_);obtain⟨_,H0,F0,ψ,d,env',r,e,q⟩:=h;obtain⟨o,e1,e2⟩:=aj e;refine⟨_,hb cdv A outer s H E hr,H0,F0,ψ,o,r,e1,?_⟩;cases o<;>first|(cases e2;done)|skip
 .cases e2;exact λσ' H' F' f n r'=>q .non σ' H' F' f n r' .non
 .cases e2;exact q
end
abbrev Arg:=D ⊕ Nat
inductive mJ (K:ja)(F:Hp)(σ:St):List Arg->List V->Prop where
 | nil:mJ K F σ [] []
 | val {d:D} {v:V} {as:List Arg} {vs:List V} (h:fP K F d v) (t:mJ K F σ as vs):mJ K F σ (.inl d::as) (v::vs)
 | own {i:Nat} {v:V} {as:List Arg} {vs:List V} (h:σ[i]?=Ga (Ga v)) (t:mJ K F σ as vs):mJ K F σ (.inr i::as) (v::vs)
theorem mJ.mono {K:ja}{F F':Hp}{σ:St}(f:aG F F'):∀ {as:List Arg} {vs:List V},mJ K F σ as vs->mJ K F' σ as vs
 | _,_,.nil=>.nil
 | _,_,.val h t=>.val (h.mono f) (t.mono f)
 | _,_,.own h t=>.own h (t.mono f)
theorem mJ.length {K:ja}{F:Hp}{σ:St}:∀ {as:List Arg} {vs:List V},mJ K F σ as vs->as.length=vs.length
 | _,_,.nil=>rfl
 | _,_,.val _ t=>congrArg uv t.length
 | _,_,.own _ t=>congrArg uv t.length
theorem mJ.get {K:ja}{F:Hp}{σ:St}:∀ {as:List Arg} {vs:List V} {p:Nat} {a:Arg},mJ K F σ as vs->as[p]?=Ga a->∃ v,vs[p]?=Ga v/\(∀ d,a=.inl d->fP K F d v)/\∀ i,a=.inr i->σ[i]?=Ga (Ga v)
 | _,_,p,a,.nil,e=>by simp at e
 | _,_,0,a,.val h t,e=>by cases e;exact⟨_,rfl,λd z=>by cases z;exact h,λi z=>by cases z⟩
 | _,_,0,a,.own h t,e=>by cases e;exact⟨_,rfl,λd z=>(by cases z),λi z=>(by cases z;exact h)⟩
 | _,_,p+1,a,.val h t,e=>t.get (p:=p) e
 | _,_,p+1,a,.own h t,e=>t.get (p:=p) e
abbrev FA:=En->Option (List Arg)
def zw:FA:=λ_=>Ga []
def zx (f:FV)(g:FA):FA:=λψ=>(f ψ).bind λd=>(g ψ).bind λl=>Ga (.inl d::l)
def zL (i:Nat)(g:FA):FA:=λψ=>(g ψ).bind λl=>Ga (.inr i::l)
def tLC (K:ja)(g:FA):TA:=λσ H Q=>∃ (H0 F:Hp) (ψ:En) (as:List Arg),RS K H0 F H ψ σ/\g ψ=Ga as/\(∀ i,Sum.inr i∈as->∃ s,ψ[i]?=Ga s/\gJ s=true)/\∀ vs H' F',aG H H'->aG F F'->aG F' H'->fR F F' H->mJ K F' σ as vs->Q vs H'
def pK (ψ:En)(t:Nat->Gj):Arg->Option Sl
 | .inl d=>Ga (.val d)
 | .inr i=>match ψ[i]? with
  | some (.own ds)=>Ga (.owk (t i) ds)
  | some (.owk _ ds)=>Ga (.owk (t i) ds)
  | some (.dki _ kvs)=>Ga (.dki (Ga (t i)) kvs)
  | _=>Gb
def nw (ψ:En)(t:Nat->Gj):List Arg->Option En
 | []=>Ga []
 | a::r=>(pK ψ t a).bind λs=>(nw ψ t r).bind λl=>Ga (s::l)
def pe (s0:Sl)(a:Gj):Sl->Option Sl
 | .owk b ds=>if b=a then(match s0 with
  | .own _=>Ga (.own ds)
  | .owk c _=>Ga (.owk c ds)
  | _=>Gb) else Gb
 | .dki (Ga b) kvs=>if b=a then(match s0 with
  | .dki oa _=>Ga (.dki oa kvs)
  | _=>Gb) else Gb
 | _=>Gb
def oj (env1:En)(t:Nat->Gj):Nat->List Arg->En->Option En
 | _,[],ψ=>Ga ψ
 | p,.inl _::r,ψ=>oj env1 t (p+1) r ψ
 | p,.inr i::r,ψ=>(ψ[i]?).bind λs0=>(env1[p]?).bind λs1=>(pe s0 (t i) s1).bind λs2=>oj env1 t (p+1) r (ψ.set i s2)
def gN:List Arg->List Nat
 | []=>[]
 | .inl _::r=>gN r
 | .inr i::r=>i::gN r
def sC (n:Nat)(g:FS)(as:List Arg)(ψ:En)(t:Nat->Gj):Option (D×En):=(nw ψ t as).bind λl=>(g (l++jP (n-l.length) .no)).bind λo=>match o with
 | .rc d env1=>(oj env1 t 0 as ψ).bind λenv2=>Ga (d,env2)
 | _=>Gb
open Classical in
noncomputable def mG (n:Nat)(g:FS)(as:List Arg)(ψ:En):Option (D×En):=if h:∃ r,∀ t,sC n g as ψ t=Ga r then Ga (u8 h) else Gb
theorem FR {n:Nat}{g:FS}{as:List Arg}{ψ:En}{r:D×En}(h:∀ t,sC n g as ψ t=Ga r):mG n g as ψ=Ga r:=by
 have e:∃ r,∀ t,sC n g as ψ t=Ga r:=⟨r,h⟩;unfold mG;rw[dif_pos e];have z:=jU e λ_=>0;rw[h] at z;exact z.symm
theorem ztI {n:Nat}{g:FS}{as:List Arg}{ψ:En}{r:D×En}(h:mG n g as ψ=Ga r)(t:Nat->Gj):sC n g as ψ t=Ga r:=by
 unfold mG at h;split at h
 .rename_i e;cases h;exact jU e t
 .cases h
open Classical in
noncomputable def ml (j n:Nat)(g:FS)(a:FA):FS:=λψ=>(a ψ).bind λas=>if (gN as).Nodup/\∀ i∈gN as,∃ s,ψ[i]?=Ga s/\gJ s=true then(mG n g as ψ).bind λr=>Ga (.nx (r.2.set j (.val r.1))) else Gb
theorem sU {i:Nat}:∀ {as:List Arg},i∈gN as↔Sum.inr i∈as
 | []=>by simp[gN]
 | .inl d::r=>by rw[show gN (.inl d::r)=gN r from rfl,sU];simp
 | .inr j::r=>by rw[show gN (.inr j::r)=j::gN r from rfl,jx,sU];simp
theorem Fo {i:Nat}:∀ {as:List Arg},(gN as).Nodup->∀ {p q:Nat},as[p]?=Ga (.inr i)->as[q]?=Ga (.inr i)->p=q
 | [],_,p,q,h,_=>by simp at h
 | .inl d::r,nd,0,q,h,_=>by cases h
 | .inl d::r,nd,p+1,0,_,h=>by cases h
 | .inl d::r,nd,p+1,q+1,h1,h2=>congrArg uv (Fo (p:=p) (q:=q) (as:=r) nd h1 h2)
 | .inr j::r,nd,0,0,_,_=>rfl
 | .inr j::r,nd,0,q+1,h1,h2=>by
  cases h1;exact absurd (sU.mpr (jM (show r[q]?=_ from h2))) (jJ.mp nd).1
 | .inr j::r,nd,p+1,0,h1,h2=>by
  cases h2;exact absurd (sU.mpr (jM (show r[p]?=_ from h1))) (jJ.mp nd).1
 | .inr j::r,nd,p+1,q+1,h1,h2=>congrArg uv (Fo (p:=p) (q:=q) (as:=r) (jJ.mp nd).2 h1 h2)
theorem LJ {ψ:En}{t:Nat->Gj}:∀ {as:List Arg} {l:En},nw ψ t as=Ga l->l.length=as.length
 | [],l,h=>by cases h;rfl
 | a::r,l,h=>by
  obtain⟨s,_,h⟩:=aj h;obtain⟨l',e,h⟩:=aj h;cases h;exact congrArg uv (LJ e)
theorem KU {ψ:En}{t:Nat->Gj}:∀ {as:List Arg} {l:En} {p:Nat} {s:Sl},nw ψ t as=Ga l->l[p]?=Ga s->∃ a,as[p]?=Ga a/\pK ψ t a=Ga s
 | [],l,p,s,h,e=>by cases h;simp at e
 | a::r,l,p,s,h,e=>by
  obtain⟨s0,e0,h⟩:=aj h;obtain⟨l',e1,h⟩:=aj h;cases h;cases p with
  | zero=>cases e;exact⟨a,rfl,e0⟩
  | succ p=>exact KU (p:=p) e1 e
theorem DJ {env1:En}{t:Nat->Gj}:∀ {as:List Arg} {p:Nat} {ψ env2:En},oj env1 t p as ψ=Ga env2->(gN as).Nodup->∀ (i:Nat) (s:Sl),env2[i]?=Ga s->(ψ[i]?=Ga s/\i∉gN as)\/∃ q s0 s1,as[q]?=Ga (.inr i)/\ψ[i]?=Ga s0/\env1[p+q]?=Ga s1/\pe s0 (t i) s1=Ga s
 | [],p,ψ,env2,h,_,i,s,e=>by cases h;exact .inl ⟨e,λz=>by cases z⟩
 | .inl d::r,p,ψ,env2,h,nd,i,s,e=>by
  rcases DJ (as:=r) h nd i s e with z|⟨q,s0,s1,z1,z2,z3,z4⟩
  .exact .inl z
  .exact .inr ⟨q+1,s0,s1,z1,z2,by rw[show p+(q+1)=p+1+q by omega];exact z3,z4⟩
 | .inr j::r,p,ψ,env2,h,nd,i,s,e=>by
  obtain⟨s0,h0,h⟩:=aj h;obtain⟨s1,h1,h⟩:=aj h;obtain⟨s2,h2,h⟩:=aj h;have nd':=jJ.mp nd;have hl:j<ψ.length:=(ji.mp h0).1;rcases DJ (as:=r) h nd'.2 i s e with ⟨z1,z2⟩|⟨q,u0,u1,z1,z2,z3,z4⟩
  .by_cases c:j=i
   .subst c;rw[jN hl] at z1;cases z1;exact .inr ⟨0,s0,s1,rfl,h0,h1,h2⟩
   .rw[jI c] at z1;exact .inl ⟨z1,λz=>(jx.mp z).elim (λz=>c z.symm) z2⟩
  .have c:j≠i:=λz=>nd'.1 (by rw[z];exact sU.mpr (jM z1));rw[jI c] at z2;exact .inr ⟨q+1,u0,u1,z1,z2,by rw[show p+(q+1)=p+1+q by omega];exact z3,z4⟩
theorem Et {env1:En}{t:Nat->Gj}:∀ {as:List Arg} {p:Nat} {ψ env2:En},oj env1 t p as ψ=Ga env2->(gN as).Nodup->∀ i∈gN as,∃ q s0 s1 s,as[q]?=Ga (.inr i)/\ψ[i]?=Ga s0/\env1[p+q]?=Ga s1/\pe s0 (t i) s1=Ga s
 | [],p,ψ,env2,h,_,i,e=>by cases e
 | .inl d::r,p,ψ,env2,h,nd,i,e=>by
  obtain⟨q,s0,s1,s,z1,z2,z3,z4⟩:=Et (as:=r) h nd i e;exact⟨q+1,s0,s1,s,z1,z2,by rw[show p+(q+1)=p+1+q by omega];exact z3,z4⟩
 | .inr j::r,p,ψ,env2,h,nd,i,e=>by
  obtain⟨s0,h0,h⟩:=aj h;obtain⟨s1,h1,h⟩:=aj h;obtain⟨s2,h2,h⟩:=aj h;have nd':=jJ.mp nd;rcases jx.mp e with rfl|e
  .exact⟨0,s0,s1,s2,rfl,h0,h1,h2⟩
  .obtain⟨q,s0,s1,s,z1,z2,z3,z4⟩:=Et (as:=r) h nd'.2 i e;have c:j≠i:=λz=>nd'.1 (by rw[z];exact e);rw[jI c] at z2;exact⟨q+1,s0,s1,s,z1,z2,by rw[show p+(q+1)=p+1+q by omega];exact z3,z4⟩
def pP (H:Hp)(P:Gj->Bool):Hp:=λb=>if P b=true then Gb else H b
theorem ZR {H:Hp}{P:Gj->Bool}:aG (pP H P) H:=aG.of λb o h=>by
 unfold pP at h;split at h
 .cases h
 .exact h
theorem Ij {H:Hp}{P:Gj->Bool}{b:Gj}(h:P b=false):pP H P b=H b:=Gf (by rw[h];decide)
theorem Ws {H:Hp}{P:Gj->Bool}{b:Gj}(h:P b=true):pP H P b=Gb:=Ge h
theorem XN {H:Hp}{P:Gj->Bool}(m:∀ b o u,P b=true->H b≠Ga (.frz o u)){l:List Gg}(g:fV H l):fV (pP H P) l :=
 ⟨g.1,λpos cv e=>by
  obtain⟨c,o,vs,v,e1,e2,e3⟩:=g.2 pos cv e;refine⟨c,o,vs,v,e1,?_,e3⟩;cases q:P c with
  | true=>exact absurd e2 (m _ _ _ q)
  | false=>rw[Ij q];exact e2⟩
theorem RS.chgs {K:ja}{H0 F F' H H':Hp}{ψ env':En}{σ:St}(r:RS K H0 F H ψ σ)(P:Gj->Bool)(p0:∀ b,P b=true->∃ (i:Nat) (s:Sl),ψ[i]?=Ga s/\gJ s=true/\σ[i]?=Ga (Ga (V.ref b)))(hb:∀ b o,P b=false->H b=Ga o->Gr H o H' (H' b))(f:aG F F')(fh:aG F' H')(n:fR F F' H)
  (hs:∀ (i:Nat) (s:Sl),env'[i]?=Ga s->(ψ[i]?=Ga s/\∀ b,gJ s=true->σ[i]?=Ga (Ga (V.ref b))->P b=false)\/∃ s0,ψ[i]?=Ga s0/\gJ s0=true/\∃ u,σ[i]?=Ga u/\mj K H0 F' H' s u):RS K H0 F' H' env' σ:=by
 have own:∀ b,P b=true->∃ ob,H b=Ga ob/\Ow ob/\H0 b=Gb:=λb hp=>by
  obtain⟨i,s,e1,o,e2⟩:=p0 b hp;obtain⟨u,e3,q⟩:=r.sl i s e1;obtain⟨a,ob,z,h1,h2,h3,h4⟩:=q.at o;rw[e2] at e3;cases e3;cases z;exact⟨ob,h1,h4,h3⟩
 have nf:∀ b,P b=true->∀ x u,H b≠Ga (.frz x u):=λb hp=>by
  obtain⟨ob,h1,h2,_⟩:=own b hp;exact h2.nf h1
 refine⟨λb o h=>?_,fh,λi s e=>?_,λj k a s t o1 o2 e1 e2 e3 e4=>?_⟩
 .have pb:P b=false:=by
   cases q:P b with
   | false=>rfl
   | true=>obtain⟨_,_,_,z⟩:=own b q;rw[h] at z;cases z
  have g:=r.h0 b o h;cases o<;>first
   | exact hb b _ pb g
   | (obtain⟨qs,e,k⟩:=g
      obtain⟨rs,e2,k2⟩:=hb b _ pb e;exact⟨rs,e2,λz=>k2 (k z)⟩)
 .rcases hs i s e with ⟨e1,np⟩|⟨s0,_,_,u,e2,q⟩
  .obtain⟨u,e2,q⟩:=r.sl i s e1;refine⟨u,e2,q.to f (λb x h=>?_) λb ob ow z hb' fb ow2=>⟨?_,?_⟩⟩
   .cases pq:P b with
    | true=>exact absurd h (nf b pq _ _)
    | false=>exact hb b _ pq h
   .subst z;have g:=hb b ob (np b ow e2) hb';cases ob<;>first|exact g|exact ow2.elim
   .cases z2:F' b with
    | none=>rfl
    | some o=>have:=n b o z2 fb;rw[hb'] at this;cases this
  .exact⟨u,e2,q⟩
 .have f1:∀ (j:Nat) (s:Sl),gJ s=true->env'[j]?=Ga s->∃ s',gJ s'=true/\ψ[j]?=Ga s':=λj s o h=>by
   rcases hs j s h with ⟨z,_⟩|⟨s0,z,o',_⟩
   .exact⟨_,o,z⟩
   .exact⟨_,o',z⟩
  obtain⟨_,o1,e1⟩:=f1 j _ o1 e1;obtain⟨_,o2,e2⟩:=f1 k _ o2 e2;exact r.ap j k a _ _ o1 o2 e1 e2 e3 e4
section
variable {X:Cx}{pos:Pos}
abbrev xF (X:Cx)(es:List Expr)(g:FA):Prop:=PA X es (tLC X.K g)
theorem MO:xF X [] zw:=by
 refine rG iL λσ H Q=>?_;rintro⟨H0,F,ψ,as,r,e,_,q⟩;cases e;exact q [] H F (.refl _) (.refl _) r.fh (.refl _ _) .nil
theorem NF {e:Expr}{es:List Expr}{f:FV}{g:FA}(ha:PV X e f)(hr:xF X es g)(hs:starEach (e::es) X.env=(false,eval e X.env)::starEach es X.env:=by rfl):xF X (e::es) (zx f g):=by
 refine rG (gA ha hr hs) λσ H Q=>?_;rintro⟨H0,F,ψ,as,r,e,ow,q⟩;obtain⟨d,e1,e⟩:=aj e;obtain⟨l,e2,e⟩:=aj e;cases e;refine⟨H0,F,ψ,d,r,e1,λv H1 F1 g1 f1 fh1 n1 rv=>⟨H0,F1,ψ,l,r.grow g1 f1 fh1 n1,e2,λi hi=>ow i (jj _ hi),λvs H2 F2 g2 f2 fh2 n2 rvs=>?_⟩⟩;exact q (v::vs) H2 F2 (g1.trans g2) (f1.trans f2) fh2 (n1.trans n2 g1) (.val (rv.mono f2) rvs)
theorem Lj (i:Nat){x:Str}{p:Pos}{es:List Expr}{g:FA}(hr:xF X es g)(hN:X.N[i]?=Ga x:=by rfl)(hv:mq X.env.scope x:=by first|exact kw rfl|exact jZ (kw rfl)|exact jZ (jZ rfl))(hd:(x==("__debug__":Str))=false:=by decide)
  (hcd:(x==("__classdict__":Str))=false:=by decide) (hs:starEach (.Name x p::es) X.env=(false,eval (.Name x p) X.env)::starEach es X.env:=by rfl):xF X (.Name x p::es) (zL i g):=by
 refine rG (gA (iJ hN hv hd hcd) hr hs) λσ H Q=>?_;rintro⟨H0,F,ψ,as,r,e,ow,q⟩;obtain⟨l,e2,e⟩:=aj e;cases e;obtain⟨s,es,os⟩:=ow i jf;obtain⟨u,e1,z⟩:=r.sl i s es;obtain⟨a,ob,rfl,_⟩:=z.at os;exact⟨.ref a,e1,H0,F,ψ,l,r,e2,λi hi=>ow i (jj _ hi),λvs H2 F2 g2 f2 fh2 n2 rvs=>q (.ref a::vs) H2 F2 g2 f2 fh2 n2 (.own e1 rvs)⟩
variable {k:Nat}{f:Gj}{fd:Gi}{ps:List Str}{x y:Str}{p pc pos':Pos}{e:Expr}{es:List Expr}{ga:FA}{N:List Str}{g:FS}
abbrev mQ:=En->Option (List Arg×En)
def YS (K:ja)(g:mQ):TA:=λσ H Q=>∃ (H0 F:Hp) (ψ:En) (as:List Arg) (env1:En),RS K H0 F H ψ σ/\g ψ=Ga (as,env1)/\(∀ i,Sum.inr i∈as->∃ s,env1[i]?=Ga s/\gJ s=true)/\∀ vs H' F',aG F F'->fR F F' H0->RS K H0 F' H' env1 σ->mJ K F' σ as vs->Q vs H'
abbrev sM (X:Cx)(es:List Expr)(g:mQ):Prop:=PA X es (YS X.K g)
def Ad (g:FA):mQ:=λψ=>(g ψ).bind λas=>Ga (as,ψ)
theorem Xf {es:List Expr}{g:FA}(h:xF X es g):sM X es (Ad g):=by
 refine rG h λσ H Q=>?_;rintro⟨H0,F,ψ,as,env1,r,e,ow,q⟩;obtain⟨l,e1,e⟩:=aj e;cases e;exact⟨H0,F,ψ,as,r,e1,ow,λvs H' F' g f fh n rv=>q vs H' F' f (n.dn r.h0) (r.grow g f fh n) rv⟩
abbrev FD:=En->Option (D×En)
open Classical in
noncomputable def mv (n:Nat)(g:FS)(a:mQ):FD:=λψ=>(a ψ).bind λp=>if (gN p.1).Nodup/\∀ i∈gN p.1,∃ s,p.2[i]?=Ga s/\gJ s=true then mG n g p.1 p.2 else Gb
def tD (K:ja)(f:FD):TE:=λσ H Q=>∃ H0 F ψ d env2,RS K H0 F H ψ σ/\f ψ=Ga (d,env2)/\∀ v H' F',aG F F'->fR F F' H0->RS K H0 F' H' env2 σ->fP K F' d v->Q v H'
abbrev PD (X:Cx)(e:Expr)(f:FD):Prop:=PE X e (tD X.K f)
theorem HL {gd:mQ}(F:fB X.prog X.w X.K X.mg X.base fL k f fd ps (xG X.K N ps.length g))(hr:gr k X.A)(hm:X.mg x=Ga (.ref f))(hk:kG X.K (.ref f)=true)(hb:lS X.K fd ps [])(ha:sM X (e::es) gd)(hlen:∀ ψ as env1,gd ψ=Ga (as,env1)->as.length=ps.length)(hpn:ps.length<=N.length)(hg:Gl X x:=by rfl)
  (hdb:(x==("__debug__":Str))=false:=by decide) (he:starEach (e::es) X.env=(false,eval e X.env)::starEach es X.env:=by rfl) (hpl:(backTo pc (starEach es X.env)).any (·.1)=false:=by rfl) :
  PD X (.Call (.Name x p) (e::es) [] pc) (mv N.length g gd):=by
 refine gX (ph F hr hg hm hk hb .nil tB ha hdb he hpl) λσ H Q=>?_;rintro⟨H0,F,env0,d,env2,r,e,p⟩;obtain⟨⟨as,ψ⟩,e1,e⟩:=aj e;dsimp only at e;split at e;rotate_left
 .cases e
 rename_i ndo;obtain⟨nd,ow⟩:=ndo;have e2:=e;refine⟨H0,F,env0,as,ψ,r,e1,λi hi=>ow i (sU.mpr hi),λvs H1 F1 f1 n1 r1 rvs=>?_⟩;have fh1:=r1.fh;show xG X.K N ps.length g (vs++[]) H1 _ _;rw[j4]
 let t:Nat->Gj:=λi=>match σ[i]? with
  | some (Ga (.ref a))=>a
  | _=>0
 have ht:∀ i a,σ[i]?=Ga (Ga (.ref a))->t i=a:=λi a z=>by show(match σ[i]? with|some (Ga (.ref a))=>a|_=>0)=a;rw[z]
 have hrun:=ztI e2 t;obtain⟨l,e3,hrun⟩:=aj hrun;obtain⟨o1,e4,hrun⟩:=aj hrun;cases o1<;>first|(cases hrun;done)|skip
 rename_i d1 env1;obtain⟨env3,e5,hrun⟩:=aj (show(oj env1 t 0 as ψ).bind (λenv2=>Ga (d1,env2))=Ga (d,env2) from hrun);cases hrun;have hal:=hlen _ _ _ e1;have hvl:vs.length=ps.length:=by rw[<- rvs.length];exact hal
 have own:∀ i∈gN as,∃ s a ob,ψ[i]?=Ga s/\gJ s=true/\σ[i]?=Ga (Ga (.ref a))/\H1 a=Ga ob/\F1 a=Gb/\H0 a=Gb/\Ow ob/\t i=a:=λi hi=>by
  obtain⟨s,z1,z2⟩:=ow i hi;obtain⟨u,z3,q⟩:=r1.sl i s z1;obtain⟨a,ob,rfl,h1,h2,h3,h4⟩:=q.at z2;exact⟨s,a,ob,z1,z2,z3,h1,h2,h3,h4,ht i a z3⟩
 let P:Gj->Bool:=λb=>(gN as).any λi=>t i==b
 have hP:∀ b,P b=true↔∃ i∈gN as,t i=b:=λb=>by
  show((gN as).any λi=>t i==b)=true↔_;rw[uK];exact⟨λ⟨i,h1,h2⟩=>⟨i,h1,beq_iff_eq.mp h2⟩,λ⟨i,h1,h2⟩=>⟨i,h1,beq_iff_eq.mpr h2⟩⟩
 have nfP:∀ b o u,P b=true->H1 b≠Ga (.frz o u):=λb o u hp=>by
  obtain⟨i,hi,rfl⟩:=(hP b).mp hp;obtain⟨_,a,ob,_,_,_,h1,_,_,h4,h5⟩:=own i hi;rw[h5];exact h4.nf h1 _ _
 have stg:∀ (q:Nat) (v:V),vs[q]?=Ga v->(L2.start N vs)[q]?=Ga (Ga v):=λq v z=>by
  unfold L2.start;rw[ky (by rw[jd];exact(ji.mp z).1),jw,z];rfl
 have stl:(L2.start N vs).length=N.length:=by unfold L2.start;rw[jC,jd,uV];omega
 have ll:=LJ e3;have slq:∀ (q:Nat) (s:Sl),(l++jP (N.length-l.length) .no)[q]?=Ga s->s=.no\/∃ a,as[q]?=Ga a/\pK ψ t a=Ga s:=λq s z=>by
  by_cases c:q<l.length
  .rw[ky c] at z;exact .inr (KU e3 z)
  .rw[kH (by omega),ue] at z;split at z<;>cases z;exact .inl rfl
 have rc:RS X.K (pP H1 P) F1 H1 (l++jP (N.length-l.length) .no) (L2.start N vs):=by
  have ownq:∀ (q:Nat) (s:Sl),gJ s=true->(l++jP (N.length-l.length) .no)[q]?=Ga s->∃ i a ob s0,as[q]?=Ga (.inr i)/\i∈gN as/\ψ[i]?=Ga s0/\gJ s0=true/\(L2.start N vs)[q]?=Ga (Ga (.ref a))/\σ[i]?=Ga (Ga (.ref a))/\H1 a=Ga ob/\t i=a:=λq s o z=>by
   rcases slq q s z with rfl|⟨a,z1,z2⟩
   .cases o
   .cases a with
    | inl d=>cases z2;cases o
    | inr i =>
     have im:=sU.mpr (jM z1);obtain⟨s0,a,ob,y1,y2,y3,y4,y5,y6,y7,y8⟩:=own i im;obtain⟨v,w1,_,w3⟩:=rvs.get z1;have:=w3 i rfl;rw[y3] at this;cases this;exact⟨i,a,ob,s0,z1,im,y1,y2,stg q _ w1,y3,y4,y8⟩
  refine⟨ZR,fh1,λq s z=>?_,λq q2 b s s2 o1 o2 z1 z2 z3 z4=>?_⟩
  .rcases slq q s z with rfl|⟨a,z1,z2⟩
   .have hq:q<N.length:=by
     have:=(ji.mp z).1;rw[jC,uV] at this;omega
    exact⟨(L2.start N vs)[q]'(by rw[stl];exact hq),jh (by rw[stl];exact hq),trivial⟩
   .obtain⟨v,w1,w2,w3⟩:=rvs.get z1;refine⟨Ga v,stg q v w1,?_⟩;cases a with
    | inl d=>cases z2;exact⟨v,rfl,w2 d rfl⟩
    | inr i =>
     have im:=sU.mpr (jM z1);obtain⟨s0,a,ob,y1,y2,y3,y4,y5,y6,y7,y8⟩:=own i im;have:=w3 i rfl;rw[y3] at this;cases this;have pa:pP H1 P a=Gb:=Ws ((hP a).mpr ⟨i,im,y8⟩);obtain⟨u,x1,x2⟩:=r1.sl i s0 y1;rw[y3] at x1;cases x1;have z2':(match ψ[i]? with|some (.own ds)=>Ga (.owk (t i) ds)|some (.owk _ ds)=>Ga (.owk (t i) ds)|some (.dki _ kvs)=>Ga (.dki (Ga (t i)) kvs)|_=>Gb)=Ga s:=z2;rw[y1,y8] at z2';cases s0<;>first|(cases z2';done)|skip
     .cases z2';obtain⟨a2,xs,k1,k2,k3,k4,k5⟩:=x2;cases k1;exact⟨xs,rfl,k2,k3,pa,k5⟩
     .cases z2';obtain⟨a2,ws,ep,k1,k2,k3,k4,k5,k6,k7,k8⟩:=x2;cases k1;exact⟨a,ws,ep,rfl,k2,k3,pa,k5,k6,k7,λx z=>by cases z;rfl⟩
     .cases z2';obtain⟨xs,k1,k2,k3,k4,k5⟩:=x2;cases k1;exact⟨xs,rfl,k2,k3,pa,k5⟩
  .obtain⟨i,a,ob,s0,a1,a2,a3,a4,a5,a6,a7,a8⟩:=ownq q s o1 z1;obtain⟨i',a',ob',s0',b1,b2,b3,b4,b5,b6,b7,b8⟩:=ownq q2 s2 o2 z2;rw[z3] at a5;cases a5;rw[z4] at b5;cases b5;have:=r1.ap i i' b _ _ a4 b4 a3 b3 a6 b6;subst this;exact Fo nd a1 b1
 refine⟨hvl,pP H1 P,F1,_,d,env1,rc,e4,λv σ' H2 F2 f2 n2 r2 rv=>?_⟩;have fn:∀ b,P b=true->F2 b=Gb:=λb hp=>by
  obtain⟨i,hi,rfl⟩:=(hP b).mp hp;obtain⟨q,s0,s1,s2,z1,z2,z3,z4⟩:=Et e5 nd i hi;rw[uq] at z3;obtain⟨u,_,w⟩:=r2.sl q s1 z3;cases s1<;>first|(cases z4;done)|skip
  .rename_i oa kvs;cases oa with
   | none=>cases z4
   | some c =>
    have z4':(if c=t i then(match s0 with|.dki oa _=>Ga (Sl.dki oa kvs)|_=>Gb) else Gb)=Ga s2:=z4;split at z4'
    .rename_i ec;obtain⟨a2,ws,ep,k1,k2,k3,k4,k5,k6,k7,k8⟩:=w;rw[<- ec,<- k8 c rfl];exact k3
    .cases z4'
  .rename_i c ds;have z4':(if c=t i then(match s0 with|.own _=>Ga (Sl.own ds)|.owk c _=>Ga (.owk c ds)|_=>Gb) else Gb)=Ga s2:=z4;split at z4'
   .rename_i ec;obtain⟨xs,k1,k2,k3,k4,k5⟩:=w;rw[<- ec];exact k3
   .cases z4'
 have n2':fR F1 F2 H1:=λb o h nb=>by
  have:=n2 b o h nb;cases q:P b with
  | true=>rw[fn b q] at h;cases h
  | false=>rw[Ij q] at this;exact this
 have rE:RS X.K H0 F2 H2 env2 σ:=by
  refine r1.chgs P (λb hp=>?_) (λb o hp h=>?_) f2 r2.fh n2' (λi s z=>?_)
  .obtain⟨i,hi,rfl⟩:=(hP b).mp hp;obtain⟨s,a,ob,y1,y2,y3,_,_,_,_,y8⟩:=own i hi;rw[y8];exact⟨i,s,y1,y2,y3⟩
  .have:=r2.h0 b o (by rw[Ij hp];exact h);exact this.from λ_ z=>XN nfP z
  .rcases DJ e5 nd i s z with ⟨z1,z2⟩|⟨q,s0,s1,z1,z2,z3,z4⟩
   .refine .inl ⟨z1,λb o zb=>?_⟩;cases q:P b with
    | false=>rfl
    | true =>
     obtain⟨i',hi',e'⟩:=(hP b).mp q;obtain⟨s',a,ob,y1,y2,y3,_,_,_,_,y8⟩:=own i' hi';have ea:a=b:=y8.symm.trans e';subst ea;have:=r1.ap i i' a _ _ o y2 z1 y1 zb y3;subst this;exact absurd hi' z2
   .rw[uq] at z3;have im:=sU.mpr (jM z1);obtain⟨s0',a,ob,y1,y2,y3,y4,y5,y6,y7,y8⟩:=own i im;rw[z2] at y1;cases y1;refine .inr ⟨s0,z2,y2,Ga (.ref a),y3,?_⟩;rw[y8] at z4;obtain⟨u,_,w⟩:=r2.sl q s1 z3;obtain⟨u0,x1,x2⟩:=r1.sl i s0 z2;rw[y3] at x1;cases x1;cases s1<;>first|(cases z4;done)|skip
    .rename_i oa kvs;cases oa with
     | none=>cases z4
     | some c =>
      have z4':(if c=a then(match s0 with|.dki oa _=>Ga (Sl.dki oa kvs)|_=>Gb) else Gb)=Ga s:=z4;split at z4';rotate_left
      .cases z4'
      rename_i ec;subst ec;obtain⟨a2,ws,ep,k1,k2,k3,k4,k5,k6,k7,k8⟩:=w;have e2:=k8 c rfl;subst e2;cases s0<;>first|(cases z4';done)|skip
      cases z4';obtain⟨a3,ws3,ep3,l1,l2,l3,l4,l5,l6,l7,l8⟩:=x2;cases l1;exact⟨a2,ws,ep,rfl,k2,k3,y6,k5,k6,k7,l8⟩
    .rename_i c ds;have z4':(if c=a then(match s0 with|.own _=>Ga (Sl.own ds)|.owk c _=>Ga (.owk c ds)|_=>Gb) else Gb)=Ga s:=z4;split at z4';rotate_left
     .cases z4'
     rename_i ec;subst ec;obtain⟨xs,k1,k2,k3,k4,k5⟩:=w;cases s0<;>first|(cases z4';done)|skip
     .cases z4';exact⟨c,xs,rfl,k2,k3,y6,k5⟩
     .cases z4';obtain⟨xs3,l1,l2,l3,l4,l5⟩:=x2;cases l1;exact⟨xs,rfl,k2,k3,y6,k5⟩
 exact p v H2 F2 (f1.trans f2) (n1.up (n2'.dn r1.h0)) rE rv
theorem Nk (j:Nat)(F:fB X.prog X.w X.K X.mg X.base fL k f fd ps (xG X.K N ps.length g))(hr:gr k X.A)(hm:X.mg x=Ga (.ref f))(hk:kG X.K (.ref f)=true)(hb:lS X.K fd ps [])(ha:xF X (e::es) ga)(hlen:∀ ψ as,ga ψ=Ga as->as.length=ps.length)(hpn:ps.length<=N.length)(hN:X.N.Nodup)(hg:Gl X x:=by rfl)
  (hj:X.N[j]?=Ga y:=by rfl) (hx:oZ X.env.scope y:=by first|exact kw rfl|exact jZ rfl)
  (hs:swapsWith (.Call (.Name x p) (e::es) [] pc) (Ga (.Name y pos')) pos.line X.env=pure false:=by rfl) (hf:X.fn y=true\/X.env.scope.names.lookup y=Ga .local:=by first|exact .inl rfl|exact .inr rfl)
  (hdb:(x==("__debug__":Str))=false:=by decide) (he:starEach (e::es) X.env=(false,eval e X.env)::starEach es X.env:=by rfl) (hpl:(backTo pc (starEach es X.env)).any (·.1)=false:=by rfl) :
  lG X (.Assign [.Name y pos'] (.Call (.Name x p) (e::es) [] pc) pos) (ml j N.length g ga):=by
 intro ω s σ H D I hw;refine pj hN hj hx (HL F hr hm hk hb (Xf ha) (λψ as env1 z=>by obtain⟨l,z1,z⟩:=aj z;cases z;exact hlen _ _ z1) hpn hg hdb he hpl) hs hf ω s σ H D I ?_;obtain⟨H0,F,ψ,o,r,e,p⟩:=hw;have hl:j<σ.length:=by rw[I.len];exact(ji.mp hj).1
 obtain⟨as,e1,e⟩:=aj e;split at e;rotate_left
 .cases e
 rename_i c;obtain⟨⟨d,env2⟩,e2,e⟩:=aj e;cases e;refine⟨H0,F,ψ,d,env2,r,?_,λv H' F' f n r' rv=>p _ H' F' f n (r'.put hl rv)⟩;unfold mv Ad;rw[e1,je,je];dsimp only;rw[Ge c];exact e2
end
noncomputable section
def eW (d:D):FV:=λψ=>Ga d
theorem Sg (d:D)(ψ:En):eW d ψ=Ga d:=(rfl)
def dE (op:D->D->Option D)(f g:FV):FV:=λψ=>(f ψ).bind λx=>(g ψ).bind λy=>op x y
theorem Oi (op:D->D->Option D)(f g:FV)(ψ:En):dE op f g ψ=(f ψ).bind λx=>(g ψ).bind λy=>op x y:=(rfl)
def lK (op:D->Option D)(f:FV):FV:=λψ=>(f ψ).bind op
theorem LQ (op:D->Option D)(f:FV)(ψ:En):lK op f ψ=(f ψ).bind op:=(rfl)
def Fa (op:List D->Option D)(f:FL):FV:=λψ=>(f ψ).bind op
theorem XI (op:List D->Option D)(f:FL)(ψ:En):Fa op f ψ=(f ψ).bind op:=(rfl)
def iR (f:FV):FB:=λψ=>(f ψ).bind xf
theorem Uv (f:FV)(ψ:En):iR f ψ=(f ψ).bind xf:=(rfl)
def fS (op:D->D->Option D)(f g:FV):FB:=λψ=>((f ψ).bind λx=>(g ψ).bind λy=>op x y).bind iy
theorem Uq (op:D->D->Option D)(f g:FV)(ψ:En):fS op f g ψ=((f ψ).bind λx=>(g ψ).bind λy=>op x y).bind iy:=(rfl)
def iO (f g:FB):FB:=λψ=>(f ψ).bind λc=>if c then g ψ else Ga false
theorem Rl (f g:FB)(ψ:En):iO f g ψ=(f ψ).bind λc=>if c then g ψ else Ga false:=(rfl)
def nl (f g:FB):FB:=λψ=>(f ψ).bind λc=>if c then Ga true else g ψ
theorem Wu (f g:FB)(ψ:En):nl f g ψ=(f ψ).bind λc=>if c then Ga true else g ψ:=(rfl)
def Gn (f g:FV):FV:=λψ=>((f ψ).bind iy).bind λc=>if c then g ψ else Ga (.bool false)
theorem Rz (f g:FV)(ψ:En):Gn f g ψ=((f ψ).bind iy).bind λc=>if c then g ψ else Ga (.bool false):=(rfl)
def zg (c:FB)(f g:FV):FV:=λψ=>(c ψ).bind λk=>if k then f ψ else g ψ
theorem UO (c:FB)(f g:FV)(ψ:En):zg c f g ψ=(c ψ).bind λk=>if k then f ψ else g ψ:=(rfl)
def fH :FL:=λψ=>Ga []
theorem Wa  (ψ:En):fH ψ=Ga []:=(rfl)
def eX (f:FV)(g:FL):FL:=λψ=>(f ψ).bind λd=>(g ψ).bind λds=>Ga (d::ds)
theorem QK (f:FV)(g:FL)(ψ:En):eX f g ψ=(f ψ).bind λd=>(g ψ).bind λds=>Ga (d::ds):=(rfl)
def tw (g:FL):FV:=λψ=>(g ψ).bind λds=>Ga (.tuple ds)
theorem zxH (g:FL)(ψ:En):tw g ψ=(g ψ).bind λds=>Ga (.tuple ds):=(rfl)
def gR (g:FL):FV:=λψ=>(g ψ).bind λds=>Ga (.list ds)
theorem NW (g:FL)(ψ:En):gR g ψ=(g ψ).bind λds=>Ga (.list ds):=(rfl)
def gc (fm:List D->Option D)(g:FL):FV:=λψ=>(g ψ).bind fm
theorem Vb (fm:List D->Option D)(g:FL)(ψ:En):gc fm g ψ=(g ψ).bind fm:=(rfl)
def tu (fm:List D->Option (List D))(g:FL):FL:=λψ=>(g ψ).bind fm
theorem RE (fm:List D->Option (List D))(g:FL)(ψ:En):tu fm g ψ=(g ψ).bind fm:=(rfl)
def IR (f:FV):FL:=λψ=>(f ψ).bind wQ
theorem Ve (f:FV)(ψ:En):IR f ψ=(f ψ).bind wQ:=(rfl)
def lv (f:FV):FL:=λψ=>(f ψ).bind toS
theorem To (f:FV)(ψ:En):lv f ψ=(f ψ).bind toS:=(rfl)
def lU (op:D->Option (List D))(f:FV):FL:=λψ=>(f ψ).bind op
theorem UP (op:D->Option (List D))(f:FV)(ψ:En):lU op f ψ=(f ψ).bind op:=(rfl)
def KG (op:D->D->Option (List D))(f g:FV):FL:=λψ=>(f ψ).bind λx=>(g ψ).bind λy=>op x y
theorem Zj (op:D->D->Option (List D))(f g:FV)(ψ:En):KG op f g ψ=(f ψ).bind λx=>(g ψ).bind λy=>op x y:=(rfl)
def CH (i:Nat)(f:FV):FS:=λψ=>(go i ψ).bind λds=>(f ψ).bind λd=>(wQ d).bind λes=>(Bv ds es).bind λrs=>Ga (.nx (ψ.set i (.own rs)))
def Cc (f:FL)(g:FV):FL:=λψ=>(f ψ).bind λxs=>(g ψ).bind λy=>rD xs y
theorem zxL (f:FL)(g:FV)(ψ:En):Cc f g ψ=(f ψ).bind λxs=>(g ψ).bind λy=>rD xs y:=(rfl)
def nk (f:FL)(g:FV):FV:=λψ=>(f ψ).bind λx=>(g ψ).bind λy=>wp x y
theorem zz6 (f:FL)(g:FV)(ψ:En):nk f g ψ=(f ψ).bind λx=>(g ψ).bind λy=>wp x y:=(rfl)
def gG :FS:=λψ=>Ga (.nx ψ)
theorem Zy  (ψ:En):gG ψ=Ga (.nx ψ):=(rfl)
noncomputable def fE (g k:FS):FS:=λψ=>iB (g ψ) k
theorem Up (g k:FS)(ψ:En):fE g k ψ=iB (g ψ) k:=(rfl)
noncomputable def hV (f:FV):FS:=λψ=>(f ψ).bind λd=>Ga (.rt d)
theorem XC (f:FV)(ψ:En):hV f ψ=(f ψ).bind λd=>Ga (.rt d):=(rfl)
def yU (f:FL):FS:=λψ=>(f ψ).bind λd=>Ga (.ro d)
def gB (c:FB)(g k:FS):FS:=λψ=>(c (frz ψ)).bind λt=>if t then g ψ else k ψ
theorem Pb (c:FB)(g k:FS)(ψ:En):gB c g k ψ=(c (frz ψ)).bind λt=>if t then g ψ else k ψ:=(rfl)
def gn (i:Nat)(f:FV):FS:=λψ=>(f ψ).bind λd=>Ga (.nx (ψ.set i (.val d)))
theorem Sj (i:Nat)(f:FV)(ψ:En):gn i f ψ=(f ψ).bind λd=>Ga (.nx (ψ.set i (.val d))):=(rfl)
def pU (i:Nat)(f:FL):FS:=λψ=>(f ψ).bind λd=>Ga (.nx (ψ.set i (.own d)))
theorem SY (i:Nat)(f:FL)(ψ:En):pU i f ψ=(f ψ).bind λd=>Ga (.nx (ψ.set i (.own d))):=(rfl)
def Cp (i:Nat)(g:FS):FS:=λψ=>(g ψ).bind λo=>Ga (yc i o)
theorem TX (i:Nat)(g:FS)(ψ:En):Cp i g ψ=(g ψ).bind λo=>Ga (yc i o):=(rfl)
def se (i:Nat)(f:FV):FS:=λψ=>(go i ψ).bind λds=>(f ψ).bind λd=>if ds.length<1000000 then Ga (.nx (ψ.set i (.own (ds++[d])))) else Gb
theorem WD (i:Nat)(f:FV)(ψ:En):se i f ψ=(go i ψ).bind λds=>(f ψ).bind λd=>if ds.length<1000000 then Ga (.nx (ψ.set i (.own (ds++[d])))) else Gb:=(rfl)
def lT (f:FL)(t:FT)(g:FS):FS:=λψ=>(f ψ).bind λds=>fY t g ds ψ
theorem UB (f:FL)(t:FT)(g:FS)(ψ:En):lT f t g ψ=(f ψ).bind λds=>fY t g ds ψ:=(rfl)
def gj (i:Nat):FT:=λd ψ=>Ga (ψ.set i (.val d))
def rS:pd:=λds ψ=>match ds with|[]=>Ga ψ|_=>Gb
def mT (t:FT)(u:pd):pd:=λds ψ=>match ds with|d::r=>(t d ψ).bind λenv1=>u r env1|[]=>Gb
def oQ (u:pd):FT:=λd ψ=>(yR d).bind λds=>u ds ψ
theorem WE (i:Nat)(d:D)(ψ:En):gj i d ψ=Ga (ψ.set i (.val d)):=(rfl)
theorem VN (ψ:En):rS [] ψ=Ga ψ:=(rfl)
theorem Us (t:FT)(u:pd)(d:D)(r:List D)(ψ:En):mT t u (d::r) ψ=(t d ψ).bind λenv1=>u r env1:=(rfl)
theorem zz9 (u:pd)(d:D)(ψ:En):oQ u d ψ=(yR d).bind λds=>u ds ψ:=(rfl)
theorem zoO (d:D)(k:FS):iB (Ga (.rt d)) k=Ga (.rt d):=(rfl)
theorem LA (e:En)(k:FS):iB (Ga (.nx e)) k=k e:=(rfl)
theorem UV:frz []=[]:=(rfl)
theorem Uw (s:Sl)(e:En):frz (s::e)=sE s::frz e:=(rfl)
theorem zq3 (d:D):sE (.val d)=.val d:=(rfl)
theorem ZF (d:List D):sE (.own d)=.val (.list d):=(rfl)
theorem Sf (d:D)(e:En):gv 0 (.val d::e)=Ga d:=(rfl)
theorem Re (x:Sl)(e:En):oD (x::e)[0]?=oD (Ga x):=(rfl)
theorem zAc (a0:Sl)(d:D)(e:En):gv 1 (a0::.val d::e)=Ga d:=(rfl)
theorem VH (a0:Sl)(x s:Sl)(e:En):List.set (a0::x::e) 1 s=a0::s::e:=(rfl)
theorem WU (a0 a1:Sl)(d:D)(e:En):gv 2 (a0::a1::.val d::e)=Ga d:=(rfl)
theorem Va (a0 a1:Sl)(x s:Sl)(e:En):List.set (a0::a1::x::e) 2 s=a0::a1::s::e:=(rfl)
theorem Se (a0 a1 a2:Sl)(d:D)(e:En):gv 3 (a0::a1::a2::.val d::e)=Ga d:=(rfl)
theorem zxV (a0 a1 a2:Sl)(x s:Sl)(e:En):List.set (a0::a1::a2::x::e) 3 s=a0::a1::a2::s::e:=(rfl)
theorem YF (a0 a1 a2:Sl)(x:Sl)(e:En):oD (a0::a1::a2::x::e)[3]?=oD (Ga x):=(rfl)
theorem YC (a0 a1 a2 a3:Sl)(d:D)(e:En):gv 4 (a0::a1::a2::a3::.val d::e)=Ga d:=(rfl)
theorem zAh (a0 a1 a2 a3:Sl)(d:List D)(e:En):go 4 (a0::a1::a2::a3::.own d::e)=Ga d:=(rfl)
theorem WQ (a0 a1 a2 a3:Sl)(x s:Sl)(e:En):List.set (a0::a1::a2::a3::x::e) 4 s=a0::a1::a2::a3::s::e:=(rfl)
theorem ZN (a0 a1 a2 a3:Sl)(x:Sl)(e:En):oD (a0::a1::a2::a3::x::e)[4]?=oD (Ga x):=(rfl)
theorem Sv (a0 a1 a2 a3 a4:Sl)(d:D)(e:En):gv 5 (a0::a1::a2::a3::a4::.val d::e)=Ga d:=(rfl)
theorem TU (a0 a1 a2 a3 a4:Sl)(d:List D)(e:En):gl 5 (a0::a1::a2::a3::a4::.own d::e)=Ga d:=(rfl)
theorem Td (a0 a1 a2 a3 a4:Sl)(x s:Sl)(e:En):List.set (a0::a1::a2::a3::a4::x::e) 5 s=a0::a1::a2::a3::a4::s::e:=(rfl)
theorem Ul (a0 a1 a2 a3 a4:Sl)(x:Sl)(e:En):oD (a0::a1::a2::a3::a4::x::e)[5]?=oD (Ga x):=(rfl)
theorem ZA (a0 a1 a2 a3 a4 a5:Sl)(d:D)(e:En):gv 6 (a0::a1::a2::a3::a4::a5::.val d::e)=Ga d:=(rfl)
theorem Yy (a0 a1 a2 a3 a4 a5:Sl)(x s:Sl)(e:En):List.set (a0::a1::a2::a3::a4::a5::x::e) 6 s=a0::a1::a2::a3::a4::a5::s::e:=(rfl)
theorem zAn (a0 a1 a2 a3 a4 a5 a6:Sl)(d:D)(e:En):gv 7 (a0::a1::a2::a3::a4::a5::a6::.val d::e)=Ga d:=(rfl)
theorem Tg (a0 a1 a2 a3 a4 a5 a6:Sl)(x s:Sl)(e:En):List.set (a0::a1::a2::a3::a4::a5::a6::x::e) 7 s=a0::a1::a2::a3::a4::a5::a6::s::e:=(rfl)
theorem Xg (a0 a1 a2 a3 a4 a5 a6 a7:Sl)(d:D)(e:En):gv 8 (a0::a1::a2::a3::a4::a5::a6::a7::.val d::e)=Ga d:=(rfl)
theorem zx0 (a0 a1 a2 a3 a4 a5 a6 a7:Sl)(x s:Sl)(e:En):List.set (a0::a1::a2::a3::a4::a5::a6::a7::x::e) 8 s=a0::a1::a2::a3::a4::a5::a6::a7::s::e:=(rfl)
theorem YQ (a0 a1 a2 a3 a4 a5 a6 a7:Sl)(x:Sl)(e:En):oD (a0::a1::a2::a3::a4::a5::a6::a7::x::e)[8]?=oD (Ga x):=(rfl)
theorem zAq (a0 a1 a2 a3 a4 a5 a6 a7 a8:Sl)(d:D)(e:En):gv 9 (a0::a1::a2::a3::a4::a5::a6::a7::a8::.val d::e)=Ga d:=(rfl)
theorem Wc (a0 a1 a2 a3 a4 a5 a6 a7 a8:Sl)(x s:Sl)(e:En):List.set (a0::a1::a2::a3::a4::a5::a6::a7::a8::x::e) 9 s=a0::a1::a2::a3::a4::a5::a6::a7::a8::s::e:=(rfl)
theorem Rx (a0 a1 a2 a3 a4 a5 a6 a7 a8 a9:Sl)(d:D)(e:En):gv 10 (a0::a1::a2::a3::a4::a5::a6::a7::a8::a9::.val d::e)=Ga d:=(rfl)
theorem Xk (a0 a1 a2 a3 a4 a5 a6 a7 a8 a9:Sl)(x s:Sl)(e:En):List.set (a0::a1::a2::a3::a4::a5::a6::a7::a8::a9::x::e) 10 s=a0::a1::a2::a3::a4::a5::a6::a7::a8::a9::s::e:=(rfl)
theorem YM (a0 a1 a2 a3 a4 a5 a6 a7 a8 a9:Sl)(d:List D)(e:En):frzAt 10 (a0::a1::a2::a3::a4::a5::a6::a7::a8::a9::.own d::e)=a0::a1::a2::a3::a4::a5::a6::a7::a8::a9::.val (.list d)::e:=(rfl)
theorem SR (a0 a1 a2 a3 a4 a5 a6 a7 a8 a9 a10:Sl)(d:D)(e:En):gv 11 (a0::a1::a2::a3::a4::a5::a6::a7::a8::a9::a10::.val d::e)=Ga d:=(rfl)
theorem XU (a0 a1 a2 a3 a4 a5 a6 a7 a8 a9 a10:Sl)(x s:Sl)(e:En):List.set (a0::a1::a2::a3::a4::a5::a6::a7::a8::a9::a10::x::e) 11 s=a0::a1::a2::a3::a4::a5::a6::a7::a8::a9::a10::s::e:=(rfl)
theorem Zb (e:En):lr [] e=[]:=(rfl)
theorem Vq (i:Nat)(ix:List Nat)(e:En):lr (i::ix) e=oD e[i]?::lr ix e:=(rfl)
theorem Tp (d:D):oD (Ga (.val d))=.val d:=(rfl)
theorem zAr (i:Nat)(e:En):yc i (.nx e)=.nx (frzAt i e):=(rfl)
theorem OA (d:D):fK (Ga (.rt d))=Ga d:=(rfl)
theorem ZB (b:Bool):iy (.bool b)=Ga b:=(rfl)
theorem ztS (b:Bool):xf (.bool b)=Ga b:=(rfl)
theorem Xd (d:List D):wQ (.list d)=Ga d:=(rfl)
theorem RK (d:List D):yR (.tuple d)=Ga d:=(rfl)
theorem Rr (d:List D):toS (.list d)=Ga d:=(rfl)
theorem UT (i j:Int):ge (.int i) (.int j)=Ga (.int (i+j)):=(rfl)
theorem Sw (i j:Int):iz (.int i) (.int j)=Ga (.int (i-j)):=(rfl)
theorem Sr (i j:Int):nO (.int i) (.int j)=Ga (.bool (decide (i<j))):=(rfl)
theorem TV (i j:Int):lI (.int i) (.int j)=Ga (.bool (decide (i<=j))):=(rfl)
theorem Vz (i j:Int):HK (.int i) (.int j)=Ga (.bool (decide (j<=i))):=(rfl)
theorem Zt (i j:Int):mI (.int i) (.int j)=Ga (.int (if j<i then j else i)):=(rfl)
theorem VM (i j:Int):pA (.int i) (.int j)=Ga (.int (if j>i then j else i)):=(rfl)
theorem Yx (i j:Int):gz (.int i) (.int j)=Ga (.bool (decide (i=j))):=by rw[xk];rfl
theorem MF (i j:Int):ia (.int i) (.int j)=Ga (.bool (decide (¬i=j))):=by rw[NO];by_cases h:i=j<;>simp[h]
theorem SH (d:List D)(i:Int):eY (.tuple d) (.int i)=atI d i:=(rfl)
theorem Yp (d:List D)(i:Int):eY (.list d) (.int i)=atI d i:=(rfl)
theorem Te (d:List D)(i:Int):wp d (.int i)=atI d i:=(rfl)
theorem XH (x0 x1:D):atI [x0,x1] 0=Ga x0:=(rfl)
theorem So (x0 x1:D):atI [x0,x1] 1=Ga x1:=(rfl)
theorem VY (x0 x1 x2:D):atI [x0,x1,x2] 1=Ga x1:=(rfl)
theorem Yq (d:List D):fU (.list d)=Ga (.int d.length):=(rfl)
theorem VX (c:gD)(φ:D->Option D)(f:FV)(e:En):oN 0 c φ f (.fn c::e)=(f (.fn c::e)).bind φ:=Ge rfl
theorem YK (a0 a1:Sl)(c:gD)(fm:List D->Option D)(g:FL)(e:En):nZ 2 c fm g (a0::a1::.fn c::e)=(g (a0::a1::.fn c::e)).bind fm:=Ge rfl
theorem ZS (P:Gj):sE (.tab P)=.tab P:=(rfl)
theorem Sx:iP .none .none=Ga (.bool true):=(rfl)
theorem YB:gS .none .none=Ga (.bool false):=(rfl)
theorem QU (x:List D):iP (.tuple x) .none=Ga (.bool false):=(rfl)
theorem Yt (x:Int):gS (.int x) .none=Ga (.bool true):=(rfl)
theorem Tz {α:Type}(a b:α):(if false=true then a else b)=b:=Gf jv
def lD (I:En->Prop)(o:Option pv):Prop:=∃ e,o=Ga (.nx e)/\I e
theorem xr {I:En->Prop}{e:En}(h:I e):lD I (Ga (.nx e)):=⟨e,rfl,h⟩
theorem yz {I J:En->Prop}{o:Option pv}(h:lD I o)(q:∀ e,I e->J e):lD J o:=by
 obtain⟨e,rfl,hI⟩:=h;exact⟨e,rfl,q e hI⟩
theorem SQ {t:FT}{g:FS}{ds:List D}{ψ:En}(I:En->Prop)(h0:I ψ)(st:∀ d∈ds,∀ ψ,I ψ->lD I ((t d ψ).bind g)):lD I (fY t g ds ψ):=by
 refine Nn I h0 λd hd e he=>?_;obtain⟨e2,h1,h2⟩:=st d hd e he;obtain⟨e1,x1,x2⟩:=vz.mp h1;exact⟨e1,e2,x1,x2,h2⟩
theorem Ng {t:FT}{g:FS}{f:Nat->D}(I:Nat->En->Prop)(n:Nat)(st:∀ k,k<n->∀ ψ,I k ψ->lD (I (k+1)) ((t (f k) ψ).bind g)):∀ (m a:Nat) (ψ:En),a+m=n->I a ψ->lD (I n) (fY t g ((uc a m).map f) ψ)
 | 0,a,ψ,e,h=>by
  obtain rfl:a=n:=by omega
  exact⟨ψ,rfl,h⟩
 | m+1,a,ψ,e,h=>by
  obtain⟨e2,h1,h2⟩:=st a (by omega) ψ h;obtain⟨e1,x1,x2⟩:=vz.mp h1;obtain⟨z,y1,y2⟩:=Ng I n st m (a+1) e2 (by omega) h2;refine⟨z,?_,y2⟩;rw[vQ,jB];unfold fY;rw[x1,je,x2];exact y1
theorem FU {α:Type}{t:FT}{g:FS}(f:α->D)(I:List α->En->Prop)(as:List α)(st:∀ pre a suf,as=pre++a::suf->∀ ψ,I pre ψ->lD (I (pre++[a])) ((t (f a) ψ).bind g)):∀ (suf pre:List α) (ψ:En),as=pre++suf->I pre ψ->lD (I as) (fY t g (suf.map f) ψ)
 | [],pre,ψ,e,h=>⟨ψ,rfl,by rw[e,j4];exact h⟩
 | a::r,pre,ψ,e,h=>by
  obtain⟨e2,h1,h2⟩:=st pre a r e ψ h;obtain⟨e1,x1,x2⟩:=vz.mp h1;obtain⟨z,y1,y2⟩:=FU f I as st r (pre++[a]) e2 (by rw[e,uX];rfl) h2;refine⟨z,?_,y2⟩;rw[jB];unfold fY;rw[x1,je,x2];exact y1
theorem ZE {α:Type}{t:FT}{g k:FS}{ψ:En}{R:Option pv}(f:α->D)(I:List α->En->Prop)(as:List α)(h0:I [] ψ)(st:∀ pre a suf,as=pre++a::suf->∀ ψ,I pre ψ->lD (I (pre++[a])) ((t (f a) ψ).bind g))(q:∀ e,I as e->k e=R):iB (fY t g (as.map f) ψ) k=R:=by
 obtain⟨e,h1,h2⟩:=FU f I as st as [] ψ rfl h0;rw[h1];exact q e h2
theorem Gx {α:Type}{t:FT}{g:FS}{ψ:En}(f:α->D)(I:List α->En->Prop)(as:List α)(h0:I [] ψ)(st:∀ pre a suf,as=pre++a::suf->∀ ψ,I pre ψ->lD (I (pre++[a])) ((t (f a) ψ).bind g)):lD (I as) (fY t g (as.map f) ψ):=FU f I as st as [] ψ rfl h0
theorem xE (fi:FL)(fc:FB)(fe:FV)(ix:List Nat)(ψ:En):fQ fi fc fe ix ψ=(fi ψ).bind λds=>if ds.length<=1000000 then iq fc fe (lr ix ψ) ds else Gb:=(rfl)
end
noncomputable section
noncomputable def Dp (f:FV):FS:=λψ=>(f ψ).bind λd=>Ga (.rc d ψ)
theorem zx9 (f:FV)(ψ:En):Dp f ψ=(f ψ).bind λd=>Ga (.rc d ψ):=(rfl)
def yf :FA:=λψ=>Ga []
def xg (f:FV)(g:FA):FA:=λψ=>(f ψ).bind λd=>(g ψ).bind λl=>Ga (.inl d::l)
def xm (i:Nat)(g:FA):FA:=λψ=>(g ψ).bind λl=>Ga (.inr i::l)
def xp (n:Nat)(g:FA):Prop:=∀ ψ as,g ψ=Ga as->as.length=n
theorem NJ:xp 0 zw:=λψ as h=>by cases h;rfl
theorem Kw {n:Nat}{f:FV}{g:FA}(q:xp n g):xp (n+1) (zx f g):=λψ as h=>by
 obtain⟨d,_,h⟩:=aj h;obtain⟨l,e,h⟩:=aj h;cases h;exact congrArg uv (q ψ l e)
theorem MC {n i:Nat}{g:FA}(q:xp n g):xp (n+1) (zL i g):=λψ as h=>by
 obtain⟨l,e,h⟩:=aj h;cases h;exact congrArg uv (q ψ l e)
theorem YD (a:Gj)(d:List D):sE (.owk a d)=.val (.list d):=(rfl)
theorem VU (x:Gj)(d:List D)(e:En):mW 0 (.owk x d::e)=Ga d:=(rfl)
theorem ZL (x:Gj)(d:List D)(e:En)(fi f:FV):nN 0 fi f (.owk x d::e)=(f (.owk x d::e)).bind λv=>(fi (.owk x d::e)).bind λk=>(xL d k v).bind λes=>Ga (.nx (.owk x es::e)):=(rfl)
end
section
variable {P:Program}{w:World}{K:ja}{mg:Str->Option Gg}{base:Heap}{x qual:Str}{st:Stmt}{f:Gj}{fd:Gi}{N ps:List Str}{k:Nat}{kx:FX}{c:gD}
end
section
variable {X:Cx}{k:Nat}{f:Gj}{fd:Gi}{ps:List Str}{x:Str}{p pos:Pos}{es:List Expr}{g:FL}{c:gD}
end
section
variable {prog:Program}{w:World}{K:Type}[DecidableEq K]{knd:HeapKind prog w K}{A:Around}{E:Gg->Gh->Prop}{s:Gh}
theorem zrB {d a:Gj}{xs:List (K×Gj×Gg)}{k:K}{v:Gg}{Q:Gg->Gh->Prop}(hu:knd.room A)(hkey:knd.is s.heap k a)(hm:s.heap.DictOfH knd d xs)
  (h1:∀ p,atKey xs k=Ga p->Q p.2 { s with toks:=s.toks+knd.draws k })
  (h2:atKey xs k=Gb->∀ h',h'.DictOfH knd d (xs++[(k,a,v)])->uO d s.heap h'->Q v { s with heap:=h',toks:=s.toks+knd.draws k })
  (hsz:xs.length<=sizeLine):wpAny (model prog w) A (dictSetDefault d (.ref a) v) Q E s:=by
 obtain⟨o,es,ep,ho,hc,hd,he,his,hn⟩:=hm;unfold dictSetDefault
 try with_reducible refine wpAny_holding ?_
 refine eN (knd.pyHash hu hkey ?_);refine eN (wpAny_dictFind_heap (s:={ s with toks:=s.toks+knd.draws k }) hu hkey ho hd he his hn ?_ ?_)
 .intro hno;have hnot:k∉xs.map (·.1):=not_mem_keys_of_get hno;refine eN (wpAny_rule (eN (wpAny_updateDictKeys (hz:=by have e:=size_of_entries he;omega) (s:={ s with toks:=s.toks+knd.draws k }) ho hd (eO (h2 (atKey_none_of_get hno) _ ⟨_,_,ep+1,kF _ ho (Obj.isFreed_of_dict (Jb hd _)),
   hc.mapDictKeys _,Jb hd _,?_,?_,?_⟩ (ki ..))))))
  .simp[he,entryOfKey]
  .intro x hx;rcases kc.mp hx with hx|hx
   .exact knd.keeps (his x hx) ho hd (ki ..)
   .simp only[jp] at hx;subst hx;exact knd.keeps hkey ho hd (ki ..)
  .rw[kJ,uE];refine⟨hn,by simp,?_⟩;intro x hx y hy;simp only[jB,vG,jp] at hy;subst hy;exact λe=>hnot (e▸hx)
 .intro j p hj;refine eN (wpAny_dictEntries (s:={ s with toks:=s.toks+knd.draws k }) ho hd ?_);rw[entry_at he j,hj];exact eN (wpAny_rule (eO (h1 p (atKey_of_get hn hj))))
theorem ZM (knd:HeapKind prog w K)(d a:Gj)(hd:(d==sysModules)=false)(dflt:Gg) :
  MeetsIn prog w (Builtin.«dict.setdefault» ⟨[.ref d,.ref a,dflt],[]⟩) (λA R s=>knd.room A.in1/\∃ k xs,knd.is s.heap k a/\s.heap.DictOfH knd d xs/\xs.length<=sizeLine /\
   (∀ p,atKey xs k=Ga p->R (.ok (.ret p.2)) { s with toks:=s.toks+knd.draws k }) /\
   (atKey xs k=Gb->∀ h',h'.DictOfH knd d (xs++[(k,a,dflt)])->uO d s.heap h'->R (.ok (.ret dflt)) { s with heap:=h',toks:=s.toks+knd.draws k })) :=
 .of_wp λA R s ⟨hu,k,xs,hkey,hm,hz,h1,h2⟩=>by
  unfold Builtin.«dict.setdefault»;refine eN ?_;unfold Builtin.Dict.keyAndDefault;refine eN (wpAny_notOrdered_dict hm.typeIs ?_);show wpAny _ _ (pure (d,kD a,Ga dflt)) _ _ s;refine eO ?_;show wpAny _ _ (if (d==sysModules)=true then _ else(dictSetDefault d (.ref a) dflt >>= _)) _ _ s;rw[Gf (by rw[hd];exact jv)];exact eN (zrB hu hkey hm (λp hp=>eO ⟨p.2,rfl,h1 p hp⟩) (λhn h' hm' hs'=>eO ⟨dflt,rfl,h2 hn h' hm' hs'⟩) hz)
end
theorem ZZ {a:Gj}{ws:List (D×Gj×V)}{ep:Nat}:∀ h1 h2:Heap,rj a ws ep h1->(∀ o,h1.get? a=Ga o->h2.get? a=Ga o)->rj a ws ep h2:=by
 rintro h1 h2 ⟨o,es,l,ho,r⟩ k;exact⟨o,es,l,k _ ho,r⟩
theorem OI {P:Program}{w:World}{H:Hp}{h:Heap}{a:Gj}{ws:List (D×Gj×V)}{ep:Nat}(p:rj a ws ep h):hZ P w H h a (.ext (rj a ws ep)):=by
 obtain⟨o,es,l,ho,r⟩:=id p;exact⟨p,⟨o,ho⟩,ZZ⟩
theorem UM {P:Program}{w:World}{H:Hp}{h:Heap}{a:Gj}{ws:List (D×Gj×V)}{ep:Nat}(ok:HOk P w H h)(e:H a=Ga (.ext (rj a ws ep))):rj a ws ep h:=(show hZ P w H h a (.ext _) from ok a _ e).1
theorem WV.snoc {k:D}{b:Gj}{v:V}{u:Gg}(r:fC v u):∀ {ws:List (D×Gj×V)} {l:List (D×Gj×Gg)},WV ws l->WV (ws++[(k,b,v)]) (l++[(k,b,u)])
 | _,_,.nil=>.cons r .nil
 | _,_,.cons q t=>.cons q (t.snoc r)
theorem lL.snoc {K:ja}{F:Hp}{k d:D}{b:Gj}{v:V}(hk:fP K F k (.ref b))(h:fP K F d v):∀ {l:List (D×D)} {m:List (D×Gj×V)},lL K F l m->lL K F (l++[(k,d)]) (m++[(k,b,v)])
 | _,_,.nil=>.cons hk h .nil
 | _,_,.cons q1 q2 t=>.cons q1 q2 (t.snoc hk h)
theorem lL.fst {K:ja}{F:Hp}:∀ {l:List (D×D)} {m:List (D×Gj×V)} {n:List (D×Gj×Gg)},lL K F l m->WV m n->n.map (·.1)=l.map (·.1)
 | _,_,_,.nil,.nil=>rfl
 | _,_,_,.cons _ _ t,.cons _ t2=>congrArg (_::·) (t.fst t2)
theorem lL.key {K:ja}{F:Hp}:∀ {l:List (D×D)} {m:List (D×Gj×V)} {n:List (D×Gj×Gg)},lL K F l m->WV m n->∀ x∈n,x.1∈l.map (·.1)/\fP K F x.1 (.ref x.2.1)
 | _,_,_,.nil,.nil,x,h=>by cases h
 | _,_,_,.cons hk _ t,.cons _ t2,x,h=>by
  rcases jx.mp h with rfl|h
  .exact⟨jf,hk⟩
  .obtain⟨a,b⟩:=t.key t2 x h;exact⟨jj _ a,b⟩
noncomputable def mz (kvs:List (D×D))(k:D):Option D:=(kvs.find? λp=>decide (p.1=k)).map (·.2)
theorem lL.at {K:ja}{F:Hp}(k:D):∀ {l:List (D×D)} {m:List (D×Gj×V)} {n:List (D×Gj×Gg)},lL K F l m->WV m n->(mz l k=Gb/\atKey n k=Gb)\/∃ d v p,mz l k=Ga d/\atKey n k=Ga p/\fP K F d v/\fC v p.2
 | _,_,_,.nil,.nil=>.inl ⟨rfl,rfl⟩
 | (j,d)::l,(_,b,v)::m,(_,_,u)::n,.cons hk h t,.cons r t2=>by
  unfold mz atKey;by_cases c:j=k
  .exact .inr ⟨d,v,(b,u),by rw[kB (p:=λ(p:D×D)=>decide (p.1=k)) (Gc c)];rfl,by rw[kB (p:=λ(x:D×Gj×Gg)=>decide (x.1=k)) (Gc c)];rfl,h,r⟩
  .rw[kC (p:=λ(p:D×D)=>decide (p.1=k)) (by simpa using c),kC (p:=λ(x:D×Gj×Gg)=>decide (x.1=k)) (by simpa using c)];exact t.at k t2
theorem Wt {kvs:List (D×D)}{k:D}(h:mz kvs k=Gb):k∉kvs.map (·.1):=λhm=>by
 unfold mz at h;rw[vJ] at h;obtain⟨p,h1,h2⟩:=jq.mp hm;have:=uz.mp h p h1;exact this (Gc h2)
theorem zrC {kvs:List (D×D)}{k d:D}(ok:zC kvs)(hk:fA k 8=true)(hn:k∉kvs.map (·.1))(hl:kvs.length<1000000):zC (kvs++[(k,d)]):=by
 refine⟨λx hx=>?_,?_,by rw[jC];exact hl⟩
 .rw[kJ] at hx;rcases kc.mp hx with z|z
  .exact ok.key x z
  .rw[jp.mp z];exact hk
 .rw[kJ,uE];refine⟨ok.nd,jJ.mpr ⟨by simp,j7⟩,λx hx y hy=>?_⟩;rw[jp.mp hy];exact λz=>hn (by have z2:x=k:=z;rw[<- z2];exact hx)
section
variable {X:Cx}{pos:Pos}
theorem Mu {ω:List (Gj×Obj)}{σ:St}{F H:Hp}{s:Gh}{a:Gj}{kvs:List (D×D)}{ws:List (D×Gj×V)}{ep:Nat}(I:eS X ω σ H s)(g:aG F H)(e:H a=Ga (.ext (rj a ws ep)))(ok:zC kvs)(q:lL X.K F kvs ws):∃ l,WV ws l/\s.heap.DictOfH (oB X.prog X.w) a l:=by
 obtain⟨o,es,l,ho,hc,hd,he,wv⟩:=UM I.hok e;refine⟨l,wv,o,es,ep,ho,hc,hd,he,λx hx=>?_,by rw[q.fst wv];exact ok.nd⟩;obtain⟨h1,h2⟩:=q.key wv x hx;exact⟨ok.key _ h1,fP.reads I g h2 (AM (ok.key _ h1)) rfl⟩
theorem Uu:PE X (.Dict [] [] pos) (λσ H Q=>∀ p,H p=Gb->(p==sysModules)=false->Q (.ref p) (upd H p (.ext (rj p [] 0)))):=λω s σ H Q I h =>
 wpAny_Dict_empty ⟨.ref s.heap.objs.size,_,I.laid (a:=s.heap.objs.size) (o:=.ext (rj s.heap.objs.size [] 0)) (t':=s.toks) (λ_ _ q=>jg _ q) (jr _) (OI ⟨_,#[],[],jD _ rfl,⟨rfl,rfl,rfl⟩,rfl,rfl,.nil⟩),rfl,
  h _ (I.hok.fresh (jr _)) (beq_eq_false_iff_ne.mpr (kT (jG I.big)))⟩
abbrev zB (i:Nat):FS:=λψ=>Ga (.nx (ψ.set i (.dkt [])))
theorem Rt (i:Nat){x:Str}{p pos':Pos}(hN:X.N.Nodup)(hi:X.N[i]?=Ga x:=by rfl)(hx:oZ X.env.scope x:=by first|exact kw rfl|exact jZ rfl)
  (hs:swapsWith (.Dict [] [] p) (Ga (.Name x pos')) pos.line X.env=pure false:=by rfl) (hf:X.fn x=true\/X.env.scope.names.lookup x=Ga .local:=by first|exact .inl rfl|exact .inr rfl) :
  lG X (.Assign [.Name x pos'] (.Dict [] [] p) pos) (zB i):=by
 intro ω s σ H D I hw;refine pj hN hi hx Uu hs hf ω s σ H D I ?_;obtain⟨H0,F,ψ,o,r,e,p⟩:=hw;cases e;have hl:i<σ.length:=by rw[I.len];exact(ji.mp hi).1
 intro a ha sm;have g:aG H (upd H a (.ext (rj a [] 0))):=aG.new ha;exact p _ _ F (.refl _) (.refl _ _) ((r.later g).putG hl ⟨a,[],0,rfl,eZ,r.fh.free ha,r.h0.free ha,.nil,sm,⟨λ_ h=>(by cases h),j7,jX _⟩⟩ λj s o _ ej=>r.ne_free ha j s o ej)
noncomputable def iY (i:Nat)(fk fv:FV):FD:=λψ=>(fk ψ).bind λk=>(fv ψ).bind λd=>match ψ[i]? with
 | some (.dkt kvs)=>if (fA k 8&&mP k)=true/\kvs.length<1000000 then(match mz kvs k with
  | some d'=>Ga (d',ψ)
  | none=>Ga (d,ψ.set i (.dkt (kvs++[(k,d)])))) else Gb
 | _=>Gb
theorem Ra (i:Nat){x:Str}{ke ve:Expr}{fk fv:FV}{p p2 p3:Pos}(hu:X.A.units+100<cLine)(hk:PV X ke fk)(hval:PV X ve fv)(hN:X.N[i]?=Ga x:=by rfl)(hv:mq X.env.scope x:=by first|exact kw rfl|exact jZ (kw rfl)|exact jZ (jZ rfl))(hd:(x==("__debug__":Str))=false:=by decide)(hcd:(x==("__classdict__":Str))=false:=by decide)
  (m:M2 X (.Name x p) "setdefault" p2 ke ve p3:=by exact⟨rfl,rfl,rfl,rfl⟩) :
  PD X (.Call (.Attribute (.Name x p) "setdefault" p2) [ke,ve] [] p3) (iY i fk fv):=by
 intro ω s σ H Q I hw;obtain⟨H0,F,ψ,d0,env2,r,e,q⟩:=hw;obtain⟨k,e1,e⟩:=aj e;obtain⟨d,e2,e⟩:=aj e;split at e;rotate_left
 .cases e
 rename_i kvs z;split at e;rotate_left
 .cases e
 rename_i c;obtain⟨c1,c2⟩:=c;rw[jo] at c1;obtain⟨xs,rfl⟩:=Lg c1.2;obtain⟨u,x3,a,ws,ep,x4,ha,fa,h0a,rr,sm,ok⟩:=r.sl i _ z;subst x4;refine wpAny_Call_method m.base m.few m.line vA uj v4 (fW (iJ (pos:=p) hN hv hd hcd ω s σ H (λv H1=>v=.ref a/\H1=H) I ⟨.ref a,x3,rfl,rfl⟩) λu s1 ⟨v,H1,I1,rx,ev,eH⟩=>?_);subst ev;subst eH;cases rx;obtain⟨l0,_,dd0⟩:=Mu I1 r.fh ha ok rr;refine⟨dd0.typeIs,λb zb=>by cases zb;obtain⟨ob,_,_,h1,h2,_⟩:=dd0;exact⟨ob,h1,h2.2.1⟩,?_⟩;rw[m.trees];refine um rfl (uR (uu (fW (hk ω s1 σ H1 (λv2 H2=>∃ F2,aG H1 H2/\aG F F2/\aG F2 H2/\fR F F2 H1/\fP X.K F2 (.tuple xs) v2) I1 ⟨H0,F,ψ,.tuple xs,r,e1,λv2 H2 F2 g2 f2 fh2 n2 rv2=>⟨F2,g2,f2,fh2,n2,rv2⟩⟩) λu2 s2 ⟨v2,H2,I2,rx2,F2,g2,f2,fh2,n2,rv2⟩ =>
  uu (fW (hval ω s2 σ H2 (λv3 H3=>∃ F3,aG H2 H3/\aG F2 F3/\aG F3 H3/\fR F2 F3 H2/\fP X.K F3 d v3) I2 ⟨H0,F2,ψ,d,r.grow g2 f2 fh2 n2,e2,λv3 H3 F3 g3 f3 fh3 n3 rv3=>⟨F3,g3,f3,fh3,n3,rv3⟩⟩) λu3 s3 ⟨v3,H3,I3,rx3,F3,g3,f3,fh3,n3,rv3⟩=>vD ?_))))
 have r3:=(r.grow g2 f2 fh2 n2).grow g3 f3 fh3 n3;have nn:fR F F3 H0:=(n2.dn r.h0).up (n3.dn (r.grow g2 f2 fh2 n2).h0);obtain⟨u,x5,a',ws3,ep3,x6,ha3,fa3,h0a3,rr3,sm3,ok3⟩:=r3.sl i _ z;subst x6;rw[x3] at x5;cases x5;have rk:=rv2.mono f3;clear rv2;generalize hkk:kW xs=kt at rk e c1;cases rk<;>first|(cases hkk;done)|skip
 rename_i b vs ds hb rb;cases rx2;obtain⟨l,wv,dd⟩:=Mu I3 fh3 ha3 ok3 rr3;obtain⟨bs,rd⟩:=fP.reads I3 fh3 (.tup hb rb) (AM c1.1) (u:=.ref b) rfl;have hz:l.length<=sizeLine:=by
  have:=rr3.fst wv;have h2:=congrArg qi this;rw[jd,jd] at h2;rw[h2,sizeLine_eq];omega
 refine call_meetsIn uj dd.typeIs vY (vR _ _ _) (ZM (oB X.prog X.w) a b sm3 u3) ⟨show X.A.units+1+20<cLine by omega,_,l,⟨c1.1,_,rd⟩,dd,hz,λp hp=>?_,λhn h' hm hs=>?_⟩
 .rcases rr3.at (.tuple ds) wv with ⟨_,z2⟩|⟨d',v',p',z1,z2,z3,z4⟩
  .rw[z2] at hp;cases hp
  .rw[z2] at hp;cases hp;rw[z1] at e;cases e;exact⟨v',H3,I3.tok _,z4,q v' H3 F3 (f2.trans f3) nn r3 z3⟩
 .rcases rr3.at (.tuple ds) wv with ⟨z1,_⟩|⟨d',v',p',z1,z2,z3,z4⟩;rotate_left
  .rw[z2] at hn;cases hn
  rw[z1] at e;cases e;obtain⟨o',es',ep',ho',hc',hd',he',_,_⟩:=hm;refine⟨v3,_,wk I3 (by rw[ha3];trivial) hs ⟨o',ho'⟩ (OI (ws:=ws3++[(.tuple ds,b,v3)]) (ep:=ep') ⟨o',es',_,ho',hc',hd',he',wv.snoc rx3⟩),rx3,q v3 _ F3 (f2.trans f3) nn ?_ rv3⟩;exact r3.chgG z rfl x3 ⟨a,_,ep',rfl,eZ,fa3,h0a3,rr3.snoc (.tup hb rb) rv3,sm3,zrC ok3 c1.1 (Wt z1) c2⟩
def lm:mQ:=λψ=>Ga ([],ψ)
def iE (i:Nat)(g:mQ):mQ:=λψ=>match ψ[i]? with
 | some s=>if gJ s=true then(g ψ).bind λp=>Ga (.inr i::p.1,p.2) else Gb
 | none=>Gb
def iT (f:FV)(g:mQ):mQ:=λψ=>(f ψ).bind λd=>(g ψ).bind λp=>Ga (.inl d::p.1,p.2)
def mo (f:FD)(g:mQ):mQ:=λψ=>(f ψ).bind λr=>(g r.2).bind λp=>Ga (.inl r.1::p.1,p.2)
theorem Ms:sM X [] lm:=by
 refine rG iL λσ H Q=>?_;rintro⟨H0,F,ψ,as,env1,r,e,_,q⟩;cases e;exact q [] H F (.refl _) (.refl _ _) r .nil
theorem Oh {e:Expr}{es:List Expr}{f:FV}{g:mQ}(ha:PV X e f)(hr:sM X es g)(hs:starEach (e::es) X.env=(false,eval e X.env)::starEach es X.env:=by rfl):sM X (e::es) (iT f g):=by
 refine rG (gA ha hr hs) λσ H Q=>?_;rintro⟨H0,F,ψ,as,env1,r,e,ow,q⟩;obtain⟨d,e1,e⟩:=aj e;obtain⟨l,e2,e⟩:=aj e;cases e;refine⟨H0,F,ψ,d,r,e1,λv H1 F1 g1 f1 fh1 n1 rv=>⟨H0,F1,ψ,l.1,l.2,r.grow g1 f1 fh1 n1,e2,λi hi=>ow i (jj _ hi),λvs H2 F2 f2 n2 r2 rvs=>?_⟩⟩;exact q (v::vs) H2 F2 (f1.trans f2) ((n1.dn r.h0).up n2) r2 (.val (rv.mono f2) rvs)
theorem VJ {e:Expr}{es:List Expr}{f:FD}{g:mQ}(ha:PD X e f)(hr:sM X es g)(hs:starEach (e::es) X.env=(false,eval e X.env)::starEach es X.env:=by rfl):sM X (e::es) (mo f g):=by
 refine rG (gA ha hr hs) λσ H Q=>?_;rintro⟨H0,F,ψ,as,env1,r,e,ow,q⟩;obtain⟨⟨d,e3⟩,e1,e⟩:=aj e;obtain⟨l,e2,e⟩:=aj e;cases e;refine⟨H0,F,ψ,d,e3,r,e1,λv H1 F1 f1 n1 r1 rv=>⟨H0,F1,e3,l.1,l.2,r1,e2,λi hi=>ow i (jj _ hi),λvs H2 F2 f2 n2 r2 rvs=>?_⟩⟩;exact q (v::vs) H2 F2 (f1.trans f2) (n1.up n2) r2 (.val (rv.mono f2) rvs)
theorem Oa (i:Nat){x:Str}{p:Pos}{es:List Expr}{g:mQ}(hr:sM X es g)(hN:X.N[i]?=Ga x:=by rfl)(hv:mq X.env.scope x:=by first|exact kw rfl|exact jZ (kw rfl)|exact jZ (jZ rfl))(hd:(x==("__debug__":Str))=false:=by decide)
  (hcd:(x==("__classdict__":Str))=false:=by decide) (hs:starEach (.Name x p::es) X.env=(false,eval (.Name x p) X.env)::starEach es X.env:=by rfl):sM X (.Name x p::es) (iE i g):=by
 refine rG (gA (iJ hN hv hd hcd) hr hs) λσ H Q=>?_;rintro⟨H0,F,ψ,as,env1,r,e,ow,q⟩;unfold iE at e;split at e;rotate_left
 .cases e
 rename_i s es';split at e;rotate_left
 .cases e
 rename_i os;obtain⟨l,e2,e⟩:=aj e;cases e;obtain⟨u,e1,z⟩:=r.sl i s es';obtain⟨a,ob,rfl,_⟩:=z.at os;exact⟨.ref a,e1,H0,F,ψ,l.1,l.2,r,e2,λi hi=>ow i (jj _ hi),λvs H2 F2 f2 n2 r2 rvs=>q (.ref a::vs) H2 F2 f2 n2 r2 (.own e1 rvs)⟩
theorem Mp:∀ ψ as env1,lm ψ=Ga (as,env1)->as.length=0:=λ_ _ _ h=>by cases h;rfl
theorem Lz {f:FV}{g:mQ}{n:Nat}(h:∀ ψ as env1,g ψ=Ga (as,env1)->as.length=n):∀ ψ as env1,iT f g ψ=Ga (as,env1)->as.length=n+1:=λ_ _ _ e=>by
 obtain⟨d,e1,e⟩:=aj e;obtain⟨l,e2,e⟩:=aj e;cases e;exact congrArg uv (h _ _ _ e2)
theorem XT {f:FD}{g:mQ}{n:Nat}(h:∀ ψ as env1,g ψ=Ga (as,env1)->as.length=n):∀ ψ as env1,mo f g ψ=Ga (as,env1)->as.length=n+1:=λ_ _ _ e=>by
 obtain⟨d,e1,e⟩:=aj e;obtain⟨l,e2,e⟩:=aj e;cases e;exact congrArg uv (h _ _ _ e2)
theorem OW {i:Nat}{g:mQ}{n:Nat}(h:∀ ψ as env1,g ψ=Ga (as,env1)->as.length=n):∀ ψ as env1,iE i g ψ=Ga (as,env1)->as.length=n+1:=λ_ _ _ e=>by
 unfold iE at e;split at e;rotate_left
 .cases e
 split at e;rotate_left
 .cases e
 obtain⟨l,e2,e⟩:=aj e;cases e;exact congrArg uv (h _ _ _ e2)
def ny (f:FD):FS:=λψ=>(f ψ).bind λr=>Ga (.nx r.2)
theorem Sq {e:Expr}{f:FD}(h:PD X e f)(hs:swapsWith e Gb pos.line X.env=pure false:=by rfl):lG X (.Expr e pos) (ny f):=by
 refine oF (rN h hs) λE σ H=>?_;rintro⟨H0,F,ψ,o,r,e,p⟩;obtain⟨⟨d,e2⟩,e1,e⟩:=aj e;cases e;exact⟨H0,F,ψ,d,e2,r,e1,λv H' F' f1 n r' rv=>p σ H' F' f1 n r'⟩
end
def Ex (H0 H1:Hp):Prop:=∀ x,H1 x=H0 x\/(H0 x=Gb/\∃ o,H1 x=Ga o/\Pl o)
theorem Ex.sub {H0 H1:Hp}(x:Ex H0 H1){b:Gj}{o:HO}(h:H0 b=Ga o):H1 b=Ga o:=by
 rcases x b with e|⟨e,_⟩
 .rw[e];exact h
 .rw[e] at h;cases h
theorem Ex.non {H0 H1:Hp}(x:Ex H0 H1){b:Gj}(h:H1 b=Gb):H0 b=Gb:=by
 cases q:H0 b with
 | none=>rfl
 | some o=>rw[x.sub q] at h;cases h
theorem Ex.good {H0 H1:Hp}(x:Ex H0 H1){l:List Gg}(g:fV H1 l):fV H0 l :=
 ⟨g.1,λpos cv e=>by
  obtain⟨c,o,vs,v,e1,e2,e3⟩:=g.2 pos cv e;refine⟨c,o,vs,v,e1,?_,e3⟩;rcases x c with z|⟨_,u,z1,z2⟩
  .rw[<- z];exact e2
  .rw[z1] at e2;cases e2;exact z2.elim⟩
theorem Ex.upd {H0 H1:Hp}(x:Ex H0 H1){c:Gj}{o:HO}(n:H0 c=Gb)(p:Pl o):Ex H0 (upd H1 c o):=λb=>by
 by_cases h:b=c
 .subst h;rw[eZ];exact .inr ⟨n,o,rfl,p⟩
 .rw[eQ h];exact x b
theorem fR.ex {H0 H1 F F':Hp}(x:Ex H0 H1)(n:fR F F' H1):fR F F' H0:=λb o e f=>x.non (n b o e f)
section
variable {K:ja}{H0 H1 F F' H H':Hp}{ψ env':En}{σ:St}
theorem RS.down (x:Ex H0 H1)(r:RS K H1 F H ψ σ):RS K H0 F H ψ σ:=by
 refine⟨λb o h=>(r.h0 b o (x.sub h)).from λl g=>g.sub λc u e=>x.sub e,r.fh,λi s e=>?_,r.ap⟩;obtain⟨u,e1,q⟩:=r.sl i s e;refine⟨u,e1,?_⟩;cases s with
 | no=>trivial
 | val d=>exact q
 | own ds=>obtain⟨b,xs,e2,hb,fb,h0b,rr⟩:=q;exact⟨b,xs,e2,hb,fb,x.non h0b,rr⟩
 | owk b ds=>obtain⟨xs,e2,hb,fb,h0b,rr⟩:=q;exact⟨xs,e2,hb,fb,x.non h0b,rr⟩
 | dic ks=>obtain⟨b,as,ep,e2,hb,fb,h0b,rr⟩:=q;exact⟨b,as,ep,e2,hb,fb,x.non h0b,rr⟩
 | dki oa kvs=>obtain⟨b,ws,ep,e2,hb,fb,h0b,rr⟩:=q;exact⟨b,ws,ep,e2,hb,fb,x.non h0b,rr⟩
 | dkt kvs=>obtain⟨b,ws,ep,e2,hb,fb,h0b,rr⟩:=q;exact⟨b,ws,ep,e2,hb,fb,x.non h0b,rr⟩
 | tab P =>
  obtain⟨ps,q,g⟩:=q;rcases x P with z|⟨_,o,z1,z2⟩
  .exact⟨ps,by rw[<- z];exact q,x.good g⟩
  .rw[z1] at q;cases q;exact z2.elim
 | fn c=>exact q
theorem RS.adopt (r:RS K H1 F H ψ σ){c:Gj}{o:HO}(ha:H c=Ga o)(pl:Pl o)(h1:H1 c=Gb)(ne:∀ (j:Nat) (s:Sl),gJ s=true->ψ[j]?=Ga s->σ[j]?≠Ga (Ga (.ref c))):RS K (upd H1 c o) F H ψ σ:=by
 refine⟨r.h0.upL ha pl,r.fh,λi s e=>?_,r.ap⟩;obtain⟨u,e1,q⟩:=r.sl i s e;refine⟨u,e1,?_⟩;have nn:∀ b,gJ s=true->u=Ga (.ref b)->b≠c:=λb o z w=>by subst w;subst z;exact ne i s o e e1
 cases s with
 | no=>trivial
 | val d=>exact q
 | own ds=>obtain⟨b,xs,e2,hb,fb,h0b,rr⟩:=q;exact⟨b,xs,e2,hb,fb,by rw[eQ (nn b rfl e2)];exact h0b,rr⟩
 | owk b ds=>obtain⟨xs,e2,hb,fb,h0b,rr⟩:=q;exact⟨xs,e2,hb,fb,by rw[eQ (nn b rfl e2)];exact h0b,rr⟩
 | dic ks=>obtain⟨b,as,ep,e2,hb,fb,h0b,rr⟩:=q;exact⟨b,as,ep,e2,hb,fb,by rw[eQ (nn b rfl e2)];exact h0b,rr⟩
 | dki oa kvs=>obtain⟨b,ws,ep,e2,hb,fb,h0b,rr⟩:=q;exact⟨b,ws,ep,e2,hb,fb,by rw[eQ (nn b rfl e2)];exact h0b,rr⟩
 | dkt kvs=>obtain⟨b,ws,ep,e2,hb,fb,h0b,rr⟩:=q;exact⟨b,ws,ep,e2,hb,fb,by rw[eQ (nn b rfl e2)];exact h0b,rr⟩
 | tab P =>
  obtain⟨ps,q,g⟩:=q;exact⟨ps,by rw[eQ (gQ q h1)];exact q,g.updG λx u z=>by rw[h1] at z;cases z⟩
 | fn c=>exact q
theorem UR {H1:Hp}{a:Gj}{o:HO}(h:H1 a=Ga o):L2.upd H1 a o=H1:=by
 funext b
 by_cases c:b=a
 .subst c;rw[eZ,h]
 .rw[eQ c]
theorem RS.swapA (r:RS K H1 F H ψ σ){a:Gj}{o o':HO}(h:H1 a=Ga o)(fa:F a=Gb)(pl:Pl o)(pl':Pl o'):RS K (upd H1 a o') F (upd H a o') ψ σ:=by
 have r':RS K (upd H1 a o) F H ψ σ:=by rw[UR h];exact r
 exact r'.swap fa pl pl'
inductive iI (K:ja)(H0 F H1:Hp):List (Int×List D)->List (Int×V)->Prop where
 | nil:iI K H0 F H1 [] []
 | cons {k:Int} {ds:List D} {b:Gj} {xs:List V} {l:List (Int×List D)} {m:List (Int×V)} (h:H1 b=Ga (.lst xs)) (f:F b=Gb) (n:H0 b=Gb) (r:fg K F ds xs) (t:iI K H0 F H1 l m):iI K H0 F H1 ((k,ds)::l) ((k,.ref b)::m)
theorem iI.to {H1':Hp}(f:aG F F'):∀ {l:List (Int×List D)} {m:List (Int×V)},iI K H0 F H1 l m->(∀ b xs,V.ref b∈m.map (·.2)->H1 b=Ga (.lst xs)->F b=Gb->H1' b=Ga (.lst xs)/\F' b=Gb)->iI K H0 F' H1' l m
 | _,_,.nil,_=>.nil
 | _,_,.cons h fb n r t,k=>.cons (k _ _ jf h fb).1 (k _ _ jf h fb).2 n (r.mono f) (t.to f λb xs hb=>k b xs (jj _ hb))
theorem iI.fst:∀ {l:List (Int×List D)} {m:List (Int×V)},iI K H0 F H1 l m->m.map (·.1)=l.map (·.1)
 | _,_,.nil=>rfl
 | _,_,.cons _ _ _ _ t=>congrArg (_::·) t.fst
theorem iI.snoc {k:Int}{ds:List D}{b:Gj}{xs:List V}(h:H1 b=Ga (.lst xs))(f:F b=Gb)(n:H0 b=Gb)(r:fg K F ds xs):∀ {l:List (Int×List D)} {m:List (Int×V)},iI K H0 F H1 l m->iI K H0 F H1 (l++[(k,ds)]) (m++[(k,.ref b)])
 | _,_,.nil=>.cons h f n r .nil
 | _,_,.cons h1 f1 n1 r1 t=>.cons h1 f1 n1 r1 (t.snoc h f n r)
theorem iI.mem:∀ {l:List (Int×List D)} {m:List (Int×V)},iI K H0 F H1 l m->∀ v∈m.map (·.2),∃ b xs,v=.ref b/\H1 b=Ga (.lst xs)/\F b=Gb/\H0 b=Gb
 | _,_,.nil,v,h=>by cases h
 | _,_,.cons h1 f1 n1 r1 t,v,h=>by
  rcases jx.mp h with rfl|h
  .exact⟨_,_,rfl,h1,f1,n1⟩
  .exact t.mem v h
def wz (l:List (Int×List D))(k:Int):Option (List D):=(l.find? λp=>decide (p.1=k)).map (·.2)
theorem iI.at (k:Int):∀ {l:List (Int×List D)} {m:List (Int×V)},iI K H0 F H1 l m->(wz l k=Gb/\lu m k=Gb)\/∃ ds b xs,wz l k=Ga ds/\lu m k=Ga (.ref b)/\H1 b=Ga (.lst xs)/\F b=Gb/\H0 b=Gb/\fg K F ds xs
 | _,_,.nil=>.inl ⟨rfl,rfl⟩
 | (j,ds)::l,(_,_)::m,.cons (b:=b) (xs:=xs) h f n r t=>by
  unfold wz lu;by_cases c:j=k
  .exact .inr ⟨ds,b,xs,by rw[kB (p:=λ(p:Int×List D)=>decide (p.1=k)) (Gc c)];rfl,by rw[kB (p:=λ(kv:Int×V)=>decide (kv.1=k)) (Gc c)];rfl,h,f,n,r⟩
  .rw[kC (p:=λ(p:Int×List D)=>decide (p.1=k)) (by simpa using c),kC (p:=λ(kv:Int×V)=>decide (kv.1=k)) (by simpa using c)];exact t.at k
def nL (l:List (Int×List D))(k:Int)(d:D):List (Int×List D):=l.map λp=>if p.1=k then(p.1,p.2++[d]) else p
def nq (l:List (Int×List D))(k:Int):List (Int×List D):=if (wz l k).isSome=true then l else l++[(k,[])]
theorem Uy {m:List (Int×V)}{k:Int}{v:V}(h:lu m k=Ga v):(k,v)∈m:=by
 unfold lu at h;obtain⟨p,h1,h2⟩:=ur.mp h;have e:=of_decide_eq_true (qN (p:=λ(kv:Int×V)=>decide (kv.1=k)) h1);have m1:=qg h1;subst h2;subst e;exact m1
theorem iI.app {k:Int}{d:D}{v:V}{b:Gj}{xs:List V}(hv:fP K F d v):∀ {l:List (Int×List D)} {m:List (Int×V)},iI K H0 F H1 l m->(l.map (·.1)).Nodup->(m.map (·.2)).Nodup->(k,V.ref b)∈m->H1 b=Ga (.lst xs)->iI K H0 F (upd H1 b (.lst (xs++[v]))) (nL l k d) m
 | _,_,.nil,_,_,h,_=>by cases h
 | (j,ds)::l,(_,_)::m,.cons (b:=c) (xs:=ys) h f n r t,nd,nd2,hm,hb=>by
  have nd':=jJ.mp nd;have nd2':=jJ.mp nd2;unfold nL;rw[jB];rcases jx.mp hm with e|hm'
  .cases e;rw[Ge rfl];rw[hb] at h;cases h;refine .cons eZ f n (r.append (.cons hv .nil)) ?_;have e2:(l.map λp=>if p.1=k then(p.1,p.2++[d]) else p)=l:=by
    refine(ka λp hp=>?_).trans (List.map_id _);rw[Gf (λz:p.1=k=>nd'.1 (jq.mpr ⟨p,hp,z⟩))];rfl
   rw[e2];refine t.to (.refl _) λb2 zs h2 h3 f3=>⟨?_,f3⟩;rw[eQ (λz=>by subst z;exact nd2'.1 h2)];exact h3
  .have hk:k∈l.map (·.1):=by rw[<- t.fst];exact jq.mpr ⟨_,hm',rfl⟩
   rw[Gf (λz:j=k=>nd'.1 (z▸hk))];have hc:c≠b:=λz=>nd2'.1 (z▸jq.mpr ⟨_,hm',rfl⟩);exact .cons (by rw[eQ hc];exact h) f n r (t.app hv nd'.2 nd2'.2 hm' hb)
structure GS (K:ja)(H0 F H:Hp)(ψ:En)(σ:St)(i:Nat)(kvs:List (Int×List D))(H1:Hp)(a:Gj)(ws:List (Int×V))(ep:Nat):Prop where
 ex:Ex H0 H1
 rs:RS K H1 F H ψ σ
 pl:σ[i]?=Ga (Ga (.ref a))
 dic:H1 a=Ga (.ext (lN a ws ep))
 fa:F a=Gb
 h0a:H0 a=Gb
 sm:(a==sysModules)=false
 ls:iI K H0 F H1 kvs ws
 nd:(ws.map (·.2)).Nodup
 kd:(kvs.map (·.1)).Nodup
 len:kvs.length<=1000
variable {i:Nat}{kvs:List (Int×List D)}{a:Gj}{ws:List (Int×V)}{ep:Nat}
theorem GS.to (q:GS K H0 F H ψ σ i kvs H1 a ws ep)(f:aG F F')(n:fR F F' H1)(r:RS K H1 F' H' env' σ):GS K H0 F' H' env' σ i kvs H1 a ws ep:=by
 have k:∀ b o,H1 b=Ga o->F b=Gb->F' b=Gb:=λb o h fb=>by
  cases z:F' b with
  | none=>rfl
  | some u=>rw[n b u z fb] at h;cases h
 exact⟨q.ex,r,q.pl,q.dic,k _ _ q.dic q.fa,q.h0a,q.sm,q.ls.to f λb xs _ h fb=>⟨h,k _ _ h fb⟩,q.nd,q.kd,q.len⟩
theorem GS.grow (q:GS K H0 F H ψ σ i kvs H1 a ws ep)(g:aG H H')(f:aG F F')(fh:aG F' H')(n:fR F F' H):GS K H0 F' H' ψ σ i kvs H1 a ws ep:=q.to f (n.dn q.rs.h0) (q.rs.grow g f fh n)
theorem GS.keys (q:GS K H0 F H ψ σ i kvs H1 a ws ep):(ws.map (·.1)).Nodup:=by rw[q.ls.fst];exact q.kd
theorem GS.wlen (q:GS K H0 F H ψ σ i kvs H1 a ws ep):ws.length=kvs.length:=by have:=congrArg qi q.ls.fst;rwa [jd,jd] at this
theorem Ot {k:Int}(h:wz kvs k=Gb):k∉kvs.map (·.1):=λhm=>by
 unfold wz at h;rw[vJ] at h;obtain⟨p,h1,h2⟩:=jq.mp hm;have:=uz.mp h p h1;exact this (Gc h2)
end
section
variable {X:Cx}{pos:Pos}
def QB (K:ja)(i:Nat)(fk:FD):TE:=λσ H Q=>∃ H0 F ψ kvs k env2 H1 a ws ep,GS K H0 F H ψ σ i kvs H1 a ws ep/\fk ψ=Ga (.int k,env2)/\kvs.length<1000 /\
 ∀ H' F' H1' ws' ep' b xs,aG F F'->fR F F' H0->GS K H0 F' H' env2 σ i (nq kvs k) H1' a ws' ep'->(k,V.ref b)∈ws'->H1' b=Ga (.lst xs)->Q (.ref b) H'
theorem VA (i:Nat){x:Str}{ke:Expr}{fk:FD}{p p2 p3 p4:Pos}(hk:PD X ke fk)(hN:X.N[i]?=Ga x)(hv:mq X.env.scope x)(hd:(x==("__debug__":Str))=false)(hcd:(x==("__classdict__":Str))=false)
  (m:M2 X (.Name x p) "setdefault" p2 ke (.List [] p4) p3):PE X (.Call (.Attribute (.Name x p) "setdefault" p2) [ke,.List [] p4] [] p3) (QB X.K i fk):=by
 intro ω s σ H Q I hw;obtain⟨H0,F,ψ,kvs,k,env2,H1,a,ws,ep,G,e,hl,q⟩:=hw;have ha:=G.rs.h0 _ _ G.dic;have hL:PO X (.List [] p4) fN:=ng fG;refine wpAny_Call_method m.base m.few m.line vA uj v4 (fW (iJ (pos:=p) hN hv hd hcd ω s σ H (λv H1=>v=.ref a/\H1=H) I ⟨.ref a,G.pl,rfl,rfl⟩) λu s1 ⟨v,Hs,I1,rx,ev,eH⟩=>?_);subst ev;subst eH;cases rx;obtain⟨t1,t2⟩:=Pd I1 ha G.keys;refine⟨t1,t2,?_⟩;rw[m.trees];refine um rfl (uR (uu (fW (hk ω s1 σ Hs (λv2 H2=>∃ F2,GS X.K H0 F2 H2 env2 σ i kvs H1 a ws ep/\aG F F2/\fR F F2 H0/\fP X.K F2 (.int k) v2) I1 ⟨H1,F,ψ,.int k,env2,G.rs,e,λv2 H2 F2 f2 n2 r2 rv2=>⟨F2,G.to f2 n2 r2,f2,n2.ex G.ex,rv2⟩⟩) λu2 s2 ⟨v2,H2,I2,rx2,F2,G2,f2,n2,rv2⟩ =>
  uu (fW (hL ω s2 σ H2 (λv3 H3=>∃ c F3,v3=.ref c/\H2 c=Gb/\F3 c=Gb/\H3 c=Ga (.lst [])/\GS X.K H0 F3 H3 env2 σ i kvs H1 a ws ep/\aG F2 F3/\fR F2 F3 H0) I2 ⟨H1,F2,env2,[],G2.rs,rfl,λc xs H3 F3 g3 f3 fh3 n3 hc fc hc3 rr=>by cases rr;exact⟨c,F3,rfl,hc,fc,hc3,G2.grow g3 f3 fh3 n3,f3,(n3.dn G2.rs.h0).ex G2.ex⟩⟩) λu3 s3 ⟨v3,H3,I3,rx3,c,F3,ev3,hc,fc,hc3,G3,f3,n3⟩=>vD ?_))))
 subst ev3;cases rv2;cases rx3;obtain⟨tk,rfl⟩:=rx2;have ha3:=G3.rs.h0 _ _ G3.dic;obtain⟨vs,rel,dd⟩:=DV I3 ha3 G3.keys;have hz':vs.length<=sizeLine:=by rw[<- rel.length,G3.wlen,sizeLine_eq];omega
 refine call_meetsIn uj dd.typeIs vY (vR _ _ _) (kt_meets_setdefault (intKind X.prog X.w) a (Wd (k:=k) ⟨tk,rfl⟩) G3.sm (.ref c)) ⟨vs,dd,hz',λv hv=>?_,λhn h' dd' hs=>?_⟩
 .have rv:=rel.val k;rw[hv] at rv;rcases G3.ls.at k with ⟨z1,z2⟩|⟨ds,b,xs,z1,z2,z3,z4,z5,z6⟩
  .rw[z2] at rv;exact rv.elim
  .rw[z2] at rv;have rv':fC (.ref b) v:=rv;cases rv';have ea:nq kvs k=kvs:=by unfold nq;rw[z1];rfl
   exact⟨.ref b,H3,I3.tok _,rfl,q H3 F3 H1 ws ep b xs (f2.trans f3) (n2.up n3) (by rw[ea];exact G3) (Uy z2) z3⟩
 .rcases G3.ls.at k with ⟨z1,z2⟩|⟨ds,b,xs,z1,z2,z3,z4,z5,z6⟩;rotate_left
  .have rv:=rel.val k;rw[z2,hn] at rv;exact rv.elim
  have ea:nq kvs k=kvs++[(k,[])]:=by unfold nq;rw[z1];rfl
  obtain⟨o',es',ep',ho',hc',hd',hk',hp',_⟩:=dd';have pk:nM ws k (.ref c)=ws++[(k,.ref c)]:=by
   unfold nM;have:¬(ws.any λkv=>decide (kv.1=k))=true:=λz=>by
    obtain⟨p,h1,h2⟩:=uK.mp z;have:k∈kvs.map (·.1):=by rw[<- G3.ls.fst];exact jq.mpr ⟨p,h1,of_decide_eq_true h2⟩
    exact Ot z1 this
   rw[Gf this]
  have hw:=OD (rel.put k (show fC (.ref c) (.ref c) from rfl)) hp' λe h=>hk' e (u4.mp h);rw[pk] at hw;have hac:c≠a:=λz=>by subst z;rw[G2.rs.h0 _ _ G2.dic] at hc;cases hc
  have h1c:H1 c=Gb:=G2.rs.h0.free hc;refine⟨.ref c,_,wk I3 (by rw[ha3];trivial) hs ⟨o',ho'⟩ (MD (ws:=ws++[(k,.ref c)]) (ep:=ep') ⟨o',es',ho',hc',hd',hw⟩),rfl,?_⟩;have r4:RS X.K (upd H1 c (.lst [])) F3 H3 env2 σ:=G3.rs.adopt hc3 trivial h1c (G2.rs.ne_free hc);have d4:upd H1 c (.lst []) a=Ga (.ext (lN a ws ep)):=by rw[eQ (kT hac)];exact G3.dic
  have r5:RS X.K (upd (upd H1 c (.lst [])) a (.ext (lN a (ws++[(k,.ref c)]) ep'))) F3 (upd H3 a (.ext (lN a (ws++[(k,.ref c)]) ep'))) env2 σ:=r4.swapA d4 G3.fa trivial trivial;have nc:V.ref c∉ws.map (·.2):=λz=>by
   obtain⟨b,xs,e1,e2,_⟩:=G3.ls.mem _ z;cases e1;rw[h1c] at e2;cases e2
  have nak:∀ b xs,H1 b=Ga (.lst xs)->b≠a/\b≠c:=λb xs h=>⟨λz=>(by subst z;rw[G3.dic] at h;cases h),λz=>(by subst z;rw[h1c] at h;cases h)⟩;refine q _ F3 _ _ ep' c [] (f2.trans f3) (n2.up n3) (show GS X.K H0 F3 (upd H3 a (.ext (lN a (ws++[(k,.ref c)]) ep'))) env2 σ i (nq kvs k) (upd (upd H1 c (.lst [])) a (.ext (lN a (ws++[(k,.ref c)]) ep'))) a (ws++[(k,.ref c)]) ep' from ?_) (by simp) (by rw[eQ hac,eZ]);rw[ea];refine⟨(G3.ex.upd (o:=.lst []) (G3.ex.non h1c) trivial).upd G3.h0a trivial,r5,G3.pl,eZ,G3.fa,G3.h0a,G3.sm,?_,?_,?_,?_⟩
  .refine iI.snoc (by rw[eQ hac,eZ]) fc (G3.ex.non h1c) .nil (G3.ls.to (.refl _) λb xs _ h fb=>⟨?_,fb⟩);rw[eQ (nak b xs h).1,eQ (nak b xs h).2];exact h
  .rw[kJ,uE];refine⟨G3.nd,jJ.mpr ⟨by simp,j7⟩,λx hx y hy=>?_⟩;rw[jp.mp hy];exact λz=>nc (by have z2:x=V.ref c:=z;rw[<- z2];exact hx)
  .rw[kJ,uE];refine⟨G3.kd,jJ.mpr ⟨by simp,j7⟩,λx hx y hy=>?_⟩;rw[jp.mp hy];exact λz=>Ot z1 (by have z2:x=k:=z;rw[<- z2];exact hx)
  .rw[jC];exact hl
def PM (K:ja)(i:Nat)(fk:FD)(fv:FV):TS:=λE σ H=>∃ H0 F ψ kvs k env2 d H1 a ws ep,GS K H0 F H ψ σ i kvs H1 a ws ep/\fk ψ=Ga (.int k,env2)/\fv env2=Ga d/\kvs.length<1000/\(∀ p∈kvs,p.2.length<1000) /\
 ∀ H' F' H1' ws' ep',aG F F'->fR F F' H0->GS K H0 F' H' env2 σ i (nL (nq kvs k) k d) H1' a ws' ep'->E.nx σ H'
theorem WC (i:Nat){x:Str}{ke ve:Expr}{fk:FD}{fv:FV}{p p2 p3 p4 p5 p6:Pos}(hk:PD X ke fk)(hval:PV X ve fv)(hN:X.N[i]?=Ga x:=by rfl)(hv:mq X.env.scope x:=by first|exact kw rfl|exact jZ (kw rfl)|exact jZ (jZ rfl))(hd:(x==("__debug__":Str))=false:=by decide)(hcd:(x==("__classdict__":Str))=false:=by decide)
  (m:M2 X (.Name x p) "setdefault" p2 ke (.List [] p4) p3:=by exact⟨rfl,rfl,rfl,rfl⟩) (hst:starEach [ve] X.env=[(false,eval ve X.env)]:=by rfl) (hline:(p5.endLine==p6.line)=true:=by rfl)
  (hbase:attributeBase (.Call (.Attribute (.Name x p) "setdefault" p2) [ke,.List [] p4] [] p3) "append" X.env (eval (.Call (.Attribute (.Name x p) "setdefault" p2) [ke,.List [] p4] [] p3) X.env)=eval (.Call (.Attribute (.Name x p) "setdefault" p2) [ke,.List [] p4] [] p3) X.env:=by rfl)
  (hs:swapsWith (.Call (.Attribute (.Call (.Attribute (.Name x p) "setdefault" p2) [ke,.List [] p4] [] p3) "append" p5) [ve] [] p6) Gb pos.line X.env=pure false:=by rfl) :
  PS X (.Expr (.Call (.Attribute (.Call (.Attribute (.Name x p) "setdefault" p2) [ke,.List [] p4] [] p3) "append" p5) [ve] [] p6) pos) (PM X.K i fk fv):=by
 refine oF (rN (zD vo qm qo rp (VA i hk hN hv hd hcd m) (gA hval iL hst) hbase (by rw[hst];rfl) hline hst rfl) hs) λE σ H=>?_;rintro⟨H0,F,ψ,kvs,k,env2,d,H1,a,ws,ep,G,e,e2,hl,hz,q⟩;refine⟨H0,F,ψ,kvs,k,env2,H1,a,ws,ep,G,e,hl,λH' F' H1' ws' ep' b xs f n G' hm hb=>?_⟩;refine⟨.inl ⟨rfl,xs,gp.of (G'.rs.h0 _ _ hb)⟩,H1',F',env2,d,G'.rs,e2,λv H2 F2 g2 f2 fh2 n2 rv=>?_⟩;have G2:=G'.grow g2 f2 fh2 n2;have hb2:=G2.rs.h0 _ _ hb;have fb:F2 b=Gb:=by
  obtain⟨b',xs',e1,_,e3,_⟩:=G2.ls.mem _ (jq.mpr ⟨_,hm,rfl⟩);cases e1;exact e3
 have h0b:H0 b=Gb:=by
  obtain⟨b',xs',e1,_,_,e3⟩:=G2.ls.mem _ (jq.mpr ⟨_,hm,rfl⟩);cases e1;exact e3
 have hba:b≠a:=λz=>by subst z;rw[G2.dic] at hb;cases hb
 have lx:xs.length<1000:=by
  have:∀ {l:List (Int×List D)} {m:List (Int×V)},iI X.K H0 F2 H1' l m->(∀ p∈l,p.2.length<1000)->V.ref b∈m.map (·.2)->xs.length<1000:=λ{l m} h=>by
   induction h with
   | nil=>intro _ z;cases z
   | cons h f n r t ih =>
    intro hp z;rcases jx.mp z with z|z
    .cases z;rw[h] at hb;cases hb;rw[<- r.length];exact hp _ jf
    .exact ih (λp hq=>hp p (jj _ hq)) z
  refine this G2.ls (λp hp=>?_) (jq.mpr ⟨_,hm,rfl⟩);unfold nq at hp;split at hp
  .exact hz p hp
  .rcases kc.mp hp with z|z
   .exact hz p z
   .rw[jp.mp z];show 0<1000;decide
 refine⟨b,xs,v,rfl,rfl,hb2,by rw[sizeLine_eq];omega,?_⟩;refine q _ F2 (upd H1' b (.lst (xs++[v]))) ws' ep' (f.trans f2) (n.up ((n2.dn G'.rs.h0).ex G'.ex)) ⟨G2.ex.upd h0b trivial,G2.rs.swapA hb fb trivial trivial,G2.pl,by rw[eQ (kT hba)];exact G2.dic,G2.fa,G2.h0a,G2.sm,G2.ls.app rv G2.kd G2.nd hm hb,G2.nd,?_,?_⟩
 .have:(nL (nq kvs k) k d).map (·.1)=(nq kvs k).map (·.1):=by
   unfold nL;rw[jT];refine ka λp _=>?_;show(if p.1=k then(p.1,p.2++[d]) else p).1=p.1;split<;>rfl
  rw[this];exact G2.kd
 .unfold nL;rw[jd];exact G2.len
end
theorem SN {P:Program}{w:World}{H:Hp}{h:Heap}{v d:Gj}(p:h.IsValuesView v d):hZ P w H h v (.ext λh=>h.IsValuesView v d):=by
 obtain⟨o,ho,r⟩:=id p;exact⟨p,⟨o,ho⟩,λh1 h2 ⟨o,ho,r⟩ k=>⟨o,k _ ho,r⟩⟩
theorem KB {κ:Type}:∀ {ws:List (κ×V)} {vs:List (κ×Gg)} {i:Nat} {k:κ} {v:V} {k':κ} {u:Gg},KV ws vs->ws[i]?=Ga (k,v)->vs[i]?=Ga (k',u)->fC v u
 | _,_,_,_,_,_,_,.nil,h,_=>by simp at h
 | _,_,0,_,_,_,_,.cons a t,h,h2=>by cases h;cases h2;exact a.2
 | _,_,i+1,_,_,_,_,.cons a t,h,h2=>KB (i:=i) t h h2
section
variable {X:Cx}{pos:Pos}
theorem ZW (i:Nat){x:Str}{p p2 p3:Pos}(hN:X.N[i]?=Ga x)(hv:mq X.env.scope x)(hd:(x==("__debug__":Str))=false)(hcd:(x==("__classdict__":Str))=false)
  (hbase:attributeBase (.Name x p) "values" X.env (eval (.Name x p) X.env)=eval (.Name x p) X.env) (hline:(p2.endLine==p3.line)=true) :
  PE X (.Call (.Attribute (.Name x p) "values" p2) [] [] p3) (λσ H Q=>∃ a ws ep,σ[i]?=Ga (Ga (.ref a))/\H a=Ga (.ext (lN a ws ep))/\(ws.map (·.1)).Nodup/\(a==sysModules)=false/\∀ v,H v=Gb->Q (.ref v) (upd H v (.ext λh=>h.IsValuesView v a))):=by
 intro ω s σ H Q I hw;obtain⟨a,ws,ep,pl,ha,nd,sm,q⟩:=hw;refine wpAny_Call_method0_late hbase hline (fW (iJ (pos:=p) hN hv hd hcd ω s σ H (λv H1=>v=.ref a/\H1=H) I ⟨.ref a,pl,rfl,rfl⟩) λu s1 ⟨v,H1,I1,rx,ev,eH⟩=>?_);subst ev;subst eH;cases rx;obtain⟨t1,t2⟩:=Pd I1 ha nd;obtain⟨vs,rel,dd⟩:=DV I1 ha nd;refine⟨"dict","dict.values",vA,qq,PySem.F.type_dict_values,t1,t2,um rfl (Jd (call_meetsIn qq t1 PySem.F.entry_dict_values (PySem.F.args_dict_values_1 _) (meets_dict_values (intKind X.prog X.w) a sm) ⟨⟨vs,dd⟩,?_⟩))⟩;refine⟨.ref _,_,I1.laid (t':=s1.toks) (a:=s1.heap.objs.size) (o:=.ext λh=>h.IsValuesView s1.heap.objs.size a) (λ_ _ q=>jg _ q) (jr _) (SN ⟨_,jD _ rfl,rfl,rfl⟩),rfl,q _ (I1.hok.fresh (jr _))⟩
theorem Tn (hc:X.calm=true):hJ X (.type "list") (λxs H Q=>∃ (r d:Gj) (ws:List (Int×V)) (ep:Nat),xs=[.ref r]/\H r=Ga (.ext λh=>h.IsValuesView r d)/\H d=Ga (.ext (lN d ws ep))/\(ws.map (·.1)).Nodup/\ws.length<=1000/\∀ l,H l=Gb->Q (.ref l) (upd H l (.lst (ws.map (·.2))))):=by
 intro ω s σ H xs us Q I r h;obtain⟨rv,d,ws,ep,rfl,hr,hd,nd,hz,q⟩:=h;obtain⟨u,rfl,ru⟩:=vals1 r;cases ru;obtain⟨o,es,ho,hc',hdd,he⟩:=Mw I.hok hd;obtain⟨vs,h1,h2⟩:=he.pairs (P:=X.prog) (w:=X.w);have da:s.heap.DictAt (intKind X.prog X.w) d vs ep:=⟨o,es,ho,hc',hdd,λe h=>he.keys e (u4.mpr h),h2,by rw[HU h1];exact nd⟩;have iv:s.heap.IsValuesView rv d:=(I.hok _ _ hr).1;have hl:vs.length=ws.length:=h1.length.symm;refine PySem.W.kdl_call (PySem.W.kdl_values (knd:=intKind X.prog X.w) (r:=rv) (d:=d) (kvs:=vs) (ep:=ep)) (I.ok.hd hc) ⟨iv,da⟩ (by rw[hl,sizeLine_eq];omega) λh' tk acc c k na it=>?_;have vr:fw (ws.map (·.2)) acc.toList:=by
  refine Bc _ _ (by have a1:=it.1;have a2:=jQ (xs:=acc);rw[jd];omega) λi x u hx hu=>?_;obtain⟨k,e1⟩:=it.2 i u (by rw[<- kZ];exact hu);rw[jw] at hx;obtain⟨⟨k2,v2⟩,hb,rfl⟩:=ur.mp hx;exact KB h1 hb e1
 refine⟨.ref _,_,eS.laid (X:=X) (s:=s) (a:=s.heap.objs.size) (o:=.lst (ws.map (·.2))) (t':=tk) I k (jr _) ⟨by rw[jd,sizeLine_eq];omega,acc.toList,c,vr,?_⟩,rfl,q _ I.fresh⟩;rw[uD];exact na
open Classical in
noncomputable def sv (F H1:Hp)(ws:List (Int×V)):Hp:=λx=>if V.ref x∈ws.map (·.2) then H1 x else F x
theorem iI.reps {K:ja}{H0 F F' H1:Hp}(f:aG F F'):∀ {l:List (Int×List D)} {m:List (Int×V)},iI K H0 F H1 l m->(∀ b xs,V.ref b∈m.map (·.2)->H1 b=Ga (.lst xs)->F' b=Ga (.lst xs))->fg K F' (l.map λp=>vB p.2) (m.map (·.2))
 | _,_,.nil,_=>.nil
 | _,_,.cons h fb n r t,k=>.cons (.lst (gp.of (k _ _ jf h)) (r.mono f)) (t.reps f λb xs hb=>k b xs (jj _ hb))
theorem Zq (i:Nat){x:Str}{p p2 p3 p4:Pos}(hc:X.calm=true)(hg:Gl X "list")(hm:X.mg "list"=Gb)(hN:X.N[i]?=Ga x)(hv:mq X.env.scope x)(hd:(x==("__debug__":Str))=false)(hcd:(x==("__classdict__":Str))=false)
  (hbase:attributeBase (.Name x p) "values" X.env (eval (.Name x p) X.env)=eval (.Name x p) X.env) (hline:(p2.endLine==p3.line)=true)
  (hs:starEach [.Call (.Attribute (.Name x p) "values" p2) [] [] p3] X.env=[(false,eval (.Call (.Attribute (.Name x p) "values" p2) [] [] p3) X.env)]) :
  PE X (.Call (.Name "list" p4) [.Call (.Attribute (.Name x p) "values" p2) [] [] p3] [] pos) (λσ H Q=>∃ H0 F ψ kvs H1 a ws ep,GS X.K H0 F H ψ σ i kvs H1 a ws ep/\∀ v H' F',aG H0 H'->aG F F'->aG F' H'->fR F F' H0->fP X.K F' (.list (kvs.map λp=>.list p.2)) v->Q v H'):=by
 refine gX (AX (Tn hc) hg hm boot_list (ZW i hN hv hd hcd hbase hline) (hs:=hs)) λσ H Q=>?_;rintro⟨H0,F,ψ,kvs,H1,a,ws,ep,G,q⟩;have ha:=G.rs.h0 _ _ G.dic;refine⟨a,ws,ep,G.pl,ha,G.keys,G.sm,λv hv=>?_⟩;have s1:aG H (upd H v (.ext λh=>h.IsValuesView v a)):=aG.new hv;generalize hH2:upd H v (.ext λh=>h.IsValuesView v a)=H2 at s1;refine⟨v,a,ws,ep,rfl,by rw[<- hH2,eZ],s1 _ _ ha,G.keys,by rw[G.wlen];exact G.len,λl hl=>?_⟩;have inn:∀ b,V.ref b∈ws.map (·.2)->∃ xs,H1 b=Ga (.lst xs)/\F b=Gb/\H0 b=Gb:=λb hb=>by
  obtain⟨b',xs,e1,e2,e3,e4⟩:=G.ls.mem _ hb;cases e1;exact⟨xs,e2,e3,e4⟩
 have fin:∀ b,V.ref b∈ws.map (·.2)->sv F H1 ws b=H1 b:=λb h=>Ge h;have fnn:∀ b,¬V.ref b∈ws.map (·.2)->sv F H1 ws b=F b:=λb h=>Gf h;have fF:aG F (sv F H1 ws):=aG.of λb o h=>by
  by_cases c:V.ref b∈ws.map (·.2)
  .obtain⟨xs,_,e,_⟩:=inn b c;rw[e] at h;cases h
  .rw[fnn b c];exact h
 have gF:∀ t,fV (sv F H1 ws) t->fV F t:=λt g=>⟨g.1,λpos cv e=>by
  obtain⟨c,o,vs,v,e1,e2,e3⟩:=g.2 pos cv e;refine⟨c,o,vs,v,e1,?_,e3⟩;by_cases z:V.ref c∈ws.map (·.2)
  .obtain⟨xs,e,_⟩:=inn c z;rw[fin c z,e] at e2;cases e2
  .rw[fnn c z] at e2;exact e2⟩
 have S2:aG (sv F H1 ws) H2:=λb o h=>by
  by_cases c:V.ref b∈ws.map (·.2)
  .obtain⟨xs,e,_⟩:=inn b c;rw[fin b c,e] at h;cases h;exact s1 _ _ (G.rs.h0 _ _ e)
  .rw[fnn b c] at h;exact((G.rs.fh.trans s1) b o h).from gF
 have hl2:sv F H1 ws l=Gb:=S2.free hl;have h0l:H0 l=Gb:=G.ex.non ((G.rs.h0.trans s1).free hl);refine q (.ref l) _ (upd (sv F H1 ws) l (.lst (ws.map (·.2)))) (((G.rs.down G.ex).h0.trans s1).trans (aG.new hl)) (fF.trans (aG.new hl2)) (S2.up2 (ob:=.lst (ws.map (·.2))) hl2 hl trivial) (λb o h n=>?_) ?_
 .by_cases c:b=l
  .rw[c];exact h0l
  .rw[eQ c] at h;by_cases z:V.ref b∈ws.map (·.2)
   .exact(inn b z).choose_spec.2.2
   .rw[fnn b z,n] at h;cases h
 .refine .lst (gp.of eZ) (G.ls.reps (fF.trans (aG.new hl2)) λb xs hb h=>?_);rw[eQ (λz=>by subst z;rw[fin b hb,h] at hl2;cases hl2),fin b hb];exact h
def sy (j:Nat)(fk:FD)(fv:FV):List D->En->List (Int×List D)->Option (En×List (Int×List D))
 | [],ψ,kvs=>Ga (ψ,kvs)
 | x::r,ψ,kvs=>(fk (ψ.set j (.val x))).bind λp=>(fv p.2).bind λd=>match p.1 with
  | .int k=>if kvs.length<1000/\(kvs.all λp=>decide (p.2.length<1000))=true then sy j fk fv r p.2 (nL (nq kvs k) k d) else Gb
  | _=>Gb
def zk (i j:Nat)(f:FL)(fk:FD)(fv:FV):FS:=λψ=>(f (ψ.set i .no)).bind λds=>(sy j fk fv ds (ψ.set i .no) []).bind λr=>Ga (.rt (.list (r.2.map λp=>.list p.2)))
theorem XR (i j:Nat){x y:Str}{iter ke ve:Expr}{f:FL}{fk:FD}{fv:FV}{q1 q2 q3 q4 q5 p p2 p3 p4 p5 p6 p7 r1 r2 r3 r4 r5:Pos}(hc:X.calm=true)(hp:PassesOwn (model X.prog X.w) X.A X.env X.xe)(hij:i≠j)(hgl:Gl X "list")(hml:X.mg "list"=Gb)
  (hi:wx X (.Name y q4) iter f) (hk:PD X ke fk) (hval:PV X ve fv) (hN:X.N.Nodup) (hx:X.N[i]?=Ga x:=by rfl) (hy:X.N[j]?=Ga y:=by rfl) (lx:oZ X.env.scope x:=by first|exact kw rfl|exact jZ rfl) (ly:oZ X.env.scope y:=by first|exact kw rfl|exact jZ rfl)
  (hv:mq X.env.scope x:=by first|exact kw rfl|exact jZ (kw rfl)|exact jZ (jZ rfl)) (hd:(x==("__debug__":Str))=false:=by decide) (hcd:(x==("__classdict__":Str))=false:=by decide)
  (fx:X.fn x=true\/X.env.scope.names.lookup x=Ga .local:=by first|exact .inl rfl|exact .inr rfl) (fy:X.fn y=true\/X.env.scope.names.lookup y=Ga .local:=by first|exact .inl rfl|exact .inr rfl)
  (hs1:swapsWith (.Dict [] [] q2) (Ga (.Name x q1)) q3.line X.env=pure false:=by rfl) (hs2:∀ x,foldedSetIterable iter X.env x=pure x:=by intro _;rfl)
  (m:M2 X (.Name x p) "setdefault" p2 ke (.List [] p4) p3:=by exact⟨rfl,rfl,rfl,rfl⟩) (hst:starEach [ve] X.env=[(false,eval ve X.env)]:=by rfl) (hline:(p5.endLine==p6.line)=true:=by rfl)
  (hbase:attributeBase (.Call (.Attribute (.Name x p) "setdefault" p2) [ke,.List [] p4] [] p3) "append" X.env (eval (.Call (.Attribute (.Name x p) "setdefault" p2) [ke,.List [] p4] [] p3) X.env)=eval (.Call (.Attribute (.Name x p) "setdefault" p2) [ke,.List [] p4] [] p3) X.env:=by rfl)
  (hs:swapsWith (.Call (.Attribute (.Call (.Attribute (.Name x p) "setdefault" p2) [ke,.List [] p4] [] p3) "append" p5) [ve] [] p6) Gb p7.line X.env=pure false:=by rfl)
  (hb2:attributeBase (.Name x r1) "values" X.env (eval (.Name x r1) X.env)=eval (.Name x r1) X.env:=by rfl) (hl2:(r2.endLine==r3.line)=true:=by rfl)
  (hs3:starEach [.Call (.Attribute (.Name x r1) "values" r2) [] [] r3] X.env=[(false,eval (.Call (.Attribute (.Name x r1) "values" r2) [] [] r3) X.env)]:=by rfl) :
  lz X [.Assign [.Name x q1] (.Dict [] [] q2) q3,.For (.Name y q4) iter [.Expr (.Call (.Attribute (.Call (.Attribute (.Name x p) "setdefault" p2) [ke,.List [] p4] [] p3) "append" p5) [ve] [] p6) p7] [] q5,
   .Return (Ga (.Call (.Name "list" r4) [.Call (.Attribute (.Name x r1) "values" r2) [] [] r3] [] r5)) pos] (zk i j f fk fv):=by
 intro ω s σ H E I hw;refine sD (pj hN hx lx Zp hs1 fx) (sD (Aa hp hc hi (yn hN hy ly fy) (wl (WC i hk hval hx hv hd hcd m hst hline hbase hs)) hs2) (wl (rz (Zq i hc hgl hml hx hv hd hcd hb2 hl2 hs3)))) ω s σ H E I ?_;obtain⟨H0,F,ψ,o,r,e,post⟩:=hw;obtain⟨ds,e1,e⟩:=aj e;obtain⟨rr,e2,e⟩:=aj e;cases e;have hl:i<σ.length:=by rw[I.len];exact(ji.mp hx).1
 have hlj:j<σ.length:=by rw[I.len];exact(ji.mp hy).1
 intro a ha sm;have G0:GS X.K H0 F (upd H a (.ext (lN a [] 0))) (ψ.set i .no) (σ.set i (Ga (.ref a))) i [] (upd H0 a (.ext (lN a [] 0))) a [] 0 :=
  ⟨Ex.upd (λx=>.inl rfl) (r.h0.free ha) trivial,(r.lend ha).putG hl trivial (λj s o _ ej=>r.ne_free ha j s o ej),jN hl,eZ,r.fh.free ha,r.h0.free ha,sm,.nil,j7,j7,jX _⟩
 have hlj':j<(σ.set i (Ga (V.ref a))).length:=by rw[vi];exact hlj
 refine⟨_,F,_,ds,G0.rs,e1,λJ H2 F2 g2 f2 fh2 n2 Y=>?_⟩;have G2:=G0.grow g2 f2 fh2 n2;have nn2:fR F F2 H0:=(n2.dn G0.rs.h0).ex G0.ex;refine⟨λn m σ' H'=>n+m=ds.length/\j<σ'.length/\∃ F3 env3 kvs3 Hk ws3 ep3,GS X.K H0 F3 H' env3 σ' i kvs3 Hk a ws3 ep3/\aG F F3/\fR F F3 H0/\aG F2 F3/\sy j fk fv (ds.drop n) env3 kvs3=Ga rr,⟨ds.length,by omega,hlj',F2,_,_,_,_,_,G2,f2,nn2,.refl _,e2⟩,?_⟩;rintro n m' σ' H' ⟨hm,hjl,F3,env3,kvs3,Hk,ws3,ep3,G3,f3,n3,f23,e3⟩;obtain⟨yd,yg⟩:=Y F3 f23 H' G3.rs.fh n;by_cases hlt:n<ds.length
 .obtain⟨go,yy⟩:=yg ds[n] (by simp[hlt]);rw[vb hlt] at e3;unfold sy at e3;obtain⟨⟨kd,env4⟩,x1,x2⟩:=aj e3;obtain⟨d,x3,x4⟩:=aj x2;dsimp only at x3 x4;cases kd<;>first|(cases x4;done)|skip
  rename_i k;dsimp only at x4;split at x4;rotate_left
  .cases x4
  rename_i cnd;refine .inr ⟨go,λσ3 H3=>n+1+(m'-1)=ds.length/\j<σ3.length/\∃ F5 env5 kvs5 Hk5 ws5 ep5,GS X.K H0 F5 H3 env5 σ3 i kvs5 Hk5 a ws5 ep5/\aG F F5/\fR F F5 H0/\aG F2 F5/\sy j fk fv (ds.drop (n+1)) env5 kvs5=Ga rr,λσ3 H3 h3=>⟨m'-1,by omega,h3⟩,λv Hx yl=>?_⟩;obtain⟨gx,F4,f4,fh4,n4,rx⟩:=yy v Hx yl;have G4:=G3.grow gx f4 fh4 n4;have G5:GS X.K H0 F4 Hx (env3.set j (.val ds[n])) (σ'.set j (Ga v)) i kvs3 Hk a ws3 ep3 :=
   ⟨G4.ex,G4.rs.put hjl rx,by rw[jI (kT hij)];exact G4.pl,G4.dic,G4.fa,G4.h0a,G4.sm,G4.ls,G4.nd,G4.kd,G4.len⟩
  have n34:fR F3 F4 H0:=(n4.dn G3.rs.h0).ex G3.ex;refine⟨H0,F4,_,kvs3,k,env4,d,Hk,a,ws3,ep3,G5,x1,x3,cnd.1,λp hp=>of_decide_eq_true (jO.mp cnd.2 p hp),λH6 F6 Hk' ws' ep' f6 n6 G6=>?_⟩;exact⟨by omega,by rw[vi];exact hjl,F6,env4,_,Hk',ws',ep',G6,f3.trans (f4.trans f6),n3.up (n34.up n6),f23.trans (f4.trans f6),x4⟩
 .rw[vI (by omega)] at e3;cases e3;refine .inl ⟨yd (by omega),?_⟩;exact⟨H0,F3,env3,kvs3,Hk,a,ws3,ep3,G3,λv H' F' s0 ff fh nn rv=>post v H' F' s0 (f3.trans ff) fh (n3.up nn) rv⟩
end
structure TI (led:Bool)(c:Nat)(es:Array (Int×Gg))(t:SetTable):Prop where
 pl:t.plain=true
 ld:t.led=led
 dm:t.dummies=#[]
 sz:t.place.size=es.size
 up:t.place.toList.Pairwise (·<·)
 nd:(es.toList.map (·.1)).Nodup
 rg:∀ e∈es.toList,0<=e.1/\e.1<32
 vl:∀ e∈es.toList,∃ tk,e.2=.int e.1 tk
 ms:(t.mask=7/\es.size<=4+c/\∀ p∈t.place.toList,p<=7)\/((t.mask=31/\es.size<=18+c\/t.mask=127)/\∀ p∈t.place.toList,∃ e∈es.toList,e.1=(p:Int))
theorem Lm {l:List Int}(nd:l.Nodup)(rg:∀ x∈l,0<=x/\x<32):l.length<=32:=by
 have:=List.Nodup.length_le_of_subset nd (l₂:=(jb 32).map λ(k:Nat)=>(k:Int)) λx hx=>jq.mpr ⟨x.toNat,jm.mpr (by have:=rg x hx;omega),by have:=rg x hx;omega⟩
 simpa using this
def SS (h:Heap)(a:Gj)(led:Bool)(l:List Int):Prop:=∃ es t,SX h a es t/\TI led 0 es t/\∀ x,x∈es.toList.map (·.1)↔x∈l
theorem SS.keep {h h':Heap}{a:Gj}{led:Bool}{l:List Int}(c:SS h a led l)(k:∀ o,h.get? a=Ga o->h'.get? a=Ga o):SS h' a led l:=by
 obtain⟨es,t,⟨o,ep,ho,hex,hd⟩,r⟩:=c;exact⟨es,t,⟨o,ep,k o ho,hex,hd⟩,r⟩
theorem TI.fits {led:Bool}{es:Array (Int×Gg)}{t:SetTable}(T:TI led 0 es t):t.fits es.size=true:=by
 unfold SetTable.fits SetTable.fill;rw[T.sz,T.dm,jo,decide_eq_true_eq];refine⟨beq_self_eq_true _,?_⟩;show es.size+0<=t.mask;have len:es.size<=32:=by
  have:=Lm T.nd λx hx=>by obtain⟨e,e1,e2⟩:=jq.mp hx;rw[<- e2];exact T.rg e e1
  rwa [jd,jQ] at this
 rcases T.ms with ⟨m,l,_⟩|⟨⟨m,l⟩|m,_⟩<;>omega
theorem TI.len {led:Bool}{es:Array (Int×Gg)}{t:SetTable}(T:TI led 0 es t):es.size<=32:=by
 have:=Lm T.nd λx hx=>by obtain⟨e,e1,e2⟩:=jq.mp hx;rw[<- e2];exact T.rg e e1
 rwa [jd,jQ] at this
section
variable {prog:Program}{w:World}{A:Around}{E:Gg->Gh->Prop}{s:Gh}
end
section
variable {prog:Program}{w:World}{A:Around}{R:Result->Gh->Prop}{I:Gj}{fp wr:List Gj}{G:Array GenState->Array GenState->Prop}{n:Nat}{P:Nat->Gg->Prop}{St:Nat->Gh->Prop}
end
section
variable {prog:Program}{w:World}{A:Around}{E:Gg->Gh->Prop}{s:Gh}
end
theorem nE:∀ {ns:List Int} {vs:List Gg},IntsAre vs ns->fw (ns.map V.int) vs
 | _,_,.nil=>.nil
 | _,_,.cons n k t=>.cons ⟨k,rfl⟩ (nE t)
section
variable {X:Cx}{pos:Pos}
def sg:D->Option (List D)
 | .int j=>if 0<=j/\j<=1000000 then Ga (gT 0 j.toNat) else Gb
 | _=>Gb
theorem ZJ:hJ X (.type "range") (λvs H Q=>∃ j:Int,vs=[.int j]/\∀ r,H r=Gb->Q (.ref r) (upd H r (.ext λh=>∃ t u v,IsRange h r 0 j 1 t u v))):=by
 intro ω s σ H vs us Q I r h;obtain⟨j,rfl,q⟩:=h;obtain⟨u,rfl,ru⟩:=vals1 r;obtain⟨t,rfl⟩:=ru;refine call_range_1 ?_;refine⟨.ref _,_,I.laid (t':=s.toks+1+1) (a:=s.heap.objs.size) (o:=.ext λh=>∃ t u v,IsRange h s.heap.objs.size 0 j 1 t u v) (λ_ _ q=>jg _ q) (jr _) ⟨⟨_,_,_,IsRange.new ..⟩,⟨_,jD _ rfl⟩,λh1 h2 ⟨t,u,v,ir⟩ k=>⟨t,u,v,k _ ir⟩⟩,rfl,q _ (I.hok.fresh (jr _))⟩
theorem VC (hc:X.calm=true):hJ X (.type "list") (λvs H Q=>∃ (r:Gj) (j:Int),vs=[.ref r]/\H r=Ga (.ext λh=>∃ t u v,IsRange h r 0 j 1 t u v)/\0<=j/\j<=1000000/\∀ l,H l=Gb->Q (.ref l) (upd H l (.lst (((jb j.toNat).map λ(k:Nat)=>(k:Int)).map V.int)))):=by
 intro ω s σ H vs us Q I r h;obtain⟨r0,j,rfl,hr,j0,j1,q⟩:=h;obtain⟨u,rfl,ru⟩:=vals1 r;cases ru;obtain⟨t,u,v,ir⟩:∃ t u v,IsRange s.heap r0 0 j 1 t u v:=(I.hok _ _ hr).1;have hn:qw 0 j 1=((j.toNat:Nat):Int):=by rw[rangeSize_one];split<;>omega
 refine call_list_range (I.ok.hd hc) ir (small_one (by omega) (by omega) (by omega) (by omega)) hn (by omega) λh' tk acc c k na it=>?_;have vr:fw (((jb j.toNat).map λ(k:Nat)=>(k:Int)).map V.int) acc.toList:=by
  refine Bc _ _ (by have a1:=it.1;have a2:=jQ (xs:=acc);rw[jd,jd,jK];omega) λi x u hx hu=>?_;obtain⟨t,e1⟩:=it.2 i u (by rw[<- kZ];exact hu);rw[jw] at hx;obtain⟨y,hy,rfl⟩:=ur.mp hx;rw[jw] at hy;obtain⟨z,hz,rfl⟩:=ur.mp hy;have hz2:i=z:=by
   have:=ji.mp hz;obtain⟨w,e⟩:=this;rw[List.getElem_range] at e;exact e
  subst hz2;refine⟨t,?_⟩;rw[e1]
  congr 1
  omega
 refine⟨.ref _,_,eS.laid (X:=X) (s:=s) (a:=s.heap.objs.size) (o:=.lst (((jb j.toNat).map λ(k:Nat)=>(k:Int)).map V.int)) (t':=tk) I k (jr _) ⟨by rw[jd,jd,jK,sizeLine_eq];omega,acc.toList,c,vr,?_⟩,rfl,q _ I.fresh⟩;rw[uD];exact na
theorem UZ {e:Expr}{f:FV}{p p2 pos pos2:Pos}(hc:X.calm=true)(hg:Gl X "list")(hm:X.mg "list"=Gb)(hg2:Gl X "range")(hm2:X.mg "range"=Gb)(ha:PV X e f)(hs:starEach [e] X.env=[(false,eval e X.env)]:=by rfl)
  (hs2:starEach [.Call (.Name "range" p2) [e] [] pos2] X.env=[(false,eval (.Call (.Name "range" p2) [e] [] pos2) X.env)]:=by rfl):PO X (.Call (.Name "list" p) [.Call (.Name "range" p2) [e] [] pos2] [] pos) (iw sg f):=by
 refine gX (AX (VC hc) hg hm boot_list (AX ZJ hg2 hm2 boot_range ha (hs:=hs)) (hs:=hs2)) λσ H Q=>?_;rintro⟨H0,F,ψ,rs,r,e,q⟩;obtain⟨d,e1,e⟩:=aj e;refine⟨H0,F,ψ,d,r,e1,λv H1 F1 g1 f1 fh1 n1 rv=>?_⟩;cases rv<;>first|(cases e;done)|skip
 rename_i j;unfold sg at e;dsimp only at e;split at e;rotate_left
 .cases e
 rename_i c;cases e;refine⟨j,rfl,λr0 hr0=>⟨r0,j,rfl,eZ,c.1,c.2,λl hl=>?_⟩⟩;have s1:aG H1 (upd H1 r0 (.ext λh=>∃ t u v,IsRange h r0 0 j 1 t u v)):=aG.new hr0;have s2:aG (upd H1 r0 (.ext λh=>∃ t u v,IsRange h r0 0 j 1 t u v)) (upd (upd H1 r0 (.ext λh=>∃ t u v,IsRange h r0 0 j 1 t u v)) l (.lst (((jb j.toNat).map λ(k:Nat)=>(k:Int)).map V.int))):=aG.new hl;refine q l _ _ F1 (g1.trans (s1.trans s2)) f1 (fh1.trans (s1.trans s2)) n1 (g1.free (s1.free hl)) (fh1.free (s1.free hl)) eZ ?_;rw[mV];have:=Cs (K:=X.K) (F:=F1) ((jb j.toNat).map λ(k:Nat)=>(k:Int));rw[jT] at this;exact this
end
theorem OG:∀ (f n r:Nat),r<=1->minRun' f n r<=n+r
 | 0,n,r,_=>jr _
 | f+1,n,r,h=>by
  rw[minRun'_succ];split
  .exact jr _
  .have:=OG f (n/2) (max r (n%2)) (by omega);omega
theorem Np {cmp:Nat->Nat->(Bool->Gh->Prop)->Gh->Prop}{p:Array Nat}{G:Nat->Gh->Prop}{s:Gh}:∀ (f n:Nat),(∀ i,n<=i->i<n+f->∀ C:Bool->Gh->Prop,C false s->cmp (p.getD i 0) (p.getD (i-1) 0) C s)->G (n+f) s->(JN p f n).kasWp cmp G s
 | 0,n,_,g=>g
 | f+1,n,h,g=>by
  refine h n (jr _) (by omega) _ ?_;show(if false=true then PySem.W.KasT.ret n else JN p f (n+1)).kasWp cmp G s;rw[Gf jv];exact Np f (n+1) (λi h1 h2=>h i (by omega) (by omega)) (by rw[show n+1+f=n+(f+1) by omega];exact g)
section
variable {prog:Program}{w:World}{A:Around}{E:Gg->Gh->Prop}{s:Gh}{κ:SortKind}
open PySem.W in
theorem Xy {it:Array Keyed}{n:Nat}{Q:Unit->SortSt->Gh->Prop}(h2:2<=n)(hz:(j8 (jb n)).size=n)
  (hG:∀ st',arrOf st'=(j8 (jb n)).map (kas_item it)->failedOf st'=Gb->Q () st' s) (ha:∀ i,1<=i->i<n->∀ C:Bool->Gh->Prop,C false s->kas_cmp prog w A κ it i (i-1) C s) :
  kasC (model prog w) A E sortRuns' Q (kas_st κ it (j8 (jb n))) s:=by
 obtain⟨r,rfl⟩:∃ r,n=r+2:=⟨n-2,by omega⟩;have gd:∀ i,i<r+2->(j8 (jb (r+2))).getD i 0=i:=λi hi=>by
  rw[Array.getD,dif_pos (by rw[hz];exact hi)];simp
 have hc:(kas_count (r+2) (j8 (jb (r+2)))).kasWp (kas_cmp prog w A κ it) (λm s'=>m=(r+2,j8 (jb (r+2)))/\s'=s) s:=by
  unfold kas_count;rw[KasT.kasWp_bind];refine Np _ _ (λi h1 h3 C c=>?_) ?_
  .rw[gd i (by omega),gd (i-1) (by omega)];exact ha i h1 (by omega) C c
  .rw[show 1+(r+2-1)=r+2 by omega,Ge (by rw[beq_self_eq_true])];exact⟨rfl,rfl⟩
 have hsz:(arrOf (kas_st κ it (j8 (jb (r+2))))).size=r+2:=(Array.size_map (f:=kas_item it) (xs:=j8 (jb (r+2)))).trans hz;have hmr:=OG (r+2) (r+2) 0 (by omega);rw[sortRuns'_eq];refine kasC_bind (kasC_get ?_);simp only[hsz];generalize minRun' (r+2) (r+2) 0=mr at hmr;refine kasC_bind (kasC_range (show kasC _ _ _ (forIn (0::1::uc 2 r) _ _) _ _ _ from kasC_cons ?_));dsimp only;rw[Gf (show ¬0≥r+2 by omega)];simp only[Jz,uq];refine kasC_bind (kas_count_ (by omega) (Ju hz.symm) (λm p' s' _ _ _ hg=>?_) hc);obtain⟨hg,rfl⟩:=hg
 injection hg with e1 e2
 subst e1 e2;dsimp only;rw[Gf (show ¬r+2<mr by omega)];refine kasC_bind (kasC_get ?_);rw[show(pendingOf (kas_st κ it (j8 (jb (r+2))))).back?=Gb from rfl];dsimp only;refine kasC_bind (kasC_modify (kasC_pure (show kasC _ _ _ (forIn (1::uc 2 r) _ _) _ _ _ from kasC_cons ?_)));dsimp only;rw[Ge (show r+2≥r+2 from jr _)];refine kasC_pure ?_;dsimp only;refine kasC_bind (kasC_range (show kasC _ _ _ (forIn (0::1::uc 2 r) _ _) _ _ _ from kasC_cons (kasC_bind (kasC_get ?_))));rw[Ge (show(pendingOf (setPending (kas_st κ it (j8 (jb (r+2)))) ((pendingOf (kas_st κ it (j8 (jb (r+2))))).push (0,r+2,0)))).size<=1 from jr 1)];refine kasC_pure ?_;dsimp only;exact kasC_pure (hG _ rfl rfl)
variable {vs:List Gg}
open PySem.W in
theorem Wz {a:Gj}{n:Nat}{P:vv->Gh->Prop}(ho:s.heap.get? a=Ga (seqObj "list" vs.toArray n))(h2:2<=vs.length)(hz:vs.length<=1000000)
  (hk:∀ s1:Gh,(∀ b o,b≠a->s.heap.get? b=Ga o->s1.heap.get? b=Ga o)->∃ κ,(∀ Q:SortKind->Gh->Prop,Q κ s1->wpAny (model prog w) A (keyKind' vs.toArray) Q (λ_ _=>False) s1) /\
   ∀ i,1<=i->i<vs.length->∀ C:Bool->Gh->Prop,C false s1->kas_ask prog w A κ vs i (i-1) C s1)
  (h:∀ h' c,(∀ b o,b≠a->s.heap.get? b=Ga o->h'.get? b=Ga o)->h'.get? a=Ga (seqObj "list" vs.toArray c)->P (.done (.ret .none)) { s with heap:=h' }) :
  wpAny (model prog w) A (Builtin.«list.sort» ⟨[.ref a],[]⟩) P E s:=by
 have s1:=ki s.heap a (jS λ_=>(#[]:Array Gg));obtain⟨e1,ho1⟩:∃ e1,(s.heap.update a (jS λ_=>(#[]:Array Gg))).get? a=Ga (seqObj "list" #[] e1):=⟨_,get?_update_seq ho λ_=>#[]⟩;generalize hh1:s.heap.update a (jS λ_=>(#[]:Array Gg))=h1 at s1 ho1;have sl:vs.length<=sizeLine:=by rw[sizeLine_eq];omega
 rw[list_sort_plain];refine eN (listItems_at ho rfl (eN (listUpdate_at ho rfl ?_ (by rw[jn];exact sl) (jX _))));rw[hh1];refine eN (seqEpoch_at ho1 rfl (eN (wpAny_newTuple (eN (wpAny_newList (wpAny_holding ?_) (jX _))) sl)));generalize hh3:(h1.push { cls:=.type "tuple",data:=.seq vs.toArray }).push { cls:=.type "list",data:=.seq ([]:List Gg).toArray }=h3;have k3:∀ b o,h1.get? b=Ga o->h3.get? b=Ga o:=λb o e=>by rw[<- hh3];exact jg _ (jg _ e)
 have keep:∀ b o,b≠a->s.heap.get? b=Ga o->h3.get? b=Ga o:=λb o nb e=>k3 b o (s1.extBut b o nb e);dsimp only;have n2:¬vs.toArray.size<2:=by rw[jn];omega
 rw[Gf n2,Gf n2];obtain⟨κ,hkind,hask⟩:=hk { s with heap:=h3 } keep;refine eN (wpAny_mono (hkind (λκ' s'=>κ'=κ/\s'={ s with heap:=h3 }) ⟨rfl,rfl⟩) (λκ' s' ⟨x1,x2⟩=>?_) λ_ _ z=>z.elim);subst x1 x2;have hrs:(j8 (jb vs.length)).size=vs.length:=by rw[jn,jK]
 have est:SortSt.mk' κ' (vs.toArray.zip vs.toArray) #[] 7 Gb=kas_st κ' (vs.toArray.zip vs.toArray) (j8 (jb vs.length)):=by
  have e:=kas_range (vs.toArray.zip vs.toArray);rw[Array.size_zip,jn,Jx] at e;exact congrArg (λx=>SortSt.mk' κ' x #[] 7 Gb) e.symm
 rw[est];have hcmp:=kat_ask_eq (prog:=prog) (w:=w) (A:=A) (κ:=κ') (ks:=vs) (vs:=vs) rfl;refine eN (wpAny_mono (Xy (E:=λ_ _=>False) (s:={ s with heap:=h3 }) (Q:=λ_ st' s'=>arrOf st'=(j8 (jb vs.length)).map (kas_item (vs.toArray.zip vs.toArray))/\failedOf st'=Gb/\s'={ s with heap:=h3 }) h2 hrs
  (λst' a1 a2=>⟨a1,a2,rfl⟩) λi i1 i2 C c=>by rw[<- hcmp];exact hask i i1 i2 C c) ?_ λ_ _ z=>z.elim)
 rintro⟨⟨⟩,st'⟩ s' ⟨har,hf,rfl⟩;dsimp only;have out:((j8 (jb vs.length)).toList.map λi=>vs.getD i kf)=vs:=by
  apply List.ext_getElem
  .simp
  .intro i g1 g2;simp[g2]
 rw[kat_snds rfl har,out];have ho3:h3.get? a=Ga (seqObj "list" #[] e1):=k3 _ _ ho1;refine eN (seqEpoch_at (s:={ s with heap:=h3 }) ho3 rfl (eN (listUpdate_at (s:={ s with heap:=h3 }) ho3 rfl ?_ (jX _) (qj (by rw[jn];exact sl)))));rw[hf];simp only[bne_self_eq_false,kA,if_false];have s4:=ki h3 a (jS λ_=>vs.toArray);obtain⟨c,hc⟩:∃ c,(h3.update a (jS λ_=>vs.toArray)).get? a=Ga (seqObj "list" vs.toArray c):=⟨_,get?_update_seq ho3 λ_=>_⟩;exact eO (h _ c (λb o nb e=>s4.extBut b o nb (keep b o nb e)) hc)
theorem zoX {l:Gj}{out:List Gg}{Q:Gg->Gh->Prop}(hl:s.heap.IsList l vs.toArray)(hz:vs.length<=1000000)
  (hs:∀ (s1:Gh) (n:Nat) (P:vv->Gh->Prop) (E':Gg->Gh->Prop),(∀ b o,s.heap.get? b=Ga o->s1.heap.get? b=Ga o)->s1.heap.get? (s.heap.objs.size+1)=Ga (seqObj "list" vs.toArray n) ->
   (∀ h' c,(∀ b o,b≠s.heap.objs.size+1->s1.heap.get? b=Ga o->h'.get? b=Ga o)->h'.get? (s.heap.objs.size+1)=Ga (seqObj "list" out.toArray c)->P (.done (.ret .none)) { s1 with heap:=h' }) ->
   wpAny (model prog w) A.in1.in1 (Builtin.«list.sort» ⟨[.ref (s.heap.objs.size+1)],[]⟩) P E' s1)
  (h:∀ h' c,(∀ b o,s.heap.get? b=Ga o->h'.get? b=Ga o)->h'.get? (s.heap.objs.size+1)=Ga (seqObj "list" out.toArray c)->Q (.ref (s.heap.objs.size+1)) { s with heap:=h' }) :
  wpAny (model prog w) A (call (.builtin "sorted") [.ref l]) Q E s:=by
 have sl:vs.length<=sizeLine:=by rw[sizeLine_eq];omega
 refine qf kind_sorted plain_sorted entry_sorted (args_sorted1 _) ?_;unfold Builtin.«sorted»;refine eN (m:=checkCount "sorted" 1 1 _) (eO (eN (collect_list hl (eN (wpAny_newList ?_ sl)) sl)));generalize hh1:(s.heap.push (seqObj "list" #[] 0)).update s.heap.objs.size (jS (·++vs.toArray))=h1;have n1:h1.objs.size=s.heap.objs.size+1:=by rw[<- hh1,JG,size_push']
 have k1:∀ b o,s.heap.get? b=Ga o->h1.get? b=Ga o:=λb o q=>by
  have hlt:b<s.heap.objs.size:=ju q;rw[<- hh1,Je _ _ _ _ (jG hlt),Jy _ _ _ (jG hlt)];exact q
 show wpAny _ _ _ _ _ { s with heap:=h1.push (seqObj "list" vs.toArray 0) };dsimp only;rw[n1];have hoL:(h1.push (seqObj "list" vs.toArray 0)).get? (s.heap.objs.size+1)=Ga (seqObj "list" vs.toArray 0):=by rw[<- n1];exact jD _ rfl
 have keep:∀ b o,s.heap.get? b=Ga o->(h1.push (seqObj "list" vs.toArray 0)).get? b=Ga o:=λb o q=>jg _ (k1 b o q);refine eN (wpAny_holding (wpAny_call_entry slot_list_sort ⟨_,hoL,rfl⟩ entry_list_sort ?_ (args_list_sort _)));refine hs { s with heap:=h1.push (seqObj "list" vs.toArray 0) } 0 _ _ keep hoL λh' c kk hc=>⟨_,rfl,eO ⟨_,rfl,h h' c (λb o e=>kk b o (jG (uY (ju e))) (keep b o e)) hc⟩⟩
end
mutual
def iX:D->D->Option Bool
 | .int i,.int j=>Ga (decide (i<j))
 | .tuple xs,.tuple ys=>mm xs ys
 | _,_=>Gb
def mm:List D->List D->Option Bool
 | [],[]=>Ga false
 | [],_::_=>Ga true
 | _::_,[]=>Ga false
 | x::xs,y::ys=>if jW x y=true then mm xs ys else iX x y
end
section
variable {prog:Program}{w:World}{E:Gg->Gh->Prop}{s:Gh}
theorem KD {A:Around}{R:Option vv×Unit->Gh->Prop}{body:Gg×Gg->Option vv×Unit->Sem (ForInStep (Option vv×Unit))}
  (hb:∀ p q (R':ForInStep (Option vv×Unit)->Gh->Prop),wpAny (model prog w) A (eqBool p q) (λe s'=>if e=true then R' (.yield (Gb,())) s' else wpAny (model prog w) A (richCompare .Lt p q) (λv s''=>R' (.done (Ga (.done (.ret v)),())) s'') E s') E s->wpAny (model prog w) A (body (p,q) (Gb,())) R' E s) :
  ∀ (xs ys:List D) (c:Bool) (us ws:List Gg) (as bs:List Gj),mm xs ys=Ga c->ReadsAll s.heap us xs as->ReadsAll s.heap ws ys bs->jE xs=true->jE ys=true->A.units+jF xs<cLine ->
   (∀ x∈xs,∀ (y:D) (c:Bool) (a b:Gg) (as bs:List Gj) (Q:Gg->Gh->Prop),iX x y=Ga c->Reads s.heap a x as->Reads s.heap b y bs->x.canLay0=true->y.canLay0=true->Q (.bool c) s->wpAny (model prog w) A (richCompare .Lt a b) Q E s) ->
   (c=decide (xs.length<ys.length)->R (Gb,()) s)->R (Ga (.done (.ret (.bool c))),()) s->wpAny (model prog w) A (forIn (us.zip ws) (Gb,()) body) R E s
 | [],ys,c,us,ws,as,bs,e,ra,rb,_,_,_,_,h1,_=>by
  cases ra;rw[JA,List.forIn_nil];refine eO (h1 ?_);cases ys<;>cases e<;>rfl
 | x::xs,[],c,us,ws,as,bs,e,ra,rb,_,_,_,_,h1,_=>by
  cases rb;rw[Js,List.forIn_nil];refine eO (h1 ?_);cases e;rfl
 | x::xs,y::ys,c,us,ws,as,bs,e,ra,rb,la,lb,hu,el,h1,h2=>by
  have la':x.canLay0=true/\jE xs=true:=by simpa [jE] using la
  have lb':y.canLay0=true/\jE ys=true:=by simpa [jE] using lb
  have hd:jF (x::xs)=max x.depth (jF xs):=by rw[jF]
  cases ra with
  | cons r rs =>
   cases rb with
   | cons r' rs' =>
    have e':(if jW x y=true then mm xs ys else iX x y)=Ga c:=by rw[mm] at e;exact e
    rw[Jt,qM];refine eN (hb _ _ _ (SeqAt.eqAt_reads x y A s _ _ _ _ r r' la'.1 lb'.1 (by omega) prog w E _ ?_));cases q:jW x y with
    | true =>
     rw[q,Ge rfl] at e';rw[Ge rfl];exact KD hb xs ys c _ _ _ _ e' rs rs' la'.2 lb'.2 (by omega) (λx hx=>el x (jj _ hx)) (λz=>h1 (by rw[z];simp only[jL,vh])) h2
    | false =>
     rw[q,Gf jv] at e';rw[Gf jv];exact el x jf y c _ _ _ _ _ e' r r' la'.1 lb'.1 (eO h2)
theorem zX {h:Heap}:∀ {us:List Gg} {xs:List D} {as:List Gj},ReadsAll h us xs as->us.length=xs.length
 | _,_,_,.nil=>rfl
 | _,_,_,.cons _ r=>congrArg uv (zX r)
theorem HN (xs:List D):(kW xs).depth=jF xs+1:=by rw[qD]
theorem Kz:∀ {xs:List D} {x:D},x∈xs->x.depth<=jF xs
 | y::ys,x,h=>by
  rw[jF];rcases jx.mp h with rfl|h
  .omega
  .have:=Kz h;omega
theorem Sk:∀ (n:Nat) (x y:D) (c:Bool) (A:Around) (a b:Gg) (as bs:List Gj) (Q:Gg->Gh->Prop),x.depth<=n->iX x y=Ga c->Reads s.heap a x as->Reads s.heap b y bs->x.canLay0=true->y.canLay0=true->A.units+n<cLine->Q (.bool c) s->wpAny (model prog w) A (richCompare .Lt a b) Q E s:=by
 intro n;induction n with
 | zero =>
  intro x y c A a b as bs Q hn e ra rb la lb hu q;cases ra with
  | int i t =>
   cases rb with
   | int j u =>
    rw[iX] at e;cases e;exact show wpAny _ _ (compareOp .Lt _ _) _ _ _ from lt_int q
   | _=>rw[iX] at e<;>first|cases e|(intros;simp_all)
  | tuple k1 k2 k3 k4=>rw[HN] at hn;omega
  | _=>rw[iX] at e<;>first|cases e|(intros;simp_all)
 | succ n ih =>
  intro x y c A a b as bs Q hn e ra rb la lb hu q;cases ra with
  | int i t =>
   cases rb with
   | int j u =>
    rw[iX] at e;cases e;exact show wpAny _ _ (compareOp .Lt _ _) _ _ _ from lt_int q
   | _=>rw[iX] at e<;>first|cases e|(intros;simp_all)
  | @tuple a1 o1 vs1 n1 xs _ k1 k2 k3 k4 =>
   cases rb with
   | @tuple a2 o2 vs2 n2 ys _ g1 g2 g3 g4 =>
    rw[HN] at hn;rw[iX] at e;have la':jE xs=true:=la;have lb':jE ys=true:=lb;have u1:A.in1.units=A.units+1:=rfl;have l1:vs1.size=xs.length:=by rw[<- jQ];exact zX k4
    have l2:vs2.size=ys.length:=by rw[<- jQ];exact zX g4
    refine wpAny_richCompare_same_room (T:="tuple") ⟨_,k1,k2⟩ ⟨_,g1,g2⟩ F.slot_tuple_lt (wpAny_call_entry F.slot_tuple_lt ⟨_,k1,k2⟩ F.entry_tuple_lt ?_ (F.args_tuple_lt_2 _ _)) (by omega);unfold Builtin.«tuple.__lt__»
    wp_delta
    refine eN (show wpAny _ _ (pure _) _ _ _ from eO ?_);dsimp only;refine eN (wpAny_isInstance (T:="tuple") (b:=true) ⟨_,g1,g2⟩ (by rw[isSubtype_type];kernel_rfl) ?_);rw[Gf (by decide)];refine eN (wpAny_tupleItemsOf k1 k3 (eN (wpAny_tupleItemsOf g1 g3 (eN ?_))));refine KD (A:=A.in1) (λp q R' hw=>?_) xs ys c _ _ _ _ e k4 g4 la' lb' (by omega) (λx hx y c a b as bs Q e ra rb la lb q=>ih x y c A.in1 a b as bs Q (by have:=Kz hx;omega) e ra rb la lb (by omega) q) (λz=>?_) ?_
    .dsimp only;refine eN (wpAny_mono hw (λe s' he=>?_) λ_ _ z=>z);cases e with
     | true =>
      rw[Ge rfl] at he;rw[Gf (by decide)];exact eO he
     | false =>
      rw[Gf jv] at he;rw[Ge (by decide)];exact eN (wpAny_rule (eN (wpAny_mono he (λv s'' hv=>eN (eO (eO hv))) λ_ _ z=>z)))
    .dsimp only;refine eO ⟨.bool c,?_,λz=>(by cases z),q⟩;rw[z,<- l1,<- l2];rfl
    .exact eO ⟨.bool c,rfl,λz=>(by cases z),q⟩
   | _=>rw[iX] at e<;>first|cases e|(intros;simp_all)
  | _=>rw[iX] at e<;>first|cases e|(intros;simp_all)
theorem MX {A:Around}{Q:Bool->Gh->Prop}(n:Nat):∀ (xs ys:List D) (c:Bool) (us ws:List Gg) (as bs:List Gj) (i:Nat) (fin:Bool),mm xs ys=Ga c->ReadsAll s.heap us xs as->ReadsAll s.heap ws ys bs->jE xs=true->jE ys=true->jF xs<=n->A.units+n<cLine->fin=decide (xs.length<ys.length)->Q c s->JP prog w A false fin Q (us.zip ws) i s
 | [],ys,c,us,ws,as,bs,i,fin,e,ra,rb,_,_,_,_,hf,q=>by
  cases ra;rw[JA];show Q fin s;rw[hf];cases ys<;>cases e<;>exact q
 | x::xs,[],c,us,ws,as,bs,i,fin,e,ra,rb,_,_,_,_,hf,q=>by
  cases rb;rw[Js];show Q fin s;rw[hf];cases e;exact q
 | x::xs,y::ys,c,us,ws,as,bs,i,fin,e,ra,rb,la,lb,hn,hu,hf,q=>by
  have la':x.canLay0=true/\jE xs=true:=by simpa [jE] using la
  have lb':y.canLay0=true/\jE ys=true:=by simpa [jE] using lb
  have hd:jF (x::xs)=max x.depth (jF xs):=by rw[jF]
  cases ra with
  | cons r rs =>
   cases rb with
   | cons r' rs' =>
    have e':(if jW x y=true then mm xs ys else iX x y)=Ga c:=by rw[mm] at e;exact e
    rw[Jt];refine PySem.W.kat_cons (SeqAt.eqAt_reads x y A s _ _ _ _ r r' la'.1 lb'.1 (by omega) prog w _ _ ?_);cases hq:jW x y with
    | true =>
     rw[hq,Ge rfl] at e';exact PySem.W.kat_yes (MX n xs ys c _ _ _ _ _ _ e' rs rs' la'.2 lb'.2 (by omega) hu (by rw[hf];simp only[jL,vh]) q)
    | false =>
     rw[hq,Gf jv] at e';refine PySem.W.kat_no ?_;rw[qU];exact JL _ _ (Sk n x y c A _ _ _ _ _ (by omega) e' r r' la'.1 lb'.1 hu q)
end
def zG:D->Bool
 | .tuple (.tuple _::_)=>true
 | _=>false
def BI (d:D):Bool:=zG d&&(d.canLay0&&decide (d.depth<=20))
def oU:List D->Bool
 | x::y::r=>(iX y x==Ga false)&&oU (y::r)
 | _=>true
def sN (ds:List D):Bool:=decide (2<=ds.length/\ds.length<=1000000)&&(ds.all BI&&oU ds)
theorem LP:∀ {ds:List D} {i:Nat} {x y:D},oU ds=true->ds[i]?=Ga x->ds[i+1]?=Ga y->iX y x=Ga false
 | [],i,x,y,_,h,_=>by simp at h
 | [a],i,x,y,_,_,h=>by simp at h
 | a::b::r,0,x,y,h,h1,h2=>by
  cases h1;cases h2;rw[oU,jo] at h;exact eq_of_beq h.1
 | a::b::r,i+1,x,y,h,h1,h2=>by
  rw[oU,jo] at h;exact LP (ds:=b::r) (i:=i) h.2 h1 h2
theorem UE {d:D}(h:zG d=true):∃ ys xs,d=.tuple (.tuple ys::xs):=by
 unfold zG at h;split at h
 .exact⟨_,_,rfl⟩
 .cases h
section
variable {X:Cx}{ω:List (Gj×Obj)}{σ:St}{F H:Hp}{s:Gh}
theorem Zf {A:Around}{xs:List V}{its:List Gg}{ds:List D}(hu:A.units+20<cLine)(I:eS X ω σ H s)(g:aG F H)(rv:fw xs its)(rr:fg X.K F ds xs)(ok:sN ds=true){s1:Gh}(k:∀ b o,s.heap.get? b=Ga o->s1.heap.get? b=Ga o) :
  ∃ κ,(∀ Q:SortKind->Gh->Prop,Q κ s1->wpAny (model X.prog X.w) A (keyKind' its.toArray) Q (λ_ _=>False) s1)/\∀ i,1<=i->i<its.length->∀ C:Bool->Gh->Prop,C false s1->uT X.prog X.w A κ its i (i-1) C s1:=by
 have hlen:ds.length=its.length:=rr.length.trans rv.length;unfold sN at ok;rw[jo,jo,decide_eq_true_eq] at ok;obtain⟨⟨o1,o2⟩,o3,o4⟩:=ok;have tup:∀ (i:Nat) (d:D),ds[i]?=Ga d->∃ ys zs a o us n as,d=.tuple (.tuple ys::zs)/\its.getD i kf=.ref a/\its[i]?=Ga (.ref a)/\s1.heap.get? a=Ga o/\o.cls=.type "tuple"/\o.data=.seq us n/\ReadsAll s1.heap us.toList (.tuple ys::zs) as/\jE (.tuple ys::zs)=true/\jF (.tuple ys::zs)<=19:=λi d e=>by
  have c:=jO.mp o3 d (jM e);unfold BI at c;rw[jo,jo,decide_eq_true_eq] at c;obtain⟨c1,c2,c3⟩:=c;obtain⟨ys,zs,rfl⟩:=UE c1;obtain⟨v,u,r1,r2,x1⟩:=xN rv rr e;obtain⟨as,rd⟩:=r1.reads I g (wy c2) r2;have hi:i<its.length:=by rw[<- hlen];exact(ji.mp e).1
  have x2:its[i]?=Ga u:=by rw[jh hi,<- x1,jl,jh hi];rfl
  rw[HN] at c3;cases Reads.keeps k rd with
  | tuple k1 k2 k3 k4=>exact⟨ys,zs,_,_,_,_,_,rfl,x1,x2,k1,k2,k3,k4,c2,by omega⟩
 have kt:∀ (ws:List Gg),(∀ (i:Nat) v,ws[i]?=Ga v->∃ ys zs a o us n as,v=kD a/\s1.heap.get? a=Ga o/\o.cls=.type "tuple"/\o.data=.seq us n/\ReadsAll s1.heap us.toList (.tuple ys::zs) as)->∃ fs,JM s1.heap ws fs/\fs.length=ws.length/\∀ v∈fs,∃ b o,v=kD b/\s1.heap.get? b=Ga o/\o.cls=.type "tuple":=by
  intro ws;induction ws with
  | nil=>intro _;exact⟨[],.nil,rfl,λv hv=>by simp at hv⟩
  | cons v r ih =>
   intro hall;obtain⟨ys,zs,a,o,us,n,as,rfl,e1,c,dd,hi⟩:=hall 0 v rfl;obtain⟨fs,h1,h2,h3⟩:=ih λi v e=>hall (i+1) v (by simpa using e);cases hus:us.toList with
   | nil=>rw[hus] at hi;cases hi
   | cons f fr =>
    rw[hus] at hi;cases hi with
    | cons rf _ =>
     cases rf with
     | @tuple b1 _ _ _ _ _ g1 g2 g3 g4 =>
      have hf:us[0]?=Ga (kD b1):=by rw[<- kZ,hus];rfl
      refine⟨kD b1::fs,.cons e1 c dd hf h1,by rw[jL,jL,h2],λv hv=>?_⟩;rcases jx.mp hv with rfl|hv
      .exact⟨b1,_,rfl,g1,g2⟩
      .exact h3 v hv
 obtain⟨fs,t1,t2,t3⟩:=kt its λi v e=>by
  have hl:i<ds.length:=by rw[hlen];exact(ji.mp e).1
  obtain⟨ys,zs,a,o,us,n,as,_,_,x1,x2,x3,x4,x5,_⟩:=tup i _ (jh hl);rw[e] at x1;exact⟨ys,zs,a,o,us,n,as,jy x1,x2,x3,x4,x5⟩
 refine⟨tuples' false,λQ q=>JH (T:=.type "tuple") t1 (by omega) (λv hv=>?_) (by decide) q,λi i1 i2 C c=>?_⟩
 .obtain⟨b1,o,rfl,h1,h2⟩:=t3 v hv;exact λ_ _ _ s' k' q'=>wpAny_typeOf (s:=s') (T:="tuple") ⟨o,k' _ _ h1,h2⟩ q'
 .obtain⟨j,rfl⟩:∃ j,i=j+1:=⟨i-1,by omega⟩;rw[Nat.add_sub_cancel];have e1:=jh (show j<ds.length by omega);have e2:=jh (show j+1<ds.length by omega);have lt:=LP o4 e1 e2;obtain⟨ys,zs,a,o,us,n,as,d1,x1,_,y1,y2,y3,y4,y5,y6⟩:=tup _ _ e1;obtain⟨ys',zs',a',o',us',n',as',d1',x1',_,y1',y2',y3',y4',y5',y6'⟩:=tup _ _ e2;rw[d1,d1',iX] at lt;unfold uT;rw[x1,x1'];refine JQ y1' y3' y1 y3 (MX 19 _ _ false _ _ _ _ 0 _ lt y4' y4 y5' y5 y6' (by omega) ?_ c);rw[<- zX y4,<- zX y4',jQ,jQ]
theorem TH (hu:X.A.units+100<cLine):hJ X (.builtin "sorted") (λvs H Q=>∃ F ds p xs,vs=[.ref p]/\aG F H/\gp X.K H p xs/\fg X.K F ds xs/\sN ds=true/\∀ a,H a=Gb->Q (.ref a) (upd H a (.lst xs))):=by
 intro ω s σ H vs us Q I r h;obtain⟨F,ds,p,xs,rfl,g,hl,rr,e,q⟩:=h;obtain⟨u,rfl,ru⟩:=L2.vals1 r;cases ru;obtain⟨its,rv,pl,hz⟩:=I.list hl;have hlen:ds.length=its.length:=rr.length.trans rv.length;have e':=e;unfold sN at e';rw[jo,decide_eq_true_eq] at e';refine zoX (out:=its) pl.isList (by omega) (λs1 n P E' k ho hP=>Wz ho (by omega) (by omega) (λs2 k2=>Zf (A:=X.A.in1.in1) (show X.A.units+1+1+20<cLine by omega) I g rv rr e λb o eb=>k2 b o (jG (uY (ju eb))) (k b o eb)) λh' c kk hc=>hP h' c kk hc) λh' c k hc=>?_;exact⟨.ref _,_,I.laid (t':=s.toks) (o:=.lst xs) k (vt _) ⟨by rw[rv.length,sizeLine_eq];omega,its,c,rv,hc⟩,rfl,q _ (I.hok.fresh (vt _))⟩
def BE (f:FL):FL:=λψ=>(f ψ).bind λds=>if sN ds=true then Ga ds else Gb
theorem Ud {e:Expr}{f:FL}{p pos:Pos}(hu:X.A.units+100<cLine)(hg:Gl X "sorted")(hm:X.mg "sorted"=Gb)(ha:pN X e f)(hs:starEach [e] X.env=[(false,eval e X.env)]:=by rfl):PO X (.Call (.Name "sorted" p) [e] [] pos) (BE f):=by
 refine gX (yp (TH hu) hg hm boot_sorted ha (hs:=hs)) λσ H Q=>?_;rintro⟨H0,F,ψ,rs,r,e,q⟩;obtain⟨ds,e1,e⟩:=aj e;split at e;rotate_left
 .cases e
 rename_i c;cases e;refine⟨H0,F,ψ,rs,r,e1,λp xs H1 F1 g1 f1 fh1 n1 hl rr=>⟨F1,rs,p,xs,rfl,fh1,hl,rr,c,λa ha=>?_⟩⟩;have s2:aG H1 (upd H1 a (.lst xs)):=aG.new ha;exact q a xs _ F1 (g1.trans s2) f1 (fh1.trans s2) n1 (g1.free ha) (fh1.free ha) eZ rr
end
end T3
set_option maxHeartbeats 4000000
namespace T3
open PySem PySem.Spec PyProof.Rows L2
theorem fO {N P:List Str}{sc:Scope}(h:sc.kind=.function/\sc.isCoroutine=false/\sc.isGenerator=false/\N.Nodup/\N.take P.length=P/\(∀ x∈P,sc.names.lookup x=Ga .local\/sc.names.lookup x=Ga .cell)/\∀ y∈sc.names,y.2≠.free):fo N P sc:=⟨h.1,h.2.1,h.2.2.1,h.2.2.2.1,h.2.2.2.2.1,h.2.2.2.2.2.1,h.2.2.2.2.2.2⟩
theorem cO {N P N':List Str}{osc osc' scope:Scope}{x:Str}{fr:List Str}{ix:List Nat}(_:fo N P osc)(h:scope.kind=.function/\(∀ y∈scope.names,y.2≠.cell)/\(∀ y∈scope.names,y.2=.local->scope.names.lookup y.1=Ga .local)/\scope.names.lookup x=Ga .local/\(∀ y∈scope.names,y.2=.free->osc.names.lookup y.1=Ga .cell\/osc.names.lookup y.1=Ga .free)/\(∀ y∈fr,scope.names.lookup y=Ga .free)/\fr.length=ix.length/\(∀ p∈ix.zip fr,N[p.1]?=Ga p.2)/\ix.Nodup)(e1:N=N':=by rfl)(e2:osc=osc':=by rfl):rl N' osc' scope x fr ix:=by
 subst e1 e2;obtain⟨h1,h2,h3,h4,h5,h6,h7,h8,h9⟩:=h;exact⟨h1,h2,h3,h4,h5,h6,h7,λj i y a b=>h8 (i,y) (jM (List.getElem?_zip_eq_some.mpr ⟨a,b⟩)),h9⟩
theorem cV {P:Program}{w:World}{K:ja}{mg:Str->Option Gg}{base:Heap}{k:Nat}{f:Gj}{fd:Gi}{ps:List Str}{fm fm':List D->Option D}(h:fB P w K mg base fL k f fd ps (gP K fm'))(e:fm'=fm):fB P w K mg base fL k f fd ps (gP K fm):=e▸h
theorem cW {P:Program}{w:World}{K:ja}{mg:Str->Option Gg}{base:Heap}{k:Nat}{f:Gj}{fd:Gi}{ps:List Str}{fm fm':List D->Option (List D)}(h:fB P w K mg base fL k f fd ps (wN K fm'))(e:fm'=fm):fB P w K mg base fL k f fd ps (wN K fm):=e▸h
section
variable {X:Cx}{k j:Nat}{f:Gj}{fd:Gi}{ps:List Str}{x:Str}{st:Stmt}{p pos:Pos}{e:Expr}{es:List Expr}{g:FL}
theorem vc {fm:List D->Option D}(F:fB X.prog X.w X.K X.mg X.base fL k f fd ps (gP X.K fm))(W:Fn X.K X.mg x st ps f fd)(hr:gr j X.A)(ha:PL X (e::es) g)(hk:k<=j:=by decide)(hg:Gl X x:=by rfl)
  (hdb:(x==("__debug__":Str))=false:=by decide) (he:starEach (e::es) X.env=(false,eval e X.env)::starEach es X.env:=by rfl) (hpl:(backTo pos (starEach es X.env)).any (·.1)=false:=by rfl) :
  PV X (.Call (.Name x p) (e::es) [] pos) (λψ=>(g ψ).bind fm):=Xc F (hr.mono hk) W.m W.F.kp W.b ha hg hdb he hpl
end
end T3
noncomputable section
namespace Law
noncomputable section
open PySem PySem.Spec PyProof.Rows L2 T3
open PySem PySem.W PySem.Spec PyProof.Rows L2 T3
abbrev DZ:Stmt:=gH 1
abbrev Iw:Stmt:=gH 2
abbrev ET:Stmt:=gH 3
abbrev GK:Stmt:=gH 4
abbrev Fu:Stmt:=gH 5
abbrev Er:Stmt:=gH 11
abbrev EC:Stmt:=gH 12
abbrev Ht:Stmt:=gH 13
abbrev Hi:Stmt:=gH 14
abbrev EG:Stmt:=gH 15
abbrev HF:Stmt:=gH 16
abbrev Fj:Stmt:=gH 18
abbrev Ep:Stmt:=gH 19
abbrev Fh:Stmt:=gH 20
abbrev Gs:Stmt:=gH 21
abbrev Ix:Stmt:=gH 22
abbrev FC:Stmt:=gH 23
abbrev IB:Stmt:=gH 24
abbrev HC:Stmt:=gH 25
abbrev GM:Stmt:=gH 26
abbrev Hq:Stmt:=gH 27
abbrev EF:Stmt:=gH 28
abbrev Ee:Stmt:=gH 29
abbrev IQ:Stmt:=gH 31
abbrev Ig:Stmt:=gH 32
abbrev El:Stmt:=gH 33
abbrev Fw:Stmt:=gH 34
abbrev Hz:Stmt:=gH 36
abbrev HB:Stmt:=gH 37
abbrev GH:Stmt:=gH 38
abbrev EU:Stmt:=gH 39
abbrev Iq:Stmt:=gH 41
abbrev GY:Stmt:=gH 42
abbrev EI:Stmt:=gH 43
abbrev HQ:Stmt:=gH 44
abbrev EO:Stmt:=gH 46
abbrev Ic:Stmt:=gH 47
abbrev FJ:Stmt:=gH 48
abbrev IA:Stmt:=gH 49
abbrev IJ:Stmt:=gH 50
abbrev DI:Stmt:=gH 52
abbrev GA:Stmt:=gH 53
abbrev IV:Stmt:=gH 54
abbrev IW:Stmt:=gH 55
abbrev Fx:Stmt:=gH 57
abbrev IP:Stmt:=gH 58
abbrev Bn:Stmt:=gH 59
abbrev Go:Stmt:=gH 60
structure Nq where
 a_q24:Gj
 d_q24:Gi
 a_q39:Gj
 d_q39:Gi
 a_q28:Gj
 d_q28:Gi
 a_q38:Gj
 d_q38:Gi
 a_q30:Gj
 d_q30:Gi
 a_q14:Gj
 d_q14:Gi
 a_q34:Gj
 d_q34:Gi
 a_q46:Gj
 d_q46:Gi
 a_q22:Gj
 d_q22:Gi
 a_q42:Gj
 d_q42:Gi
 a_q43:Gj
 d_q43:Gi
 a_q11:Gj
 d_q11:Gi
 a_q4:Gj
 d_q4:Gi
 a_q29:Gj
 d_q29:Gi
 a_q32:Gj
 d_q32:Gi
 a_q15:Gj
 d_q15:Gi
 a_q31:Gj
 d_q31:Gi
 a_q25:Gj
 d_q25:Gi
 a_q16:Gj
 d_q16:Gi
 a_q45:Gj
 d_q45:Gi
 a_q9:Gj
 d_q9:Gi
 a_q12:Gj
 d_q12:Gi
 a_q36:Gj
 d_q36:Gi
 a_q26:Gj
 d_q26:Gi
 a_q44:Gj
 d_q44:Gi
 a_q41:Gj
 d_q41:Gi
 a_q35:Gj
 d_q35:Gi
 a_q18:Gj
 d_q18:Gi
 a_q5:Gj
 d_q5:Gi
 a_q17:Gj
 d_q17:Gi
 a_q37:Gj
 d_q37:Gi
 a_q13:Gj
 d_q13:Gi
 a_q0:Gj
 d_q0:Gi
 a_q6:Gj
 d_q6:Gi
 a_q33:Gj
 d_q33:Gi
 a_q20:Gj
 d_q20:Gi
 a_q3:Gj
 d_q3:Gi
 a_q21:Gj
 d_q21:Gi
 a_q23:Gj
 d_q23:Gi
 a_q2:Gj
 d_q2:Gi
 a_q8:Gj
 d_q8:Gi
 a_q1:Gj
 d_q1:Gi
 a_q19:Gj
 d_q19:Gi
 a_q40:Gj
 d_q40:Gi
 a_q10:Gj
 d_q10:Gi
 a_q7:Gj
 d_q7:Gi
 a_q27:Gj
 d_q27:Gi
 a_q47:Gj
 d_q47:Gi
 c0:Gj
 Pt:Gj
structure gL (K:ja)(mg:Str->Option Gg)(t:Nq):Prop where
 q24:Fn K mg "is_whole" DZ ["thing"] t.a_q24 t.d_q24
 q39:Fn K mg "bit_of" Iw ["hand"] t.a_q39 t.d_q39
 q28:Fn K mg "has_hand" ET ["mask","hand"] t.a_q28 t.d_q28
 q38:Fn K mg "mask_of" GK ["hands"] t.a_q38 t.d_q38
 q30:Fn K mg "hands_in" Fu ["mask"] t.a_q30 t.d_q30
 q14:Fn K mg "many_hands" Er ["run"] t.a_q14 t.d_q14
 q34:Fn K mg "fall_of" EC ["run","hand"] t.a_q34 t.d_q34
 q46:Fn K mg "is_up" Ht ["run","hand","rounds"] t.a_q46 t.d_q46
 q22:Fn K mg "who_is_up" Hi ["run","rounds"] t.a_q22 t.d_q22
 q42:Fn K mg "comes" EG ["run","by","to","at"] t.a_q42 t.d_q42
 q43:Fn K mg "keeps" HF ["run","bound"] t.a_q43 t.d_q43
 q11:Fn K mg "view_behind" Fj ["run","views","hand","at"] t.a_q11 t.d_q11
 q4:Fn K mg "views_behind" Ep ["run","views","at"] t.a_q4 t.d_q4
 q29:Fn K mg "views_of" Fh ["run","rounds"] t.a_q29 t.d_q29
 q32:Fn K mg "own_part" Gs ["view"] t.a_q32 t.d_q32
 q15:Fn K mg "rounds_of" Ix ["view"] t.a_q15 t.d_q15
 q31:Fn K mg "own_past" FC ["view","rounds"] t.a_q31 t.d_q31
 q25:Fn K mg "parts_of" IB ["views"] t.a_q25 t.d_q25
 q16:Fn K mg "layers_of" HC ["view"] t.a_q16 t.d_q16
 q45:Fn K mg "known" GM ["view"] t.a_q45 t.d_q45
 q9:Fn K mg "least_known" Hq ["view"] t.a_q9 t.d_q9
 q12:Fn K mg "missing_in" EF ["view"] t.a_q12 t.d_q12
 q36:Fn K mg "lacking" Ee ["view","rounds"] t.a_q36 t.d_q36
 q26:Fn K mg "first_of" IQ ["lesser","place"] t.a_q26 t.d_q26
 q44:Fn K mg "unite" Ig ["lesser","one","two"] t.a_q44 t.d_q44
 q41:Fn K mg "joined" El ["runs","rounds"] t.a_q41 t.d_q41
 q35:Fn K mg "classes" Fw ["runs","rounds"] t.a_q35 t.d_q35
 q18:Fn K mg "choice_by" Hz ["rule","view"] t.a_q18 t.d_q18
 q5:Fn K mg "last_rounds" HB ["run","hand","rounds"] t.a_q5 t.d_q5
 q17:Fn K mg "last_view" GH ["run","hand","rounds"] t.a_q17 t.d_q17
 q37:Fn K mg "choices" EU ["rule","run","rounds"] t.a_q37 t.d_q37
 q13:Fn K mg "waste_seen" Iq ["view"] t.a_q13 t.d_q13
 q0:Fn K mg "is_behind_bound" GY ["view","bound"] t.a_q0 t.d_q0
 q6:Fn K mg "least_where" EI ["tells","view"] t.a_q6 t.d_q6
 q33:Fn K mg "together" HQ ["view","bound"] t.a_q33 t.d_q33
 q20:Fn K mg "all_heard" EO ["fall","up"] t.a_q20 t.d_q20
 q3:Fn K mg "is_found_out" Ic ["fall","up","rounds"] t.a_q3 t.d_q3
 q21:Fn K mg "found_out" FJ ["run","rounds"] t.a_q21 t.d_q21
 q23:Fn K mg "waste_of" IA ["run"] t.a_q23 t.d_q23
 q2:Fn K mg "closing_round" IJ ["run","bound"] t.a_q2 t.d_q2
 q8:Fn K mg "all_numbers" DI ["numbers","hands"] t.a_q8 t.d_q8
 q1:Fn K mg "falls_of_hand" GA ["hand","hands","rounds"] t.a_q1 t.d_q1
 q19:Fn K mg "all_falls" IV ["hands","bound","rounds"] t.a_q19 t.d_q19
 q40:Fn K mg "worlds" IW ["numbers","hands","bound","rounds"] t.a_q40 t.d_q40
 q10:Fn K mg "_law_cell_at" Fx ["script","k"] t.a_q10 t.d_q10
 q7:Fn K mg "_law_numbers" IP ["script"] t.a_q7 t.d_q7
 q27:Fn K mg "_law_told" Bn ["runs","group","bound","rounds"] t.a_q27 t.d_q27
 q47:Fn K mg "law" Go ["script"] t.a_q47 t.d_q47
 b_all:mg "all"=Gb
 b_bool:mg "bool"=Gb
 b_enumerate:mg "enumerate"=Gb
 b_int:mg "int"=Gb
 b_isinstance:mg "isinstance"=Gb
 b_len:mg "len"=Gb
 b_list:mg "list"=Gb
 b_max:mg "max"=Gb
 b_min:mg "min"=Gb
 b_range:mg "range"=Gb
 b_reversed:mg "reversed"=Gb
 b_sorted:mg "sorted"=Gb
 b_tuple:mg "tuple"=Gb
 lam_cd:t.d_q27.code=.ref t.c0
 lam_hd:qA K t.c0 t.Pt=true
 lam_bm:∃ bm o,mg "__builtins__"=Ga (.ref bm)/\bm≠builtinsNs/\bm≠mainGlobals/\K.lookup bm=Ga o/\o.cls=.type "module"/\o.dict=Ga builtinsNs/\o.data=.plain
 c_LAST_ROUND:∃ t,mg "LAST_ROUND"=Ga (.int 5 t)
variable {P:Program}{w:World}{K:ja}{mg:Str->Option Gg}{base:Heap}{t:Nq}
theorem Zm:fo ["thing"] ["thing"] (eP DZ):=fO (by nofun)
abbrev eD:=gv 0
def Yj:FS:=gI (sA (un (wd "int") eD) (BR (un (wd "bool") eD)))
def Mf:List D->Option D:=gy 1 1 Yj
theorem Rk (T:gL K mg t):fB P w K mg base fL 1 t.a_q24 t.d_q24 ["thing"] (gP K Mf) :=
 hX T.q24.F Zm λ_ _ _ _ _ _ hr=>fM (gK (AB (HR (T:="int") (by decide) rfl T.b_isinstance rfl T.b_int boot_int (dh 0)) (xu (Mq (HR (T:="bool") (by decide) rfl T.b_isinstance rfl T.b_bool boot_bool (dh 0))))))
theorem Cz:fo ["hand","bit","step"] ["hand"] (eP Iw):=fO (by nofun)
abbrev eE:=gv 1
abbrev dP:=fZ (.int 1)
abbrev dQ:=fZ (.int 2)
abbrev bJ:=fX 1 (fu lH eE dQ)
abbrev dy:=iw gf eD
abbrev eA:=gY 2
def Fk:FS:=fJ (fX 1 dP) (fJ (iC dy eA bJ) (gI eE))
def yH:List D->Option D:=gy 1 3 Fk
theorem DT (T:gL K mg t):fB P w K mg base fL 1 t.a_q39 t.d_q39 ["hand"] (gP K yH) :=
 hX T.q39.F Cz λ_ _ _ _ _ _ hr=>fT (gW 1 fI Cz.nd) (fT (lO PassesOwn.never rfl (nK rfl T.b_range (dh 0)) (lJ 2 Cz.nd) (fM (gW 1 (Hn (dh 1) fI) Cz.nd))) (fM (gK (dh 1))))
theorem VE:fo ["mask","hand"] ["mask","hand"] (eP ET):=fO (by nofun)
abbrev dr:=eU eE (fN)
abbrev dR:=fZ (.int 0)
abbrev cp:=fq yH dr
def Yc:FS:=gI (fu ia (fu Hy eD cp) dR)
def rH:List D->Option D:=gy 2 2 Yc
theorem Dc (T:gL K mg t):fB P w K mg base fL 2 t.a_q28 t.d_q28 ["mask","hand"] (gP K rH) :=
 hX T.q28.F VE λ_ _ _ _ _ _ hr=>fM (gK (Pw (mK hr) (Tq (dh 0) (vc (DT T) T.q39 hr (fj (dh 1) fG))) fI))
theorem CN:fo ["hands","mask","hand"] ["hands"] (eP GK):=fO (by nofun)
abbrev eF:=gv 2
abbrev dt:=eU eF (fN)
abbrev bf:=fu xy eE (fq yH dt)
abbrev aQ:=fX 1 bf
def Ib:FS:=fJ (fX 1 dR) (fJ (iC (iK eD) eA aQ) (gI eE))
def yD:List D->Option D:=gy 1 3 Ib
theorem Ph (T:gL K mg t):fB P w K mg base fL 2 t.a_q38 t.d_q38 ["hands"] (gP K yD) :=
 hX T.q38.F CN λ_ _ _ _ _ _ hr=>fT (gW 1 fI CN.nd) (fT (lO PassesOwn.never rfl (mi (dh 0)) (lJ 2 CN.nd) (fM (gW 1 (MJ (dh 1) (vc (DT T) T.q39 hr (fj (dh 2) fG))) CN.nd))) (fM (gK (dh 1))))
theorem KN:fo ["mask"] ["mask"] (eP Fu):=fO (by nofun)
abbrev du:=eU eD (fN)
abbrev bX:=eU eE du
abbrev bq:=fq rH bX
abbrev cX:=iw gf (un zl eD)
def Gm:FS:=xS (fQ cX (lF bq) eD [0])
def nS:List D->Option (List D):=wj 1 1 Gm
theorem MI (T:gL K mg t):fB P w K mg base fL 3 t.a_q30 t.d_q30 ["mask"] (wN K nS) :=
 DN T.q30.F KN λ_ _ _ _ _ _ hr=>fM (OF (om rfl (cO KN (fr:=["mask"]) (by nofun)) (nK rfl T.b_range (Xs (dh 0))) (tU (by nofun) rfl (λcl C s H fp ω=>pg (vc (Dc T) T.q28 hr (fj (dh 1) (fj (dh 0) fG)))) (λcl C s H fp ω=>dh 0))))
theorem Tv:fo ["run"] ["run"] (eP Er):=fO (by nofun)
abbrev cB:=fu eY eD dR
def QO:FS:=gI (un fU cB)
def tN:List D->Option D:=gy 1 1 QO
theorem Ck (T:gL K mg t):fB P w K mg base fL 1 t.a_q14 t.d_q14 ["run"] (gP K tN) :=
 hX T.q14.F Tv λ_ _ _ _ _ _ hr=>fM (gK (mZ rfl T.b_len (gq (dh 0) fI)))
theorem Lx:fo ["run","hand","fall"] ["run","hand"] (eP EC):=fO (by nofun)
abbrev dZ:=fZ .none
abbrev cE:=fu eY eF dR
abbrev dU:=gI eF
abbrev aD:=lY (gM gz cE eE) dU (mX)
abbrev cD:=fu eY eD dP
abbrev bU:=iK cD
abbrev dz:=gI dZ
def DQ:FS:=fJ (iC bU eA aD) dz
def yB:List D->Option D:=gy 2 3 DQ
theorem Gz (T:gL K mg t):fB P w K mg base fL 1 t.a_q34 t.d_q34 ["run","hand"] (gP K yB) :=
 hX T.q34.F Lx λ_ _ _ _ _ _ hr=>fT (lO PassesOwn.never rfl (mi (gq (dh 0) fI)) (lJ 2 Lx.nd) (fM (lV (yj (mK hr) (gq (dh 2) fI) (dh 1)) (fM (gK (dh 2))) ou))) (fM (gK ol))
theorem Ly:fo ["run","hand","rounds","fall"] ["run","hand","rounds"] (eP Ht):=fO (by nofun)
abbrev eG:=gv 3
abbrev bY:=eU eD dr
abbrev br:=fq yB bY
def GB:FS:=fJ (fX 3 br) (gI (CI (fu iP eG dZ) (fu Ak (fu eY eG dP) eF)))
def yK:List D->Option D:=gy 3 4 GB
theorem MW (T:gL K mg t):fB P w K mg base fL 2 t.a_q46 t.d_q46 ["run","hand","rounds"] (gP K yK) :=
 hX T.q46.F Ly λ_ _ _ _ _ _ hr=>fT (gW 3 (vc (Gz T) T.q34 hr (fj (dh 0) (fj (dh 1) fG))) Ly.nd) (fM (gK (GC (QC (dh 3) ol) (xu (Pr (gq (dh 3) fI) (dh 2))))))
theorem NV:fo ["run","rounds"] ["run","rounds"] (eP Hi):=fO (by nofun)
abbrev aN:=fq yK (eU eF bY)
abbrev cq:=fq tN du
abbrev bz:=iw gf cq
def HS:FS:=xS (fQ bz (lF aN) eD [1,0])
def AI:List D->Option (List D):=wj 2 2 HS
theorem MP (T:gL K mg t):fB P w K mg base fL 3 t.a_q22 t.d_q22 ["run","rounds"] (wN K AI) :=
 DN T.q22.F NV λ_ _ _ _ _ _ hr=>fM (OF (om rfl (cO NV (fr:=["rounds","run"]) (by nofun)) (nK rfl T.b_range (vc (Ck T) T.q14 hr (fj (dh 0) fG))) (tU (by nofun) rfl (λcl C s H fp ω=>pg (vc (MW T) T.q46 hr (fj (dh 2) (fj (dh 0) (fj (dh 1) fG))))) (λcl C s H fp ω=>dh 0))))
theorem Lv:fo ["run","by","to","at","fall"] ["run","by","to","at"] (eP EG):=fO (by nofun)
abbrev eI:=gv 4
abbrev bZ:=eU eF (eU eG fN)
abbrev ba:=eU eD bZ
abbrev aH:=lF (fq yK ba)
abbrev aP:=eU (fu eY eI dQ) dt
abbrev cF:=fu eY eI dP
abbrev di:=gI (fZ (.bool false))
def Gy:FS:=fJ (lY (wP (gM gz eE eF) (tZ aH)) di mX) (fJ (fX 4 br) (fJ (lY (wP (gM iP eI dZ) (gM Ak cF eG)) (gI (fZ (.bool true))) mX) (gI (sA (fu gz cF eG) (fq rH aP)))))
def Bq:List D->Option D:=gy 4 5 Gy
theorem SI (T:gL K mg t):fB P w K mg base fL 3 t.a_q42 t.d_q42 ["run","by","to","at"] (gP K Bq) :=
 hX T.q42.F Lv λ_ _ _ _ _ _ hr=>fT (lV (nV.b (xV (yj (mK hr) (dh 1) (dh 2)) (Al (De (pg (vc (MW T) T.q46 hr (fj (dh 0) (fj (dh 2) (fj (dh 3) fG))))))))) (fM (gK (yk))) ou) (fT (gW 4 (vc (Gz T) T.q34 hr (fj (dh 0) (fj (dh 1) fG))) Lv.nd) (fT (lV (nV.b (xV (xC (dh 4) ol) (Al (QH (gq (dh 4) fI) (dh 3))))) (fM (gK (yk))) ou) (fM (gK (AB (zt (mK hr) (gq (dh 4) fI) (dh 3)) (xu (vc (Dc T) T.q28 hr (fj (gq (dh 4) fI) (fj (dh 2) fG)))))))))
theorem Vo:fo ["run","bound"] ["run","bound"] (eP HF):=fO (by nofun)
abbrev aR:=fu iz cq dQ
abbrev bK:=un fU cD
def Ik:FS:=fJ (lY (tZ (lF (fq Mf dr))) di mX) (gI (sA (wZ lI lI dR eE aR) (fu lI bK eE)))
def HW:List D->Option D:=gy 2 2 Ik
theorem RU (T:gL K mg t):fB P w K mg base fL 2 t.a_q43 t.d_q43 ["run","bound"] (gP K HW) :=
 hX T.q43.F Vo λ_ _ _ _ _ _ hr=>fT (lV (De (pg (vc (Rk T) T.q24 hr (fj (dh 1) fG)))) (fM (gK (yk))) ou) (fM (gK (AB (Zo wV wV (pM λ_ _ _=>.bl _) (pM λ_ _ _=>.bl _) fI (dh 1) (pY (vc (Ck T) T.q14 hr (fj (dh 0) fG)) fI)) (xu (Qr (mZ rfl T.b_len (gq (dh 0) fI)) (dh 1))))))
theorem HA:fo ["run","views","hand","at","parts"] ["run","views","hand","at"] (eP Fj):=fO (by nofun)
abbrev bb:=eU eD (eU eF dr)
abbrev aB:=fq Bq (eU eG bb)
abbrev af:=xq (wP (gM gz eD eF) (lF aB)) (fu eY eI eD) dZ
abbrev de:=iw gf (un fU eE)
def HZ:FS:=fJ (wg 4 (oC 4 (fQ de (λ_=>Ga true) af [3,2,0,1]))) (gI (pF (eU eF (eU (wH JZ (xJ eI)) fN))))
def CL:List D->Option D:=gy 4 5 HZ
theorem VS (T:gL K mg t):fB P w K mg base fL 4 t.a_q11 t.d_q11 ["run","views","hand","at"] (gP K CL) :=
 hX T.q11.F HA λ_ _ _ _ _ _ hr=>fT (Ct 4 (CF 4 rfl (cO HA (fr:=["at","hand","run","views"]) (by nofun)) (nK rfl T.b_range (mZ rfl T.b_len (dh 1))) (nu (by nofun) rfl (λcl C s H fp ω=>zE (nV.b (xV (yj (mK hr) (dh 0) (dh 2)) (Al (pg (vc (SI T) T.q42 hr (fj (dh 3) (fj (dh 0) (fj (dh 2) (fj (dh 1) fG))))))))) (gq (dh 4) (dh 0)) ol)) HA.nd)) (fM (gK (tJ (fj (dh 2) (fj (XO rfl T.b_tuple (PV.sh (dh 4))) fG)))))
theorem HG:fo ["run","views","at","up"] ["run","views","at"] (eP Ep):=fO (by nofun)
abbrev ak:=xq (gM wS eD eG) (fq CL (eU eF (eU eI bY))) dZ
abbrev cb:=eU eD dt
def EQ:FS:=fJ (fX 3 (gU (oO AI cb))) (gI (gU (fQ de (λ_=>Ga true) ak [2,0,3,1])))
def Cd:List D->Option D:=gy 3 4 EQ
theorem ZY (T:gL K mg t):fB P w K mg base fL 5 t.a_q4 t.d_q4 ["run","views","at"] (gP K Cd) :=
 hX T.q4.F HG λ_ _ _ _ _ _ hr=>fT (gW 3 (PO.v (Am (MP T) (hr.mono (by decide)) T.q22.m T.q22.F.kp T.q22.b (fj (dh 0) (fj (dh 2) fG)))) HG.nd) (fM (gK (PO.v (om rfl (cO HG (fr:=["at","run","up","views"]) (by nofun)) (nK rfl T.b_range (mZ rfl T.b_len (dh 1))) (nu (by nofun) rfl (λcl C s H fp ω=>zE (Qn (mK hr) (dh 0) (dh 3)) (vc (VS T) T.q11 hr (fj (dh 2) (fj (dh 4) (fj (dh 0) (fj (dh 1) fG))))) ol))))))
theorem Au:fo ["run","rounds","views","at"] ["run","rounds"] (eP Fh):=fO (by nofun)
abbrev cx:=fu ge eE dP
abbrev az:=pF (eU eD (eU (fu eY (fu eY eE dR) eD) fN))
abbrev aF:=fX 2 (fq Cd ba)
def Fm:FS:=fJ (wg 2 (oC 2 (fQ bz (λ_=>Ga true) az [0]))) (fJ (iC (sB nr dP cx) (gY 3) aF) dU)
def rK:List D->Option D:=gy 2 4 Fm
theorem MG (T:gL K mg t):fB P w K mg base fL 6 t.a_q29 t.d_q29 ["run","rounds"] (gP K rK) :=
 hX T.q29.F Au λ_ _ _ _ _ _ hr=>fT (Ct 2 (CF 2 rfl (cO Au (fr:=["run"]) (by nofun)) (nK rfl T.b_range (vc (Ck T) T.q14 hr (fj (dh 0) fG))) (nu (by nofun) rfl (λcl C s H fp ω=>tJ (fj (dh 0) (fj (gq (gq (dh 1) fI) (dh 0)) fG)))) Au.nd)) (fT (lO PassesOwn.never rfl (BW rfl T.b_range fI (mw (dh 1) fI)) (lJ 3 Au.nd) (fM (gW 2 (vc (ZY T) T.q4 hr (fj (dh 0) (fj (dh 2) (fj (dh 3) fG)))) Au.nd))) (fM (gK (dh 2))))
theorem Wg:fo ["view"] ["view"] (eP Gs):=fO (by nofun)
def Gu:FS:=gI (fu eY cD cB)
def yZ:List D->Option D:=gy 1 1 Gu
theorem MM (T:gL K mg t):fB P w K mg base fL 1 t.a_q32 t.d_q32 ["view"] (gP K yZ) :=
 hX T.q32.F Wg λ_ _ _ _ _ _ hr=>fM (gK (gq (gq (dh 0) fI) (gq (dh 0) fI)))
theorem CY:fo ["view","rounds"] ["view"] (eP Ix):=fO (by nofun)
abbrev bF:=fX 0 (fq yZ du)
abbrev bL:=fX 1 cx
abbrev aw:=fJ bF bL
abbrev be:=un (wd "tuple") cD
abbrev aW:=lF be
def HP:FS:=fJ (fX 1 dR) (fJ (iA aW aw 100) (gI eE))
def oo:List D->Option D:=gy 1 2 HP
theorem Ar (T:gL K mg t):fB P w K mg base fL 2 t.a_q15 t.d_q15 ["view"] (gP K oo) :=
 hX T.q15.F CY λ_ _ _ _ _ _ hr=>fT (gW 1 fI CY.nd) (fT (OC 100 PassesOwn.never (pg (HR (T:="tuple") (by decide) rfl T.b_isinstance rfl T.b_tuple boot_tuple (gq (dh 0) fI))) (fT (gW 0 (vc (MM T) T.q32 hr (fj (dh 0) fG)) CY.nd) (fM (gW 1 (mw (dh 1) fI) CY.nd)))) (fM (gK (dh 1))))
theorem EW:fo ["view","rounds","step"] ["view","rounds"] (eP FC):=fO (by nofun)
def IM:FS:=fJ (iC (iw gf (fu iz (fq oo du) eE)) eA bF) (gI eD)
def yo:List D->Option D:=gy 2 3 IM
theorem zkS (T:gL K mg t):fB P w K mg base fL 3 t.a_q31 t.d_q31 ["view","rounds"] (gP K yo) :=
 hX T.q31.F EW λ_ _ _ _ _ _ hr=>fT (lO PassesOwn.never rfl (nK rfl T.b_range (pY (vc (Ar T) T.q15 hr (fj (dh 0) fG)) (dh 1))) (lJ 2 EW.nd) (fM (gW 0 (vc (MM T) T.q32 hr (fj (dh 0) fG)) EW.nd))) (fM (gK (dh 0)))
theorem CJ:fo ["views","parts","view","part"] ["views"] (eP IB):=fO (by nofun)
abbrev cG:=fu eY eF dP
abbrev bV:=iK cG
abbrev cH:=gM gS eG dZ
def Ie:FS:=fJ (Gp 1) (fJ (iC (iK eD) eA (iC bV (gY 3) (lY cH (ym 1 eG) mX))) (Bw 1 (gI (gU (iw rO eE)))))
def CZ:List D->Option D:=gy 1 4 Ie
theorem Yh (T:gL K mg t):fB P w K mg base fL 1 t.a_q25 t.d_q25 ["views"] (gP K CZ) :=
 hX T.q25.F CJ λ_ _ _ _ _ _ hr=>fT (Yz 1 CJ.nd) (fT (lO PassesOwn.never rfl (mi (dh 0)) (lJ 2 CJ.nd) (fM (lO PassesOwn.never rfl (mi (gq (dh 2) fI)) (lJ 3 CJ.nd) (fM (lV (EL (dh 3) ol) (fM (UW 1 (mK hr) (dh 3))) ou))))) (fM (ED 1 (gK (PO.v (YT rfl rfl T.b_list (dh 1)))))))
theorem FK:fo ["view","layers","step"] ["view"] (eP HC):=fO (by nofun)
abbrev aK:=fq CZ (eU (yG (gl 1) (un zu dP)) fN)
def Fv:FS:=fJ (oC 1 (eU (gU du) fN)) (fJ (iC (iw gf (fq oo du)) eA (zF 1 aK)) (gI (gU (Ev (gl 1)))))
def wD:List D->Option D:=gy 1 3 Fv
theorem Mz (T:gL K mg t):fB P w K mg base fL 3 t.a_q16 t.d_q16 ["view"] (gP K wD) :=
 hX T.q16.F FK λ_ _ _ _ _ _ hr=>fT (wG 1 (ng (fj (PO.v (ng (fj (dh 0) fG))) fG)) FK.nd) (fT (lO PassesOwn.never rfl (nK rfl T.b_range (vc (Ar T) T.q15 hr (fj (dh 0) fG))) (lJ 2 FK.nd) (fM (Pe 1 (vc (Yh T) T.q25 hr (fj (CB (HV 1) (WN fI)) fG))))) (fM (gK (PO.v (Zx rfl rfl T.b_list rfl T.b_reversed (HV 1))))))
theorem zo3:fo ["view"] ["view"] (eP GM):=fO (by nofun)
abbrev cr:=fq wD du
abbrev aU:=fu eY cr dR
abbrev aL:=xJ aU
def Fg:FS:=gI (gU (CG aL))
def Da:List D->Option D:=gy 1 1 Fg
theorem Xu (T:gL K mg t):fB P w K mg base fL 4 t.a_q45 t.d_q45 ["view"] (gP K Da) :=
 hX T.q45.F zo3 λ_ _ _ _ _ _ hr=>fM (gK (PO.v (XD rfl T.b_sorted (PV.sh (gq (vc (Mz T) T.q16 hr (fj (dh 0) fG)) fI)))))
theorem OO:fo ["view"] ["view"] (eP Hq):=fO (by nofun)
abbrev bP:=iK (fq Da du)
def IK:FS:=gI (wH oh (fQ bP (λ_=>Ga true) cD []))
def yM:List D->Option D:=gy 1 1 IK
theorem XM (T:gL K mg t):fB P w K mg base fL 5 t.a_q9 t.d_q9 ["view"] (gP K yM) :=
 hX T.q9.F OO λ_ _ _ _ _ _ hr=>fM (gK (Rw rfl rfl T.b_min (PO.sh (om rfl (cO OO (fr:=[]) (by nofun)) (mi (vc (Xu T) T.q45 hr (fj (dh 0) fG))) (nu (by nofun) rfl (λcl C s H fp ω=>gq (dh 0) fI))))))
theorem Im:fo ["view","parts"] ["view"] (eP EF):=fO (by nofun)
abbrev bv:=gM iP (fu eY eE eD) dZ
def Fb:FS:=fJ (fX 1 cD) (gI (fq yD (eU (gU (fQ de bv eD [1])) fN)))
def AE:List D->Option D:=gy 1 2 Fb
theorem RN (T:gL K mg t):fB P w K mg base fL 3 t.a_q12 t.d_q12 ["view"] (gP K AE) :=
 hX T.q12.F Im λ_ _ _ _ _ _ hr=>fT (gW 1 (gq (dh 0) fI) Im.nd) (fM (gK (vc (Ph T) T.q38 hr (fj (PO.v (om rfl (cO Im (fr:=["parts"]) (by nofun)) (nK rfl T.b_range (mZ rfl T.b_len (dh 1))) (tU (by nofun) rfl (λcl C s H fp ω=>xC (gq (dh 1) (dh 0)) ol) (λcl C s H fp ω=>dh 0)))) fG))))
theorem AU:fo ["view","rounds","mask","layer","contained"] ["view","rounds"] (eP Ee):=fO (by nofun)
abbrev dw:=eU eI (fN)
abbrev bg:=fu xy eF (fq AE dw)
abbrev aS:=fX 2 bg
abbrev bQ:=tP cx
abbrev dW:=iK eG
def Fi:FS:=fJ (fX 2 dR) (fJ (iC (iK (FE cr (tP dP) bQ)) (gY 3) (iC dW (gY 4) aS)) dU)
def rT:List D->Option D:=gy 2 5 Fi
theorem Xm (T:gL K mg t):fB P w K mg base fL 4 t.a_q36 t.d_q36 ["view","rounds"] (gP K rT) :=
 hX T.q36.F AU λ_ _ _ _ _ _ hr=>fT (gW 2 fI AU.nd) (fT (lO PassesOwn.never rfl (mi (Tc (vc (Mz T) T.q16 hr (fj (dh 0) fG)) (KH fI) (KH (mw (dh 1) fI)))) (lJ 3 AU.nd) (fM (lO PassesOwn.never rfl (mi (dh 3)) (lJ 4 AU.nd) (fM (gW 2 (MJ (dh 2) (vc (RN T) T.q12 hr (fj (dh 4) fG))) AU.nd))))) (fM (gK (dh 2))))
theorem MA:fo ["lesser","place"] ["lesser","place"] (eP IQ):=fO (by nofun)
def ma:FS:=fJ (iA (gM ia (fu eY eD eE) eE) (fJ (nN 0 eE (yG (mW 0) (yG (mW 0) eE))) (fX 1 (yG (mW 0) eE))) 1000) (Ir eE)
theorem DX (T:gL K mg t):fB P w K mg base fL 1 t.a_q26 t.d_q26 ["lesser","place"] (xG K ["lesser","place"] 2 ma) :=
 Rh T.q26.F MA λ_ _ _ _ _ _ hr=>fT (OC 1000 PassesOwn.never (zv (mK hr) (gq (dh 0) (dh 1)) (dh 1)) (fT (LF 0 (dh 1) (CB (GT 0) (CB (GT 0) (dh 1)))) (fM (gW 1 (CB (GT 0) (dh 1)) MA.nd)))) (fM (Yk (dh 1)))
theorem HI:fo ["lesser","one","two","first","other"] ["lesser","one","two"] (eP Ig):=fO (by nofun)
def GO:FS:=fJ (ml 3 2 ma (zL 0 (zx eE (zw)))) (fJ (ml 4 2 ma (zL 0 (zx eF (zw)))) (nN 0 (fu pA eG eI) (fu mI eG eI)))
def oG:FS:=IG GO
theorem UX (T:gL K mg t):fB P w K mg base fL 2 t.a_q44 t.d_q44 ["lesser","one","two"] (xG K ["lesser","one","two","first","other"] 3 oG) :=
 QD T.q44.F HI λ_ _ _ _ _ _ hr=>fT (Nk 3 (DX T) (hr.mono (by decide)) T.q26.m T.q26.F.kp T.q26.b (Lj 0 (NF (dh 1) MO)) (MC (Kw NJ)) (by decide) HI.nd) (fT (Nk 4 (DX T) (hr.mono (by decide)) T.q26.m T.q26.F.kp T.q26.b (Lj 0 (NF (dh 2) MO)) (MC (Kw NJ)) (by decide) HI.nd) (fM (LF 0 (RO rfl rfl T.b_max (dh 3) (dh 4)) (Fy rfl rfl T.b_min (dh 3) (dh 4)))))
theorem Aj:fo ["runs","rounds","lesser","seen","place","view"] ["runs","rounds"] (eP El):=fO (by nofun)
abbrev dA:=eX eE (fH)
abbrev bo:=eX (dE eY eD eI) dA
abbrev eh:=gj 5
abbrev eJ:=gv 5
abbrev dX:=eW .none
abbrev cI:=fS gS eJ dX
abbrev ah:=gB cI (ny (mv 5 oG (iE 2 (mo (iY 3 eJ eI) (iT eI (lm)))))) (gG)
abbrev aa:=lT (lv (gc rK bo)) eh ah
abbrev dF:=lK fU eD
abbrev df:=lU gf dF
abbrev cc:=pU 2 (lU sg dF)
def ME:FS:=fE cc (fE (zB 3) (fE (lT df (gj 4) aa) (yU (go 2))))
def Bl:List D->Option (List D):=wj 2 6 ME
theorem VW (T:gL K mg t):fB P w K mg base fL 7 t.a_q41 t.d_q41 ["runs","rounds"] (wN K Bl) :=
 cW (DN T.q41.F Aj λ_ _ _ _ _ _ hr=>fT (wG 2 (UZ rfl rfl T.b_list rfl T.b_range (mZ rfl T.b_len (dh 0))) Aj.nd) (fT (Rt 3 Aj.nd) (fT (lO PassesOwn.never rfl (nK rfl T.b_range (mZ rfl T.b_len (dh 0))) (lJ 4 Aj.nd) (fM (lO PassesOwn.never rfl (mi (vc (MG T) T.q29 hr (fj (gq (dh 0) (dh 4)) (fj (dh 1) fG)))) (lJ 5 Aj.nd) (fM (lV (EL (dh 5) ol) (fM (Sq (HL (UX T) (hr.mono (by decide)) T.q44.m T.q44.F.kp T.q44.b (Oa 2 (VJ (Ra 3 (mK hr) (dh 5) (dh 4)) (Oh (dh 4) Ms))) (OW (XT (Lz Mp))) (by decide)))) ou))))) (fM (Hc 2))))) rfl
theorem Fq:fo ["runs","rounds","lesser","told","place"] ["runs","rounds"] (eP Fw):=fO (by nofun)
abbrev ay:=zk 3 4 df (mv 2 ma (iE 2 (iT eI (lm)))) eI
abbrev cJ:=eX eD dA
def EJ:FS:=fE (pU 2 (tu Bl cJ)) ay
def wB:List D->Option D:=gy 2 5 EJ
theorem Tr (T:gL K mg t):fB P w K mg base fL 8 t.a_q35 t.d_q35 ["runs","rounds"] (gP K wB) :=
 cV (hX T.q35.F Fq λ_ _ _ _ _ _ hr=>fT (wG 2 (Am (VW T) (hr.mono (by decide)) T.q41.m T.q41.F.kp T.q41.b (fj (dh 0) (fj (dh 1) fG))) Fq.nd) (XR 3 4 rfl PassesOwn.never (by decide) rfl T.b_list (nK rfl T.b_range (mZ rfl T.b_len (dh 0))) (HL (DX T) (hr.mono (by decide)) T.q26.m T.q26.F.kp T.q26.b (Oa 2 (Oh (dh 4) Ms)) (OW (Lz Mp)) (by decide)) (dh 4) Fq.nd)) rfl
theorem FF:fo ["rule","view","rounds","number"] ["rule","view"] (eP Hz):=fO (by nofun)
def UD (c:gD)(φ:D->Option D):FS:=fJ (iC (iw gf (fu ge (fq oo dr) dP)) eA (fJ (fX 3 (oN 0 c φ (fq yo (eU eE dt)))) (lY cH (gI (pF bZ)) mX))) dz
def xD (c:gD)(φ:D->Option D):List D->Option D:=xR 0 2 4 c (UD c φ)
theorem VV (T:gL K mg t){c:gD}{φ:D->Option D}(hC:mE P w K mg base 8 c φ):fB P w K mg base fL 9 t.a_q18 t.d_q18 ["rule","view"] (Bm K 0 c (xD c φ)) :=
 Nt T.q18.F FF (by decide) λ_ _ _ _ _ _ hr=>fT (lO PassesOwn.never rfl (nK rfl T.b_range (mw (vc (Ar T) T.q15 hr (fj (dh 1) fG)) fI)) (lJ 2 FF.nd) (fT (gW 3 (SV 0 hC (hr.mono (by decide)) (vc (zkS T) T.q31 hr (fj (dh 1) (fj (dh 2) fG)))) FF.nd) (fM (lV (EL (dh 3) ol) (fM (gK (tJ (fj (dh 2) (fj (dh 3) fG))))) ou)))) (fM (gK ol))
theorem MK:fo ["run","hand","rounds","fall"] ["run","hand","rounds"] (eP HB):=fO (by nofun)
abbrev dJ:=eW (.int 1)
abbrev ag:=hV (zg (fS iP eG dX) eF (dE mI eF (dE iz (dE eY eG dJ) dJ)))
def EX:FS:=fE (gn 3 (gc yB cJ)) ag
def AF:List D->Option D:=gy 3 4 EX
theorem zh4 (T:gL K mg t):fB P w K mg base fL 2 t.a_q5 t.d_q5 ["run","hand","rounds"] (gP K AF) :=
 cV (hX T.q5.F MK λ_ _ _ _ _ _ hr=>fT (gW 3 (vc (Gz T) T.q34 hr (fj (dh 0) (fj (dh 1) fG))) MK.nd) (fM (gK (zE (xC (dh 3) ol) (dh 2) (Fy rfl rfl T.b_min (dh 2) (pY (gq (dh 3) fI) fI)))))) rfl
theorem Wv:fo ["run","hand","rounds"] ["run","hand","rounds"] (eP GH):=fO (by nofun)
abbrev cK:=eX eE (eX eF fH)
abbrev bA:=eX eD cK
def Ei:FS:=hV (dE eY (gc rK (eX eD (eX (gc AF bA) fH))) eE)
def xj:List D->Option D:=gy 3 3 Ei
theorem ZP (T:gL K mg t):fB P w K mg base fL 7 t.a_q17 t.d_q17 ["run","hand","rounds"] (gP K xj) :=
 cV (hX T.q17.F Wv λ_ _ _ _ _ _ hr=>fM (gK (gq (vc (MG T) T.q29 hr (fj (dh 0) (fj (vc (zh4 T) T.q5 hr (fj (dh 0) (fj (dh 1) (fj (dh 2) fG)))) fG))) (dh 1)))) rfl
theorem Pi:fo ["rule","run","rounds"] ["rule","run","rounds"] (eP EU):=fO (by nofun)
def Sc (c:gD)(φ:D->Option D):FS:=gI (gU (fQ (iw gf (fq tN dr)) (λ_=>Ga true) (nZ 2 c (xD c φ) (eU (fq xj (eU eG bY)) fN)) [2,0,1]))
def wF (c:gD)(φ:D->Option D):List D->Option D:=xR 0 3 3 c (Sc c φ)
theorem We (T:gL K mg t){c:gD}{φ:D->Option D}(hC:mE P w K mg base 8 c φ):fB P w K mg base fL 10 t.a_q37 t.d_q37 ["rule","run","rounds"] (Bm K 0 c (wF c φ)) :=
 Nt T.q37.F Pi (by decide) λ_ _ _ _ _ _ hr=>fM (gK (PO.v (om rfl (cO Pi (fr:=["rounds","rule","run"]) (by nofun)) (nK rfl T.b_range (vc (Ck T) T.q14 hr (fj (dh 1) fG))) (nu (by nofun) rfl (λcl C s H fp ω=>zw4 2 (VV T hC) (hr.mono (by decide)) T.q18.m T.q18.F.kp T.q18.b (fj (vc (ZP T) T.q17 hr (fj (dh 3) (fj (dh 0) (fj (dh 1) fG)))) fG))))))
theorem LS:fo ["view"] ["view"] (eP Iq):=fO (by nofun)
abbrev dL:=eW (.int 0)
abbrev dg:=eX dL (fH)
abbrev dB:=eX eD (fH)
abbrev cL:=eX eE dB
abbrev aA:=lK fU (gR (tu nS (eX (gc rT cL) fH)))
abbrev aq:=dE iz aA eD
def Eu:FS:=hV (Fa pI (IR (dE ge (gR dg) (gR (fQ (KG nr dJ (gc oo dB)) (λ_=>Ga true) aq [0])))))
def xB:List D->Option D:=gy 1 1 Eu
theorem YZ (T:gL K mg t):fB P w K mg base fL 5 t.a_q13 t.d_q13 ["view"] (gP K xB) :=
 cV (hX T.q13.F LS λ_ _ _ _ _ _ hr=>fM (gK (Ma rfl rfl T.b_max (PV.sh (mw (PO.v (ng (fj fI fG))) (PO.v (om rfl (cO LS (fr:=["view"]) (by nofun)) (BW rfl T.b_range fI (vc (Ar T) T.q15 hr (fj (dh 0) fG))) (nu (by nofun) rfl (λcl C s H fp ω=>pY (mZ rfl T.b_len (PO.v (Am (MI T) (hr.mono (by decide)) T.q30.m T.q30.F.kp T.q30.b (fj (vc (Xm T) T.q36 hr (fj (dh 1) (fj (dh 0) fG))) fG)))) (dh 0)))))))))) rfl
theorem WX:fo ["view","bound"] ["view","bound"] (eP GY):=fO (by nofun)
def GG:FS:=hV (dE HK (gc oo dB) (dE ge eE dJ))
def Ah:List D->Option D:=gy 2 2 GG
theorem Wf (T:gL K mg t):fB P w K mg base fL 3 t.a_q0 t.d_q0 ["view","bound"] (gP K Ah) :=
 cV (hX T.q0.F WX λ_ _ _ _ _ _ hr=>fM (gK (PH (vc (Ar T) T.q15 hr (fj (dh 0) fG)) (mw (dh 1) fI)))) rfl
theorem zh5:fo ["tells","view"] ["tells","view"] (eP EI):=fO (by nofun)
def Eb:FS:=hV (zg (iR eD) (gc yM dA) dX)
def AA:List D->Option D:=gy 2 2 Eb
theorem Xn (T:gL K mg t):fB P w K mg base fL 6 t.a_q6 t.d_q6 ["tells","view"] (gP K AA) :=
 cV (hX T.q6.F zh5 λ_ _ _ _ _ _ hr=>fM (gK (zE (pg (dh 0)) (vc (XM T) T.q9 hr (fj (dh 1) fG)) ol))) rfl
theorem Uh:fo ["view","bound"] ["view","bound"] (eP HQ):=fO (by nofun)
def FI:FS:=hV (gc AA (eX (gc Ah (eX eD (eX (dE iz eE (gc xB dB)) fH))) dB))
def sY:List D->Option D:=gy 2 2 FI
theorem RT (T:gL K mg t):fB P w K mg base fL 7 t.a_q33 t.d_q33 ["view","bound"] (gP K sY) :=
 cV (hX T.q33.F Uh λ_ _ _ _ _ _ hr=>fM (gK (vc (Xn T) T.q6 hr (fj (vc (Wf T) T.q0 hr (fj (dh 0) (fj (pY (dh 1) (vc (YZ T) T.q13 hr (fj (dh 0) fG))) fG))) (fj (dh 0) fG))))) rfl
theorem Ov:fo ["fall","up"] ["fall","up"] (eP EO):=fO (by nofun)
abbrev aE:=fq rH (eU (fu eY eE dQ) du)
def ES:FS:=gI (wH BG (fQ (iK eE) (λ_=>Ga true) aE [0]))
def zS:List D->Option D:=gy 2 2 ES
theorem Ro (T:gL K mg t):fB P w K mg base fL 3 t.a_q20 t.d_q20 ["fall","up"] (gP K zS) :=
 hX T.q20.F Ov λ_ _ _ _ _ _ hr=>fM (gK (Wy rfl rfl T.b_all (PO.sh (om rfl (cO Ov (fr:=["fall"]) (by nofun)) (mi (dh 1)) (nu (by nofun) rfl (λcl C s H fp ω=>vc (Dc T) T.q28 hr (fj (gq (dh 1) fI) (fj (dh 0) fG))))))))
theorem UU:fo ["fall","up","rounds"] ["fall","up","rounds"] (eP Ic):=fO (by nofun)
abbrev bu:=fq zS bY
def DK:FS:=gI (CI (fu nO cD eF) (sA (fu gz cD eF) (BR bu)))
def zW:List D->Option D:=gy 3 3 DK
theorem Zw (T:gL K mg t):fB P w K mg base fL 4 t.a_q3 t.d_q3 ["fall","up","rounds"] (gP K zW) :=
 hX T.q3.F UU λ_ _ _ _ _ _ hr=>fM (gK (GC (BB (gq (dh 0) fI) (dh 2)) (xu (AB (zt (mK hr) (gq (dh 0) fI) (dh 2)) (xu (Mq (vc (Ro T) T.q20 hr (fj (dh 0) (fj (dh 1) fG)))))))))
theorem EM:fo ["run","rounds","up"] ["run","rounds"] (eP FJ):=fO (by nofun)
abbrev aI:=lF (fq zW bb)
abbrev aY:=gU (oO AI bY)
def Hd:FS:=fJ (fX 2 aY) (fJ (lY (gM gz (un fU eF) dR) (gI dR) mX) (gI (fq yD (eU (gU (fQ bU aI cB [1,2])) fN))))
def yx:List D->Option D:=gy 2 3 Hd
theorem ZG (T:gL K mg t):fB P w K mg base fL 5 t.a_q21 t.d_q21 ["run","rounds"] (gP K yx) :=
 hX T.q21.F EM λ_ _ _ _ _ _ hr=>fT (gW 2 (PO.v (Am (MP T) (hr.mono (by decide)) T.q22.m T.q22.F.kp T.q22.b (fj (dh 0) (fj (dh 1) fG)))) EM.nd) (fT (lV (yj (mK hr) (mZ rfl T.b_len (dh 2)) fI) (fM (gK fI)) ou) (fM (gK (vc (Ph T) T.q38 hr (fj (PO.v (om rfl (cO EM (fr:=["rounds","up"]) (by nofun)) (mi (gq (dh 0) fI)) (tU (by nofun) rfl (λcl C s H fp ω=>pg (vc (Zw T) T.q3 hr (fj (dh 0) (fj (dh 2) (fj (dh 1) fG))))) (λcl C s H fp ω=>gq (dh 0) fI)))) fG)))))
theorem Ln:fo ["run"] ["run"] (eP IA):=fO (by nofun)
abbrev au:=un fU (gU (oO nS (eU (fq yx bX) fN)))
abbrev ao:=fu iz au eD
abbrev aJ:=sB nr dP (fu ge (fZ (.int 5)) dP)
abbrev cY:=eU dR (fN)
abbrev ce:=gU cY
def EV:FS:=gI (wH pI (xJ (fu ge ce (gU (fQ aJ (λ_=>Ga true) ao [0])))))
def Ej:List D->Option D:=gy 1 1 EV
theorem zkX (T:gL K mg t):fB P w K mg base fL 6 t.a_q23 t.d_q23 ["run"] (gP K Ej) :=
 hX T.q23.F Ln λ_ _ _ _ _ _ hr=>fM (gK (Ma rfl rfl T.b_max (PV.sh (mw (PO.v (ng (fj fI fG))) (PO.v (om rfl (cO Ln (fr:=["run"]) (by nofun)) (BW rfl T.b_range fI (mw (Sz T.c_LAST_ROUND) fI)) (nu (by nofun) rfl (λcl C s H fp ω=>pY (mZ rfl T.b_len (PO.v (Am (MI T) (hr.mono (by decide)) T.q30.m T.q30.F.kp T.q30.b (fj (vc (ZG T) T.q21 hr (fj (dh 1) (fj (dh 0) fG))) fG)))) (dh 0)))))))))
theorem TM:fo ["run","bound"] ["run","bound"] (eP IJ):=fO (by nofun)
def Hl:FS:=fJ (lY (tZ (lF (fq HW bY))) (Ec) mX) (gI (fu iz cx (fq Ej du)))
def lZ:List D->Option D:=gy 2 2 Hl
theorem Nu (T:gL K mg t):fB P w K mg base fL 7 t.a_q2 t.d_q2 ["run","bound"] (gP K lZ) :=
 hX T.q2.F TM λ_ _ _ _ _ _ hr=>fT (lV (De (pg (vc (RU T) T.q43 hr (fj (dh 0) (fj (dh 1) fG))))) (fM VF) ou) (fM (gK (pY (mw (dh 1) fI) (vc (zkX T) T.q23 hr (fj (dh 0) fG)))))
theorem xM:fo ["numbers","hands","told","hand","longer","begun"] ["numbers","hands"] (eP DI):=fO (by nofun)
abbrev bw:=fu ge eE (pF du)
abbrev ci:=gU (eU (pF fN) fN)
def SE:FS:=fJ (fX 2 ci) (fJ (iC (iw gf eE) (gY 3) (fJ (oC 4 fN) (fJ (iC (iK eF) (gY 5) (zN 4 (gU (fQ (iK eD) (λ_=>Ga true) bw [5])))) (Bw 4 (fX 2 eI))))) dU)
def yY:List D->Option D:=gy 2 6 SE
theorem YA (T:gL K mg t):fB P w K mg base fL 1 t.a_q8 t.d_q8 ["numbers","hands"] (gP K yY) :=
 hX T.q8.F xM λ_ _ _ _ _ _ hr=>fT (gW 2 (PO.v (ng (fj (tJ fG) fG))) xM.nd) (fT (lO PassesOwn.never rfl (nK rfl T.b_range (dh 1)) (lJ 3 xM.nd) (fT (wG 4 (ng fG) xM.nd) (fT (lO PassesOwn.never rfl (mi (dh 2)) (lJ 5 xM.nd) (fM (Dh 4 (PO.v (om rfl (cO xM (fr:=["begun"]) (by nofun)) (mi (dh 0)) (nu (by nofun) rfl (λcl C s H fp ω=>mw (dh 1) (tJ (fj (dh 0) fG))))))))) (fM (ED 4 (gW 2 (dh 4) xM.nd)))))) (fM (gK (dh 2))))
theorem yA:fo ["hand","hands","rounds","reaches","told","at"] ["hand","hands","rounds"] (eP GA):=fO (by nofun)
def QS:FS:=fJ (wg 3 (oC 3 (fQ (iw gf cp) (tZ (lF (fq rH bY))) eD [0]))) (fJ (oC 4 fN) (fJ (iC (sB nr dP (fu ge eF dP)) (gY 5) (zN 4 (gU (fQ dW (λ_=>Ga true) (pF (eU eF bX)) [5,0])))) (xS (go 4))))
def Nd:List D->Option D:=gy 3 6 QS
theorem QP (T:gL K mg t):fB P w K mg base fL 3 t.a_q1 t.d_q1 ["hand","hands","rounds"] (gP K Nd) :=
 hX T.q1.F yA λ_ _ _ _ _ _ hr=>fT (Ct 3 (CF 3 rfl (cO yA (fr:=["hand"]) (by nofun)) (nK rfl T.b_range (vc (DT T) T.q39 hr (fj (dh 1) fG))) (tU (by nofun) rfl (λcl C s H fp ω=>De (pg (vc (Dc T) T.q28 hr (fj (dh 0) (fj (dh 1) fG))))) (λcl C s H fp ω=>dh 0)) yA.nd)) (fT (wG 4 (ng fG) yA.nd) (fT (lO PassesOwn.never rfl (BW rfl T.b_range fI (mw (dh 2) fI)) (lJ 5 yA.nd) (fM (Dh 4 (PO.v (om rfl (cO yA (fr:=["at","hand"]) (by nofun)) (mi (dh 3)) (nu (by nofun) rfl (λcl C s H fp ω=>tJ (fj (dh 2) (fj (dh 1) (fj (dh 0) fG)))))))))) (fM (Hc 4))))
theorem wR:fo ["hands","bound","rounds","told","hand","own","longer","falls"] ["hands","bound","rounds"] (eP IV):=fO (by nofun)
abbrev eK:=gv 6
def zkY:FS:=fJ (fX 3 ci) (fJ (iC dy (gY 4) (fJ (fX 5 (fq Nd (eU eI cb))) (fJ (oC 6 fN) (fJ (iC dW (gY 7) (lY (gM nO (un fU (gv 7)) eE) (zN 6 (gU (fQ (iK eJ) (λ_=>Ga true) bw [7]))) mX)) (Bw 6 (fX 3 (fu ge eG eK))))))) (gI eG))
def yE:List D->Option D:=gy 3 8 zkY
theorem zjQ (T:gL K mg t):fB P w K mg base fL 4 t.a_q19 t.d_q19 ["hands","bound","rounds"] (gP K yE) :=
 hX T.q19.F wR λ_ _ _ _ _ _ hr=>fT (gW 3 (PO.v (ng (fj (tJ fG) fG))) wR.nd) (fT (lO PassesOwn.never rfl (nK rfl T.b_range (dh 0)) (lJ 4 wR.nd) (fT (gW 5 (vc (QP T) T.q1 hr (fj (dh 4) (fj (dh 0) (fj (dh 2) fG)))) wR.nd) (fT (wG 6 (ng fG) wR.nd) (fT (lO PassesOwn.never rfl (mi (dh 3)) (lJ 7 wR.nd) (fM (lV (Fp (mZ rfl T.b_len (dh 7)) (dh 1)) (fM (Dh 6 (PO.v (om rfl (cO wR (fr:=["falls"]) (by nofun)) (mi (dh 5)) (nu (by nofun) rfl (λcl C s H fp ω=>mw (dh 1) (tJ (fj (dh 0) fG)))))))) ou))) (fM (ED 6 (gW 3 (mw (dh 3) (dh 6)) wR.nd))))))) (fM (gK (dh 3))))
theorem AQ:fo ["numbers","hands","bound","rounds","every_fall","told","begun"] ["numbers","hands","bound","rounds"] (eP IW):=fO (by nofun)
abbrev cM:=eX eF (eX eG fH)
abbrev bW:=tw cL
abbrev dY:=lv eI
def GV:FS:=fE (gn 4 (gc yE (eX eE cM))) (fE (pU 5 fH) (fE (lT (lv (gc yY cJ)) (gj 6) (CH 5 (gR (fQ dY (λ_=>Ga true) bW [6])))) (hV (gR (BE (gl 5))))))
def sP:List D->Option D:=gy 4 7 GV
theorem WI (T:gL K mg t):fB P w K mg base fL 5 t.a_q40 t.d_q40 ["numbers","hands","bound","rounds"] (gP K sP) :=
 cV (hX T.q40.F AQ λ_ _ _ _ _ _ hr=>fT (gW 4 (vc (zjQ T) T.q19 hr (fj (dh 1) (fj (dh 2) (fj (dh 3) fG)))) AQ.nd) (fT (wG 5 (ng fG) AQ.nd) (fT (lO PassesOwn.never rfl (mi (vc (YA T) T.q8 hr (fj (dh 0) (fj (dh 1) fG)))) (lJ 6 AQ.nd) (fM (Dh 5 (PO.v (om rfl (cO AQ (fr:=["begun"]) (by nofun)) (mi (dh 4)) (nu (by nofun) rfl (λcl C s H fp ω=>tJ (fj (dh 1) (fj (dh 0) fG))))))))) (fM (gK (PO.v (Ud (mK hr) rfl T.b_sorted (HV 5)))))))) rfl
theorem SJ:fo ["script","k"] ["script","k"] (eP Fx):=fO (by nofun)
def HD:FS:=fE (gB (fS nO eE dF) (hV (dE eY eD eE)) gG) (hV dL)
def pz:List D->Option D:=gy 2 2 HD
theorem Mv (T:gL K mg t):fB P w K mg base fL 1 t.a_q10 t.d_q10 ["script","k"] (gP K pz) :=
 cV (hX T.q10.F SJ λ_ _ _ _ _ _ hr=>fT (lV (Fp (dh 1) (mZ rfl T.b_len (dh 0))) (fM (gK (gq (dh 0) (dh 1)))) ou) (fM (gK fI))) rfl
theorem Db:fo ["script","total","k"] ["script"] (eP IP):=fO (by nofun)
abbrev am:=dE ge (dE ge (dE lH eE (eW (.int 48271))) (dE eY eD eF)) (dE lH eF eF)
abbrev dG:=eW (.int 10)
abbrev ae:=gn 1 (dE iW am (dE rB dG (eW (.int 59))))
abbrev dH:=eW (.int 58)
abbrev aM:=dE iz eE (dE rB dG dH)
abbrev aV:=lU gf (dE mI dF (eW (.int 63)))
abbrev bR:=eX eD (eX dJ fH)
abbrev et:=gj 2
def Em:FS:=fE (gn 1 dL) (fE (lT aV et ae) (hV (gR (eX aM (eX (dE ge (dE ge aM dJ) (dE iW (gc pz bR) (dE rB dG (eW (.int 40))))) fH)))))
def wA:List D->Option D:=gy 1 3 Em
theorem Sb (T:gL K mg t):fB P w K mg base fL 2 t.a_q7 t.d_q7 ["script"] (gP K wA) :=
 cV (hX T.q7.F Db λ_ _ _ _ _ _ hr=>fT (gW 1 fI Db.nd) (fT (lO PassesOwn.never rfl (nK rfl T.b_range (Fy rfl rfl T.b_min (mZ rfl T.b_len (dh 0)) fI)) (lJ 2 Db.nd) (fM (gW 1 (AL (mw (mw (Hn (dh 1) fI) (gq (dh 0) (dh 2))) (Hn (dh 2) (dh 2))) (CP fI fI)) Db.nd))) (fM (gK (PO.v (ng (fj (pY (dh 1) (CP fI fI)) (fj (mw (mw (pY (dh 1) (CP fI fI)) fI) (AL (vc (Mv T) T.q10 hr (fj (dh 0) (fj fI fG))) (CP fI fI))) fG)))))))) rfl
theorem tF:fo ["runs","group","bound","rounds","told","place","run","last","hand","choice","up",".t"] ["runs","group","bound","rounds"] (eP Bn):=fO (by nofun)
def OH:Scope:={ kind:=.function,names:=[(u6 "view",.local),(u6 "bound",.free),(u6 "together",.globalImplicit)],isGenerator:=false,isCoroutine:=false,more:=[] }
theorem Tb:tE "view" ["bound"] OH:=⟨rfl,rfl,rfl,by nofun,rfl,by nofun,by nofun,by nofun⟩
theorem Mk:∀ y∈OH.names,y.2=.free->(eP Bn).names.lookup y.1=Ga .cell\/(eP Bn).names.lookup y.1=Ga .free:=by nofun
theorem ZH:∀ (j i:Nat) (y:Str),([2]:List Nat)[j]?=Ga i->(["bound"]:List Str)[j]?=Ga y->(["runs","group","bound","rounds","told","place","run","last","hand","choice","up",".t"]:List Str)[i]?=Ga y:=λj i y h1 h2=>(by
  match j,h1,h2 with
  | 0,h1,h2=>cases h1;cases h2;rfl
  | j+1,h1,h2=>simp at h1)
abbrev eM:=gv 9
abbrev eC:=gv 10
abbrev cN:=fu eY eM dP
def Ys (mk:(D->Option D)->gD)(Pt:Gj):FS:=fJ (oC 4 fN) (fJ (iC (iK eE) (gY 5) (fJ (fX 6 (fu eY eD eJ)) (fJ (fX 7 (fq lZ (eU eK dt))) (iC (iw on (pC 11 Pt mk (fq sY bY) wF [2] (eU eK (eU eG fN)))) (DH (rL (gY 8) (rL (gY 9) (zQ)))) (fJ (fX 10 (fu gz (gU (fQ (iK (fu eY eK dP)) (BU (gM gz cB eE) (gM lI cD eF)) eD [8,3])) (gU fN))) (fJ (lY (BU (lF eC) (wP (gM iP eM dZ) (gM ia (fu eY eM dR) (gv 7)))) dz mX) (lY (BU (lF eC) (gM lM cN eI)) (zF 4 cN) mX))))))) (xS (go 4)))
def xh (mk:(D->Option D)->gD)(Pt:Gj):List D->Option D:=sq 4 12 Pt (Ys mk Pt)
theorem YR (T:gL K mg t):fB P w K mg base fL 11 t.a_q27 t.d_q27 ["runs","group","bound","rounds"] (spT K t.Pt (xh (sK P w K mg base 8) t.Pt)) :=
 Tu T.q27.F T.lam_cd tF (by decide) (by decide) λ_ _ _ _ _ hr=>fT (wG 4 (ng fG) tF.nd) (fT (lO PassesOwn.never rfl (mi (dh 1)) (lJ 5 tF.nd) (fT (gW 6 (gq (dh 0) (dh 5)) tF.nd) (fT (gW 7 (vc (Nu T) T.q2 hr (fj (dh 6) (fj (dh 2) fG))) tF.nd) (fM (lO PassesOwn.never rfl (Zd rfl T.b_enumerate (zw8 11 (kl:=7) Tb Mk (by nofun) (λ_=>rfl) rfl ZH (λ_ _ _ _ _ _ _=>rfl) (λqual fl cdl cl A outer s H hr=>vc (RT T) T.q33 hr (fj (dh 0) (fj (dh 1) fG))) (λφ=>We T (XW P w K mg base (7+1) φ)) (hr.mono (by decide)) T.q37.m T.q37.F.kp T.q37.b (RC ⟨rfl,λh Y=>Jf Y T.lam_hd,T.lam_bm⟩ Mk (by nofun) (fj (dh 6) (fj (dh 3) fG))))) (XE rfl (Oc (lJ 8 tF.nd) (Oc (lJ 9 tF.nd) Th))) (fT (gW 10 (zt (mK hr) (PO.v (om rfl (cO tF (fr:=["hand","rounds"]) (by nofun)) (mi (gq (dh 6) fI)) (tU (by nofun) rfl (λcl C s H fp ω=>nV.b (DR (yj (mK hr) (gq (dh 0) fI) (dh 1)) (Fc (Qw (gq (dh 0) fI) (dh 2))))) (λcl C s H fp ω=>dh 0)))) (PO.v (ng fG))) tF.nd) (fT (lV (nV.b (DR (pg (dh 10)) (Fc (nV.b (xV (xC (dh 9) ol) (Al (zv (mK hr) (gq (dh 9) fI) (dh 7)))))))) (fM (gK ol)) ou) (fM (lV (nV.b (DR (pg (dh 10)) (Fc (Vf (mK hr) (gq (dh 9) fI) (dh 4))))) (fM (Pe 4 (gq (dh 9) fI))) ou))))))))) (fM (Hc 4)))
theorem oz:fo ["script","cell","hands","bound","rounds","runs","found","open_ones","many","group","states","told",".t"] ["script"] (eP Go):=fO (by nofun)
abbrev cg:=eU eG dw
abbrev cy:=fu iz eF dQ
abbrev cz:=fu eY eC dR
def Zr (mk:(D->Option D)->gD)(Pt:Gj):FS:=fJ (fX 1 (fq pz (eU eD cY))) (fJ (fX 2 (fu ge dQ (fu eY (gU (eU dP (eU dP (eU dP cY)))) (fu iW eE (fZ (.int 4)))))) (fJ (fX 3 (fu eY (gU (eU cy (eU cy cY))) (fu iW (fu oW eE (fZ (.int 4))) (fZ (.int 3))))) (fJ (fX 4 (fu eY (gU (eU dR (eU dP (eU dP (eU dQ fN))))) (fu iW (fu oW eE (fZ (.int 12))) (fZ (.int 4))))) (fJ (fX 5 (fq sP (eU (fq wA du) (eU eF cg)))) (fJ (fX 6 (fq wB (eU eJ dw))) (fJ (fX 7 dR) (fJ (fX 8 dR) (fJ (iC (iK eK) (gY 9) (fJ (fX 8 (fu ge (gv 8) (un fU eM))) (fJ (wg 10 (oC 10 (fQ (iK eM) (λ_=>Ga true) (fu nO eF (fq lZ (eU (fu eY eG eD) dr))) [3,4,5]))) (fJ (lY (gM ia eC (gU (QE (eU cz fN) (un fU eC)))) di mX) (lY (lF cz) (fX 7 (fu ge (gv 7) dP)) (fJ (fX 11 (oJ 12 Pt (xh mk Pt) (eU eJ (eU eM cg)))) (lY (wP (gM iP (gv 11) dZ) (gM ia (un fU (gv 11)) dP)) di mX))))))) (gI (sA (fu gz (gv 8) (un fU eJ)) (fu nO (gv 7) dQ)))))))))))
def zg1 (mk:(D->Option D)->gD)(Pt:Gj):List D->Option D:=sq 1 13 Pt (Zr mk Pt)
theorem WP (T:gL K mg t):fB P w K mg base fL 12 t.a_q47 t.d_q47 ["script"] (spT K t.Pt (zg1 (sK P w K mg base 8) t.Pt)) :=
 PZ T.q47.F oz (by decide) (by decide) λ_ _ _ _ _ _ hr=>fT (gW 1 (vc (Mv T) T.q10 hr (fj (dh 0) (fj fI fG))) oz.nd) (fT (gW 2 (mw fI (gq (PO.v (ng (fj fI (fj fI (fj fI (fj fI fG)))))) (AL (dh 1) fI))) oz.nd) (fT (gW 3 (gq (PO.v (ng (fj (pY (dh 2) fI) (fj (pY (dh 2) fI) (fj fI fG))))) (AL (Lu (dh 1) fI) fI)) oz.nd) (fT (gW 4 (gq (PO.v (ng (fj fI (fj fI (fj fI (fj fI fG)))))) (AL (Lu (dh 1) fI) fI)) oz.nd) (fT (gW 5 (vc (WI T) T.q40 hr (fj (vc (Sb T) T.q7 hr (fj (dh 0) fG)) (fj (dh 2) (fj (dh 3) (fj (dh 4) fG))))) oz.nd) (fT (gW 6 (vc (Tr T) T.q35 hr (fj (dh 5) (fj (dh 4) fG))) oz.nd) (fT (gW 7 fI oz.nd) (fT (gW 8 fI oz.nd) (fT (lO PassesOwn.never rfl (mi (dh 6)) (lJ 9 oz.nd) (fT (gW 8 (mw (dh 8) (mZ rfl T.b_len (dh 9))) oz.nd) (fT (Ct 10 (CF 10 rfl (cO oz (fr:=["bound","rounds","runs"]) (by nofun)) (mi (dh 9)) (nu (by nofun) rfl (λcl C s H fp ω=>BB (dh 2) (vc (Nu T) T.q2 hr (fj (gq (dh 3) (dh 0)) (fj (dh 1) fG))))) oz.nd)) (fT (lV (zv (mK hr) (dh 10) (PO.v (ZV (ng (fj (gq (dh 10) fI) fG)) (mZ rfl T.b_len (dh 10))))) (fM (gK (yk))) ou) (fM (lV (pg (gq (dh 10) fI)) (fM (gW 7 (mw (dh 7) fI) oz.nd)) (fT (gW 11 (YH 12 (YR T) (hr.mono (by decide)) T.q27.m T.q27.F.kp T.q27.b (fj (dh 5) (fj (dh 9) (fj (dh 3) (fj (dh 4) fG))))) oz.nd) (fM (lV (nV.b (xV (xC (dh 11) ol) (Al (zv (mK hr) (mZ rfl T.b_len (dh 11)) fI)))) (fM (gK (yk))) ou))))))))) (fM (gK (AB (zt (mK hr) (dh 8) (mZ rfl T.b_len (dh 5))) (xu (BB (dh 7) fI)))))))))))))
set_option autoImplicit true in
theorem zAG {K:ja}{mg:Str->Option Gg}{h:Heap}(X:K.In h)(G:h.Ns mainGlobals mg) (w_q24:gC K "is_whole" DZ cd_q24 a_q24 d_q24) (w_q39:gC K "bit_of" Iw cd_q39 a_q39 d_q39) (w_q28:gC K "has_hand" ET cd_q28 a_q28 d_q28) (w_q38:gC K "mask_of" GK cd_q38 a_q38 d_q38) (w_q30:gC K "hands_in" Fu cd_q30 a_q30 d_q30) (w_q14:gC K "many_hands" Er cd_q14 a_q14 d_q14) (w_q34:gC K "fall_of" EC cd_q34 a_q34 d_q34) (w_q46:gC K "is_up" Ht cd_q46 a_q46 d_q46) (w_q22:gC K "who_is_up" Hi cd_q22 a_q22 d_q22) (w_q42:gC K "comes" EG cd_q42 a_q42 d_q42) (w_q43:gC K "keeps" HF cd_q43 a_q43 d_q43) (w_q11:gC K "view_behind" Fj cd_q11 a_q11 d_q11) (w_q4:gC K "views_behind" Ep cd_q4 a_q4 d_q4) (w_q29:gC K "views_of" Fh cd_q29 a_q29 d_q29) (w_q32:gC K "own_part" Gs cd_q32 a_q32 d_q32) (w_q15:gC K "rounds_of" Ix cd_q15 a_q15 d_q15) (w_q31:gC K "own_past" FC cd_q31 a_q31 d_q31) (w_q25:gC K "parts_of" IB cd_q25 a_q25 d_q25) (w_q16:gC K "layers_of" HC cd_q16 a_q16 d_q16) (w_q45:gC K "known" GM cd_q45 a_q45 d_q45) (w_q9:gC K "least_known" Hq cd_q9 a_q9 d_q9) (w_q12:gC K "missing_in" EF cd_q12 a_q12 d_q12) (w_q36:gC K "lacking" Ee cd_q36 a_q36 d_q36) (w_q26:gC K "first_of" IQ cd_q26 a_q26 d_q26) (w_q44:gC K "unite" Ig cd_q44 a_q44 d_q44) (w_q41:gC K "joined" El cd_q41 a_q41 d_q41) (w_q35:gC K "classes" Fw cd_q35 a_q35 d_q35) (w_q18:gC K "choice_by" Hz cd_q18 a_q18 d_q18) (w_q5:gC K "last_rounds" HB cd_q5 a_q5 d_q5) (w_q17:gC K "last_view" GH cd_q17 a_q17 d_q17) (w_q37:gC K "choices" EU cd_q37 a_q37 d_q37) (w_q13:gC K "waste_seen" Iq cd_q13 a_q13 d_q13) (w_q0:gC K "is_behind_bound" GY cd_q0 a_q0 d_q0) (w_q6:gC K "least_where" EI cd_q6 a_q6 d_q6) (w_q33:gC K "together" HQ cd_q33 a_q33 d_q33) (w_q20:gC K "all_heard" EO cd_q20 a_q20 d_q20) (w_q3:gC K "is_found_out" Ic cd_q3 a_q3 d_q3) (w_q21:gC K "found_out" FJ cd_q21 a_q21 d_q21) (w_q23:gC K "waste_of" IA cd_q23 a_q23 d_q23) (w_q2:gC K "closing_round" IJ cd_q2 a_q2 d_q2) (w_q8:gC K "all_numbers" DI cd_q8 a_q8 d_q8) (w_q1:gC K "falls_of_hand" GA cd_q1 a_q1 d_q1) (w_q19:gC K "all_falls" IV cd_q19 a_q19 d_q19) (w_q40:gC K "worlds" IW cd_q40 a_q40 d_q40) (w_q10:gC K "_law_cell_at" Fx cd_q10 a_q10 d_q10) (w_q7:gC K "_law_numbers" IP cd_q7 a_q7 d_q7) (w_q27:gC K "_law_told" Bn cd_q27 a_q27 d_q27) (w_q47:gC K "law" Go cd_q47 a_q47 d_q47) (z_all:ku K mainGlobals "all"=Ga Gb) (z_bool:ku K mainGlobals "bool"=Ga Gb) (z_enumerate:ku K mainGlobals "enumerate"=Ga Gb) (z_int:ku K mainGlobals "int"=Ga Gb) (z_isinstance:ku K mainGlobals "isinstance"=Ga Gb) (z_len:ku K mainGlobals "len"=Ga Gb) (z_list:ku K mainGlobals "list"=Ga Gb) (z_max:ku K mainGlobals "max"=Ga Gb) (z_min:ku K mainGlobals "min"=Ga Gb) (z_range:ku K mainGlobals "range"=Ga Gb) (z_reversed:ku K mainGlobals "reversed"=Ga Gb) (z_sorted:ku K mainGlobals "sorted"=Ga Gb) (z_tuple:ku K mainGlobals "tuple"=Ga Gb) {k_LAST_ROUND} (c_LAST_ROUND:ku K mainGlobals "LAST_ROUND"=Ga (Ga (.int 5 k_LAST_ROUND))) {c0 Pt bm:Gj} {slm:Array (Option Gg)} (l_1:cd_q27=.ref c0) (l_2:qA K c0 Pt=true) (l_3:ku K mainGlobals "__builtins__"=Ga (Ga (.ref bm))) (l_4:K.lookup bm=Ga ⟨.type "module",Ga builtinsNs,.plain,slm⟩) (l_5:bm≠builtinsNs) (l_6:bm≠mainGlobals) : ∃ t,gL K mg t/\t.Pt=Pt/\t.a_q47=a_q47/\∀ (s:Gh) (v:Gg),BindsTo s t.d_q47 ⟨[v],[]⟩ [("script",v)]:=by
 exact⟨⟨a_q24,d_q24,a_q39,d_q39,a_q28,d_q28,a_q38,d_q38,a_q30,d_q30,a_q14,d_q14,a_q34,d_q34,a_q46,d_q46,a_q22,d_q22,a_q42,d_q42,a_q43,d_q43,a_q11,d_q11,a_q4,d_q4,a_q29,d_q29,a_q32,d_q32,a_q15,d_q15,a_q31,d_q31,a_q25,d_q25,a_q16,d_q16,a_q45,d_q45,a_q9,d_q9,a_q12,d_q12,a_q36,d_q36,a_q26,d_q26,a_q44,d_q44,a_q41,d_q41,a_q35,d_q35,a_q18,d_q18,a_q5,d_q5,a_q17,d_q17,a_q37,d_q37,a_q13,d_q13,a_q0,d_q0,a_q6,d_q6,a_q33,d_q33,a_q20,d_q20,a_q3,d_q3,a_q21,d_q21,a_q23,d_q23,a_q2,d_q2,a_q8,d_q8,a_q1,d_q1,a_q19,d_q19,a_q40,d_q40,a_q10,d_q10,a_q7,d_q7,a_q27,d_q27,a_q47,d_q47,c0,Pt⟩,⟨gO X G w_q24,gO X G w_q39,gO X G w_q28,gO X G w_q38,gO X G w_q30,gO X G w_q14,gO X G w_q34,gO X G w_q46,gO X G w_q22,gO X G w_q42,gO X G w_q43,gO X G w_q11,gO X G w_q4,gO X G w_q29,gO X G w_q32,gO X G w_q15,gO X G w_q31,gO X G w_q25,gO X G w_q16,gO X G w_q45,gO X G w_q9,gO X G w_q12,gO X G w_q36,gO X G w_q26,gO X G w_q44,gO X G w_q41,gO X G w_q35,gO X G w_q18,gO X G w_q5,gO X G w_q17,gO X G w_q37,gO X G w_q13,gO X G w_q0,gO X G w_q6,gO X G w_q33,gO X G w_q20,gO X G w_q3,gO X G w_q21,gO X G w_q23,gO X G w_q2,gO X G w_q8,gO X G w_q1,gO X G w_q19,gO X G w_q40,gO X G w_q10,gO X G w_q7,gO X G w_q27,gO X G w_q47,j9 X G z_all,j9 X G z_bool,j9 X G z_enumerate,j9 X G z_int,j9 X G z_isinstance,j9 X G z_len,j9 X G z_list,j9 X G z_max,j9 X G z_min,j9 X G z_range,j9 X G z_reversed,j9 X G z_sorted,j9 X G z_tuple,w_q27.code.trans l_1,l_2,⟨bm,_,Ji X G l_3,l_5,l_6,l_4,rfl,rfl,rfl⟩,⟨_,Ji X G c_LAST_ROUND⟩⟩,rfl,rfl,w_q47.bt (Q:=λfd=>∀ (s:Gh) (v:Gg),BindsTo s fd ⟨[v],[]⟩ [("script",v)]) λ_ _ _ _ _ _ _ _=>.of_eq rfl⟩
theorem zAH {l:Program}{w:World}{K:ja}{mg:Str->Option Gg}{h:Heap}{fa a Pt:Gj}(X:K.In h)(G:h.Ns mainGlobals mg)(hmg:mg "law"=Ga (.ref fa))
  (z:∃ t,gL K mg t/\t.Pt=Pt/\t.a_q47=a/\∀ (s:Gh) (v:Gg),BindsTo s t.d_q47 ⟨[v],[]⟩ [("script",v)]) :
  ∃ fd:Gi,(∀ (s:Gh) (v:Gg),BindsTo s fd ⟨[v],[]⟩ [("script",v)])/\∀ base:Heap,K.In base->base.Ns mainGlobals mg->fB l w K mg base fL 12 fa fd ["script"] (λvs H Q E=>∀ mk,spT K Pt (zg1 mk Pt) vs H Q E):=by
 obtain⟨t,T,rfl,_,hb⟩:=z;have e:=hmg.symm.trans T.q47.m;cases e;exact⟨t.d_q47,hb,λbase _ _=>(WP T).imp λvs H Q E h=>h _⟩
end
noncomputable section
open PySem PySem.Spec PyProof.Rows L2 T3
abbrev aZ:=nN 0 eE (nk (mW 0) (nk (mW 0) eE))
abbrev bM:=fS ia (dE eY eD eE) eE
abbrev cZ:=gn 1 (nk (mW 0) eE)
def WT:FS:=fE (iA bM (fE aZ cZ) 1000) (Dp eE)
theorem Yd:ma=WT:=rfl
abbrev aO:=nN 0 (dE pA eG eI) (dE mI eG eI)
abbrev bG:=ml 3 2 ma (xm 0 (xg eE yf))
abbrev bH:=ml 4 2 ma (xm 0 (xg eF yf))
def VD:FS:=fE bG (fE bH aO)
theorem Ry:GO=VD:=rfl
theorem Uo (x0 x1:D):Bl [x0,x1]=pV (ME [.val x0,.val x1,.no,.no,.no,.no]):=rfl
theorem zlZ (x0 x1:D):wB [x0,x1]=fK (EJ [.val x0,.val x1,.no,.no,.no]):=rfl
abbrev ax:=gB (fS gS eG dX) (hV (tw cM)) (gG)
abbrev dC:=hV dX
def Mb (c:gD)(φ:D->Option D):FS:=fE (lT (lU gf (dE ge (gc oo dA) dJ)) et (fE (gn 3 (oN 0 c φ (gc yo cK))) ax)) dC
theorem UL (c:gD)(φ:D->Option D)(x0:D):xD c φ [x0]=fK (Mb c φ [.fn c,.val x0,.no,.no]):=rfl
theorem Ur (x0 x1 x2:D):AF [x0,x1,x2]=fK (EX [.val x0,.val x1,.val x2,.no]):=rfl
theorem zjS (x0 x1 x2:D):xj [x0,x1,x2]=fK (Ei [.val x0,.val x1,.val x2]):=rfl
abbrev bB:=eX eG cJ
def Ox (c:gD)(φ:D->Option D):FS:=hV (gR (fQ (lU gf (gc tN dA)) (λ_=>Ga true) (nZ 2 c (xD c φ) (eX (gc xj bB) fH)) [2,0,1]))
theorem ZO (c:gD)(φ:D->Option D)(x0 x1:D):wF c φ [x0,x1]=fK (Ox c φ [.fn c,.val x0,.val x1]):=rfl
theorem ZU (x0:D):xB [x0]=fK (Eu [.val x0]):=rfl
theorem Ze (x0 x1:D):Ah [x0,x1]=fK (GG [.val x0,.val x1]):=rfl
theorem Ru (x0 x1:D):AA [x0,x1]=fK (Eb [.val x0,.val x1]):=rfl
theorem UH (x0 x1:D):sY [x0,x1]=fK (FI [.val x0,.val x1]):=rfl
theorem RZ (x0 x1 x2 x3:D):sP [x0,x1,x2,x3]=fK (GV [.val x0,.val x1,.val x2,.val x3,.no,.no,.no]):=rfl
theorem ziC (x0 x1:D):pz [x0,x1]=fK (HD [.val x0,.val x1]):=rfl
theorem ziD (x0:D):wA [x0]=fK (Em [.val x0,.no,.no]):=rfl
abbrev bh:=fS gz (dE eY eD dL) eE
abbrev bi:=fS lI (dE eY eD dJ) eF
abbrev bj:=fS ia (dE eY eM dL) (gv 7)
abbrev bT:=lv (dE eY eK dJ)
abbrev cu:=dE eY eM dJ
abbrev cA:=gn 6 (dE eY eD eJ)
abbrev cQ:=eX eK (eX eF fH)
abbrev cR:=eX eK (eX eG fH)
abbrev db:=fS iP eM dX
abbrev dS:=iR eC
abbrev ee:=gR (fH)
abbrev eu:=gj 8
abbrev ez:=gj 9
def Lo (mk:(D->Option D)->gD)(Pt:Gj):FS:=fE (pU 4 fH) (fE (lT (lv eE) eh (fE cA (fE (gn 7 (gc lZ cQ)) (lT (lU on (pC 11 Pt mk (gc sY cJ) wF [2] cR)) (oQ (mT eu (mT ez rS))) (fE (gn 10 (dE gz (gR (fQ bT (iO bh bi) eD [8,3])) ee)) (fE (gB (iO dS (nl db bj)) dC gG) (gB (iO dS (fS lM cu eI)) (se 4 cu) gG))))))) (yU (go 4)))
theorem Yb (mk:(D->Option D)->gD)(Pt:Gj)(x0 x1 x2 x3:D):xh mk Pt [x0,x1,x2,x3]=fK (Lo mk Pt [.val x0,.val x1,.val x2,.val x3,.no,.no,.no,.no,.no,.no,.no,.tab Pt]):=rfl
abbrev dM:=eW (.int 2)
abbrev dO:=eW (.int 4)
abbrev ac:=gn 2 (dE ge dM (dE eY (gR (eX dJ (eX dJ (eX dJ dg)))) (dE iW eE dO)))
abbrev ck:=dE iz eF dM
abbrev al:=gR (eX ck (eX ck dg))
abbrev ar:=gR (eX dL (eX dJ (eX dJ (eX dM fH))))
abbrev cS:=eX eG (eX eI fH)
abbrev aX:=eX eJ (eX eM cS)
abbrev bp:=eX (dE eY eG eD) dA
abbrev cn:=dE eY eC dL
abbrev bx:=eX cn (fH)
abbrev bC:=eX eF cS
abbrev bD:=gn 8 (dE ge (gv 8) (lK fU eM))
abbrev bE:=fS ia (lK fU (gv 11)) dJ
abbrev bI:=gn 7 (dE ge (gv 7) dJ)
abbrev bN:=iR cn
abbrev bS:=eX eD dg
abbrev cj:=dE gz (gv 8) (lK fU eJ)
abbrev cw:=dE nO (gv 7) dM
abbrev cT:=eX eJ (eX eI fH)
abbrev cU:=fS iP (gv 11) dX
abbrev dq:=hV (eW (.bool false))
abbrev dD:=lK fU eC
def LK (mk:(D->Option D)->gD)(Pt:Gj):FS:=fE (gn 1 (gc pz bS)) (fE ac (fE (gn 3 (dE eY al (dE iW (dE oW eE dO) (eW (.int 3))))) (fE (gn 4 (dE eY ar (dE iW (dE oW eE (eW (.int 12))) dO))) (fE (gn 5 (gc sP (eX (gc wA dB) bC))) (fE (gn 6 (gc wB cT)) (fE (gn 7 dL) (fE (gn 8 dL) (fE (lT (lv eK) ez (fE bD (fE (Cp 10 (pU 10 (fQ (lv eM) (λ_=>Ga true) (dE nO eF (gc lZ bp)) [3,4,5]))) (fE (gB (fS ia eC (gR (Cc bx dD))) dq gG) (gB bN bI (fE (gn 11 (oJ 12 Pt (xh mk Pt) aX)) (gB (nl cU bE) dq gG))))))) (hV (Gn cj cw))))))))))
theorem TZ (mk:(D->Option D)->gD)(Pt:Gj)(x0:D):zg1 mk Pt [x0]=fK (LK mk Pt [.val x0,.no,.no,.no,.no,.no,.no,.no,.no,.no,.no,.no,.tab Pt]):=rfl
end
open PySem T3
open Lean in
local macro_rules|`(tactic|simp_arith[$a,*])=>do let l:TSyntaxArray `ident:=("Sg Oi LQ XI Uv Uq Rl Wu Rz UO Wa QK zxH NW Vb RE Ve To UP Zj zxL zz6 Zy Up XC Pb Sj SY TX WD UB WE VN Us zz9 zoO LA UV Uw zq3 ZF Sf Re zAc VH WU Va Se zxV YF YC zAh WQ ZN Sv TU Td Ul ZA Yy zAn Tg Xg zx0 YQ zAq Wc Rx Xk YM SR XU Zb Vq Tp zAr OA ZB ztS Xd RK Rr UT Sw Sr TV Vz Zt VM Yx MF SH Yp Te XH So VY Yq VX YK ZS Sx YB QU Yt je Option.bind_none ql Bool.not_false Tz ite_true ite_false decide_true decide_false zx9 YD VU ZL".splitOn " ").toArray.map fun s=>mkIdent s.toName;`(tactic|simp only[$[$l:ident],*,$a,*])
theorem Po (a:Sl):∀ (ds:List D) (b:Int) (x:Sl),∃ x',fY (gY 2) (fX 1 (fu lH (gv 1) (fZ (.int 2)))) ds [a,.val (.int b),x]=Ga (.nx [a,.val (.int (b*2^ds.length)),x'])
 | [],b,x=>⟨x,by simp[fY]⟩
 | d::r,b,x=>by
  obtain⟨x',e⟩:=Po a r (b*2) (.val d);refine⟨x',?_⟩;have hm:lH (.int b) (.int 2)=Ga (.int (b*2)):=by simp[lH,dI,pJ]
  unfold fY;simp only[gY,fX,fu,fZ,gv,List.set_cons_succ,List.set_cons_zero,vy,uL,je,hm];rw[show(fu lH (gv 1) (fZ (.int 2)):FV)=λψ=>(gv 1 ψ).bind λx=>(fZ (.int 2) ψ).bind λy=>lH x y from rfl] at e;refine e.trans ?_;rw[jL,Int.pow_succ',Int.mul_assoc]
theorem OZ (n:Int)(h0:0<=n)(h1:n<1000):yH [.int n]=Ga (.int (2^n.toNat)):=by
 show fK (Fk [.val (.int n),.no,.no])=_;have hr:gf (.int n)=Ga (gT 0 n.toNat):=by unfold gf;dsimp only;rw[Ge (by constructor<;>omega)]
 obtain⟨x',e⟩:=Po (.val (.int n)) (gT 0 n.toNat) 1 .no;have hl:(gT 0 n.toNat).length=n.toNat:=by simp[gT]
 rw[hl,Int.one_mul] at e;unfold Fk;have e1:fX 1 (fZ (.int 1)) [.val (.int n),.no,.no]=Ga (.nx [.val (.int n),.val (.int 1),.no]):=rfl;have e2:iC (iw gf (gv 0)) (gY 2) (fX 1 (fu lH (gv 1) (fZ (.int 2)))) [.val (.int n),.val (.int 1),.no]=Ga (.nx [.val (.int n),.val (.int (2^n.toNat)),x']):=by
  show(gf (.int n)).bind (λds=>fY _ _ ds _)=_;rw[hr];exact e
 show fK (iB (fX 1 (fZ (.int 1)) [.val (.int n),.no,.no]) _)=_;rw[e1];show fK (iB (iC (iw gf (gv 0)) (gY 2) (fX 1 (fu lH (gv 1) (fZ (.int 2)))) [.val (.int n),.val (.int 1),.no]) _)=_;rw[e2];rfl
theorem Og (m h:Int)(h0:0<=h)(h1:h<1000):rH [.int m,.int h]=Ga (.bool (!(uI m (2^h.toNat)==0))):=by
 refine congrArg fK (mY (ψ:=[.val (.int m),.val (.int h)]) ((nR ((nR rfl ((iH rfl).trans (OZ h h0 h1))).trans rfl) rfl).trans ?_));exact NO _ _
structure Fl where
 h:Nat
 a:Int
 m:Nat
def fd (f:Fl):D:=.tuple [.int f.h,.int f.a,.int f.m]
def rd (ns:List D)(fs:List Fl):D:=.tuple [.tuple ns,.tuple (fs.map fd)]
structure gu (n:Nat)(fs:List Fl):Prop where
 n2:2<=n
 n5:n<=5
 hb:∀ f∈fs,f.h<n
 mb:∀ f∈fs,f.m<32
 nd:(fs.map Fl.h).Nodup
 ab:∀ f∈fs,1<=f.a
 a5:∀ f∈fs,f.a<=5
def bk (d:D):Fl:=match d with
 | .tuple [.int a,.int b,.int c]=>⟨a.toNat,b,c.toNat⟩
 | _=>⟨0,0,0⟩
theorem Dl (f:Fl):bk (fd f)=f:=by
 show(⟨(f.h:Int).toNat,f.a,(f.m:Int).toNat⟩:Fl)=f;rw[jR,jR]
theorem SD {i j:Int}(h1:-(2^64)<i)(h2:i<2^64):pJ i j=true:=by unfold pJ;rw[Gc h1,Gc h2];rfl
theorem WR {i j:Int}(h1:-(2^64)<j)(h2:j<2^64):pJ i j=true:=by unfold pJ;rw[Gc h1,Gc h2,Bool.and_self,Bool.or_true]
theorem On {i:Nat}{f:FL}{ψ e:En}{d:List D}(h:f ψ=Ga d)(he:frzAt i (ψ.set i (.own d))=e):wg i (oC i f) ψ=Ga (.nx e):=by rw[zBn (YL h),he]
def mB (b0 b1 b2 b3 b4:Bool):Int:=(if b0 then 1 else 0)+(if b1 then 2 else 0)+(if b2 then 4 else 0)+(if b3 then 8 else 0)+(if b4 then 16 else 0)
def Bo (b0 b1 b2 b3 b4:Bool):List Int:=(if b0 then[0] else[])++(if b1 then[1] else[])++(if b2 then[2] else[])++(if b3 then[3] else[])++(if b4 then[4] else[])
theorem MZ:∀ (b0 b1 b2 b3 b4:Bool),nS [.int (mB b0 b1 b2 b3 b4)]=Ga ((Bo b0 b1 b2 b3 b4).map jc):=by
 have key:∀ (b0 b1 b2 b3 b4:Bool),((jb (kR (mB b0 b1 b2 b3 b4))).map λ(k:Nat)=>(k:Int)).filter (λh=>!(uI (mB b0 b1 b2 b3 b4) (2^h.toNat)==0))=Bo b0 b1 b2 b3 b4:=by nofun
 have small:∀ (b0 b1 b2 b3 b4:Bool),kR (mB b0 b1 b2 b3 b4)<10:=by nofun
 intro b0 b1 b2 b3 b4;have sm:=small b0 b1 b2 b3 b4;show pV (Gm [.val (.int (mB b0 b1 b2 b3 b4))])=_;generalize hm:mB b0 b1 b2 b3 b4=m at sm ⊢;have ei:(iw gf (un zl (gv 0))) [.val (.int m)]=Ga (gT 0 (kR m)):=by
  refine(sZ (a:=.int (kR m:Nat)) ((so (a:=.int m) rfl).trans rfl)).trans ?_;generalize kR m=k at sm;unfold gf;dsimp only;rw[Ge (by constructor<;>omega),jR]
 have hlen:(gT 0 (kR m)).length<=1000000:=by unfold gT;rw[jd,jK];omega
 have e:=Nb ((rY (fc:=lF (fq rH (eU (gv 1) (eU (gv 0) fN)))) (fe:=gv 0) (ix:=[0]) ei hlen).trans (As (p:=λd=>match d with|.int h=>!(uI m (2^h.toNat)==0)|_=>false) (F:=id) (λd hd=>by
  obtain⟨k,hk,rfl⟩:=jq.mp hd;have hk':=jm.mp hk;exact wJ ((iH rfl).trans (Og _ _ (by omega) (by omega))) rfl) (λd hd _=>rfl)))
 unfold Gm;rw[e];rw[KQ];rw[List.map_id];rw[<- key b0 b1 b2 b3 b4];rw[hm];refine congrArg Ga ?_;unfold gT;rw[vj,vj,jT];exact congr (congrArg List.map (funext λx=>congrArg jc (qE _))) (congrArg (λp=>List.filter p _) (funext λx=>congrArg (λz:Int=>!(uI m (2^z.toNat)==0)) (qE (x:Int))))
def md (fs:List Fl)(h:Nat):Option Fl:=fs.find? λf=>f.h==h
def up (fs:List Fl)(h:Nat)(r:Int):Bool:=match md fs h with|some f=>decide (r<f.a)|none=>true
theorem eqH (f:Fl)(h:Nat):gz (.int f.h) (.int h)=Ga (.bool (f.h==h)):=by
 rw[xk];congr 2;rw[jV,beq_iff_eq,beq_iff_eq];omega
theorem yJ {fs:List Fl}{h:Nat}{f:Fl}(e:md fs h=Ga f):f∈fs/\f.h=h:=⟨qg e,by have:=qN e;exact beq_iff_eq.mp this⟩
theorem yQ:∀ (n:Nat) (l:List Nat),l.Nodup->(∀ x∈l,x<n)->l.length<=n
 | 0,[],_,_=>jr _
 | 0,x::r,_,h=>absurd (h x jf) (v5 _)
 | n+1,l,nd,h=>by
  by_cases hm:n∈l
  .have ih:=yQ n (l.erase n) (nd.erase n) (λx hx=>by
    have h1:=(nd.mem_erase_iff.mp hx);have h2:=h x h1.2;have h3:=h1.1;omega)
   rw[qr hm] at ih;omega
  .have ih:=yQ n l nd (λx hx=>by
    have h2:=h x hx;have h3:x≠n:=λe=>hm (e▸hx);omega)
   omega
def bt (m h:Nat):Bool:=decide ((m:Int)/(2^h)%2=1)
theorem Xz (fs:List Fl)(nd:(fs.map Fl.h).Nodup)(h:Nat)(r:Int):fs.all (λf=>!(f.h==h&&decide (f.a<=r)))=up fs h r:=by
 unfold up;rw[jV,jO];cases e:md fs h with
 | none =>
  refine⟨λ_=>rfl,λ_ f hf=>?_⟩;have:=uz.mp e f hf;rw[ua] at this;rw[this];rfl
 | some g =>
  obtain⟨g1,g2⟩:=yJ e;dsimp only;rw[decide_eq_true_eq];constructor
  .intro z;have:=z g g1;rw[g2,beq_self_eq_true,Jj,ui,decide_eq_false_iff_not] at this;omega
  .intro z f hf;rw[ui,Bool.and_eq_false_iff];by_cases q:f.h=h
   .have:f=g:=by
     obtain⟨i,hi,ei⟩:=v7 hf;obtain⟨j,hj,ej⟩:=v7 g1;have a1:(fs.map Fl.h)[i]?=Ga h:=by rw[jw,jh hi,ei,uU,q]
     have a2:(fs.map Fl.h)[j]?=Ga h:=by rw[jw,jh hj,ej,uU,g2]
     have:=(List.getElem?_inj (by rw[jd];exact hi) nd).mp (a1.trans a2.symm);subst this;rw[<- ei,<- ej]
    rw[this];exact .inr (Gd (by omega))
   .exact .inl (by rw[<- ua,beq_iff_eq];exact q)
def OS (b t:Nat)(at_:Int)(f:Fl):Bool:=!((f.h==t&&decide (f.a<=at_))||(f.h==b&&decide (f.a<at_)))&&!(f.h==b&&(decide (f.a=at_)&&!bt f.m t))
def cm (fs:List Fl)(b t:Nat)(at_:Int):Bool:=fs.all (OS b t at_)
theorem sV {n:Nat}{fs:List Fl}(G:gu n fs)(b t:Nat)(r:Int):cm fs b t r=true↔∀ f∈fs,(f.h=t->r<f.a)/\(f.h=b->r<=f.a/\(f.a=r->bt f.m t=true)):=by
 unfold cm;rw[jO];refine forall_congr' λf=>forall_congr' λ_=>?_;unfold OS;by_cases h1:f.h=t<;>by_cases h2:f.h=b<;>by_cases h3:f.a<r<;>by_cases h4:f.a=r<;>by_cases h5:f.a<=r<;>cases h6:bt f.m t<;>simp[h1,h2,h3,h4,h5,h6]<;>omega
theorem nD {n:Nat}{fs:List Fl}(G:gu n fs)(h:Nat)(r:Int):up fs h r=true↔∀ f∈fs,f.h=h->r<f.a:=by
 rw[<- Xz fs G.nd h r,jO];refine forall_congr' λf=>forall_congr' λ_=>?_;by_cases h1:f.h=h<;>by_cases h2:f.a<=r<;>simp[h1,h2]<;>omega
def vw (ns:List D)(fs:List Fl):Nat->Nat->D
 | 0,h=>.tuple [.int h,ns.getD h .none]
 | r+1,h=>.tuple [.int h,.tuple ((jb ns.length).map λo=>if o=h\/cm fs o h ((r+1:Nat):Int)=true then vw ns fs r o else .none)]
theorem My (ns:List D)(fs:List Fl)(r h:Nat)(hh:h<ns.length):yZ [vw ns fs (r+1) h]=Ga (vw ns fs r h):=by
 have g:((jb ns.length).map λo=>if o=h\/cm fs o h ((r+1:Nat):Int)=true then vw ns fs r o else .none)[h]?=Ga (vw ns fs r h):=by
  rw[jw,kX hh,uU,Ge (kw rfl)]
 show fK (Gu [.val (vw ns fs (r+1) h)])=_;unfold Gu;exact(congrArg fK (mY (d:=vw ns fs r h) ((nR (a:=.tuple ((jb ns.length).map λo=>if o=h\/cm fs o h ((r+1:Nat):Int)=true then vw ns fs r o else .none)) (b:=.int h) rfl rfl).trans (yv g)))).trans rfl
theorem Ld (ns:List D)(fs:List Fl)(hi:∀ d∈ns,∃ i:Int,d=.int i)(h:Nat)(hh:h<ns.length):∀ (r m:Nat) (j:Int),r<m->iA (lF (un (wd "tuple") (fu eY (gv 0) (fZ (.int 1))))) (fJ (fX 0 (fq yZ (eU (gv 0) fN))) (fX 1 (fu ge (gv 1) (fZ (.int 1))))) m [.val (vw ns fs r h),.val (.int j)]=Ga (.nx [.val (vw ns fs 0 h),.val (.int (j+r))])
 | 0,m,j,hm=>by
  obtain⟨m',rfl⟩:∃ m',m=m'+1:=⟨m-1,by omega⟩;unfold iA;have e:lF (un (wd "tuple") (fu eY (gv 0) (fZ (.int 1)))) (frz [.val (vw ns fs 0 h),.val (.int j)])=Ga false:=by
   obtain⟨i,hi'⟩:=hi (ns[h]) (uJ hh);refine wJ (d:=.bool false) ((so (a:=.int i) ((nR (a:=vw ns fs 0 h) (b:=.int 1) rfl rfl).trans ?_)).trans rfl) rfl;show Ga (ns.getD h .none)=_;rw[jl,jh hh,<- hi'];rfl
  rw[e,je,Gf jv,show(j+((0:Nat):Int))=j by omega]
 | r+1,m,j,hm=>by
  obtain⟨m',rfl⟩:∃ m',m=m'+1:=⟨m-1,by omega⟩;have ih:=Ld ns fs hi h hh r m' (j+1) (by omega);unfold iA;have e:lF (un (wd "tuple") (fu eY (gv 0) (fZ (.int 1)))) (frz [.val (vw ns fs (r+1) h),.val (.int j)])=Ga true:=rfl;have b1:fJ (fX 0 (fq yZ (eU (gv 0) fN))) (fX 1 (fu ge (gv 1) (fZ (.int 1)))) [.val (vw ns fs (r+1) h),.val (.int j)]=Ga (.nx [.val (vw ns fs r h),.val (.int (j+1))]) :=
   (lg (e:=[.val (vw ns fs r h),.val (.int j)]) (tH ((iH (ds:=[vw ns fs (r+1) h]) rfl).trans (My ns fs r h hh)))).trans rfl
  rw[e,je,Ge rfl,b1,je];show iA _ _ m' [.val (vw ns fs r h),.val (.int (j+1))]=_;rw[ih,show j+1+(r:Int)=j+((r+1:Nat):Int) by omega]
theorem AH (ns:List D)(fs:List Fl)(hi:∀ d∈ns,∃ i:Int,d=.int i)(r h:Nat)(hh:h<ns.length)(hr:r<100):oo [vw ns fs r h]=Ga (.int r):=by
 show fK (HP [.val (vw ns fs r h),.no])=_;unfold HP;rw[lg (e:=[.val (vw ns fs r h),.val (.int 0)]) rfl,lg (Ld ns fs hi h hh r 100 0 hr),qE];rfl
theorem yr {t:FT}{g:FS}{α:Type}(f:α->D)(I:List α->En->Prop)(xs:List α)(st:∀ pre x suf,xs=pre++x::suf->∀ ψ,I pre ψ->∃ e1 e2,t (f x) ψ=Ga e1/\g e1=Ga (.nx e2)/\I (pre++[x]) e2) :
  ∀ suf pre ψ,xs=pre++suf->I pre ψ->∃ e,fY t g (suf.map f) ψ=Ga (.nx e)/\I xs e
 | [],pre,ψ,h,hI=>⟨ψ,rfl,(by rw[h,j4];exact hI)⟩
 | x::suf,pre,ψ,h,hI=>by
  obtain⟨e1,e2,h1,h2,h3⟩:=st pre x suf h ψ hI;obtain⟨e,h4,h5⟩:=yr f I xs st suf (pre++[x]) e2 (by rw[h,uX];rfl) h3;refine⟨e,?_,h5⟩;rw[jB];unfold fY;rw[h1,je,h2];exact h4
theorem SW {ns:List D}{fs:List Fl}{r a b:Nat}(h:vw ns fs r a=vw ns fs r b):a=b:=by
 have hd:∀ (r a:Nat),∃ d,vw ns fs r a=.tuple [.int (a:Int),d]:=λr a=>by cases r<;>exact⟨_,rfl⟩
 obtain⟨d1,e1⟩:=hd r a;obtain⟨d2,e2⟩:=hd r b;rw[e1,e2] at h;have:=uA (Jk (qB h)).1;omega
theorem NT (ns:List D)(fs:List Fl)(r h:Nat):gS (vw ns fs r h) .none=Ga (.bool true):=by cases r<;>rfl
theorem Cv:∀ {xs:List D} {n:Nat},(∀ x∈xs,fA x n=true)->ij xs n=true
 | [],_,_=>by rw[ij]
 | x::xs,n,h=>by rw[ij,h x jf,Cv λy hy=>h y (jj _ hy)];rfl
theorem Ab (ns:List D)(fs:List Fl)(hi:∀ d∈ns,∃ i:Int,d=.int i):∀ (r h m:Nat),2*r+1<=m->fA (vw ns fs r h) m=true
 | 0,h,m,hm=>by
  obtain⟨m',rfl⟩:∃ m',m=m'+1:=⟨m-1,by omega⟩;show fA (.tuple [.int h,ns.getD h .none]) (m'+1)=true;rw[fA];refine Cv λx hx=>?_;rcases jx.mp hx with rfl|hx
  .rw[fA]
  .cases jp.mp hx;by_cases hh:h<ns.length
   .obtain⟨i,e⟩:=hi _ (uJ hh);rw[jl,jh hh];show fA ns[h] m'=true;rw[e,fA]
   .rw[jl,kq (by omega)];show fA vX m'=true;rw[fA]
 | r+1,h,m,hm=>by
  obtain⟨m',rfl⟩:∃ m',m=m'+2:=⟨m-2,by omega⟩;show fA (.tuple [.int h,.tuple ((jb ns.length).map λo=>if o=h\/cm fs o h ((r+1:Nat):Int)=true then vw ns fs r o else .none)]) (m'+1+1)=true;rw[fA];refine Cv λx hx=>?_;rcases jx.mp hx with rfl|hx
  .rw[fA]
  .cases jp.mp hx;rw[fA];refine Cv λy hy=>?_;obtain⟨o,_,rfl⟩:=jq.mp hy;split
   .exact Ab ns fs hi r o m' (by omega)
   .rw[fA]
theorem Op (ns:List D)(fs:List Fl)(r h:Nat):mP (vw ns fs r h)=true:=by cases r<;>rfl
theorem Xj (ns:List D)(fs:List Fl)(r w:Nat)(B:List Nat):mS (B.map (vw ns fs r)) (vw ns fs r w)=(if w∈B then B else B++[w]).map (vw ns fs r):=by
 unfold mS;by_cases h:w∈B
 .rw[Ge h,Ge (jq.mpr ⟨w,h,rfl⟩)]
 .rw[Gf h,Gf (λz=>by obtain⟨b,hb,e⟩:=jq.mp z;exact h (SW e▸hb)),kJ];rfl
theorem Qt {B:List Nat}{w n:Nat}(nB:B.Nodup)(lB:∀ x∈B,x<n)(hw:w<n):(if w∈B then B else B++[w]).Nodup/\(∀ x∈(if w∈B then B else B++[w]),x<n)/\∀ x,x∈(if w∈B then B else B++[w])↔x∈B\/x=w:=by
 by_cases h:w∈B
 .rw[Ge h];exact⟨nB,lB,λx=>⟨.inl,λz=>by rcases z with z|z;exact z;rw[z];exact h⟩⟩
 .rw[Gf h];refine⟨?_,λx hx=>?_,λx=>by rw[kc,jp]⟩
  .rw[uE];refine⟨nB,jJ.mpr ⟨by simp,j7⟩,λx hx y hy=>?_⟩;rw[jp.mp hy];exact λz=>h (z▸hx)
  .rcases kc.mp hx with z|z
   .exact lB x z
   .rw[jp.mp z];exact hw
theorem zAM {i:Nat}{f:FV}{ψ:En}{k:D}{ks:List D}(h1:f ψ=Ga k)(h2:ψ[i]?=Ga (.dic ks))(hk:(fA k 8&&mP k)=true)(hl:ks.length<1000000):ym i f ψ=Ga (.nx (ψ.set i (.dic (mS ks k)))):=by
 unfold ym;rw[h1,je,h2];exact Ge ⟨hk,hl⟩
noncomputable abbrev IU:FS:=lY (gM gS (gv 3) (fZ .none)) (ym 1 (gv 3)) (mX)
noncomputable abbrev Cw:FS:=iC (iK (fu eY (gv 2) (fZ (.int 1)))) (gY 3) IU
theorem Uz (ns:List D)(fs:List Fl)(hi:∀ d∈ns,∃ i:Int,d=.int i)(n5:ns.length<=5)(r:Nat)(hr:r<=3)(A:List Nat)(lA:∀ x∈A,x<ns.length) :
  ∃ B:List Nat,CZ [.list (A.map (vw ns fs (r+1)))]=Ga (.list (B.map (vw ns fs r)))/\B.Nodup/\(∀ x∈B,x<ns.length)/\∀ x,x∈B↔x<ns.length/\∃ o∈A,x=o\/cm fs x o ((r+1:Nat):Int)=true:=by
 have inner:∀ (L:D) (o:Nat) (x3:Sl) (B0:List Nat),o<ns.length->B0.Nodup->(∀ x∈B0,x<ns.length)->∃ (B:List Nat) (y3:Sl),Cw [.val L,.dic (B0.map (vw ns fs r)),.val (vw ns fs (r+1) o),x3]=Ga (.nx [.val L,.dic (B.map (vw ns fs r)),.val (vw ns fs (r+1) o),y3])/\B.Nodup/\(∀ x∈B,x<ns.length)/\∀ x,x∈B↔x∈B0\/(x<ns.length/\(x=o\/cm fs x o ((r+1:Nat):Int)=true)):=by
  intro L o x3 B0 ho nB0 lB0;have hs:iK (fu eY (gv 2) (fZ (.int 1))) [.val L,.dic (B0.map (vw ns fs r)),.val (vw ns fs (r+1) o),x3]=Ga ((jb ns.length).map λw=>if w=o\/cm fs w o ((r+1:Nat):Int)=true then vw ns fs r w else .none):=rfl;have hv:∀ w,w<ns.length->(fA (vw ns fs r w) 8&&mP (vw ns fs r w))=true:=λw _=>by rw[Ab ns fs hi r w 8 (by omega),Op];rfl
  generalize (Sl.val (vw ns fs (r+1) o))=S2 at hs ⊢;have Lp:=yr (t:=gY 3) (g:=IU) (λw=>if w=o\/cm fs w o ((r+1:Nat):Int)=true then vw ns fs r w else .none)
   (λpre ψ=>∃ (B:List Nat) (y3:Sl),ψ=[.val L,.dic (B.map (vw ns fs r)),S2,y3]/\B.Nodup/\(∀ x∈B,x<ns.length)/\∀ x,x∈B↔x∈B0\/(x∈pre/\(x=o\/cm fs x o ((r+1:Nat):Int)=true)))
   (jb ns.length) (by
    intro pre w suf hx ψ hI;obtain⟨B,y3,rfl,nB,lB,mB⟩:=hI;have hw:w<ns.length:=jm.mp (by rw[hx];exact jH _ jf);have mpre:∀ x,x∈pre++[w]↔x∈pre\/x=w:=λx=>by rw[kc,jp]
    by_cases c:w=o\/cm fs w o ((r+1:Nat):Int)=true
    .rw[Ge c];have lenB:=yQ ns.length B nB lB;obtain⟨p1,p2,p3⟩:=Qt nB lB hw;refine⟨[.val L,.dic (B.map (vw ns fs r)),S2,.val (vw ns fs r w)],[.val L,.dic ((if w∈B then B else B++[w]).map (vw ns fs r)),S2,.val (vw ns fs r w)],rfl,?_,_,_,rfl,p1,p2,λx=>?_⟩
     .refine(sL (pR (x:=vw ns fs r w) (y:=.none) rfl rfl (NT ns fs r w))).trans ?_;rw[<- Xj];exact zAM (ks:=B.map (vw ns fs r)) (k:=vw ns fs r w) rfl rfl (hv w hw) (by rw[jd];omega)
     .rw[p3,mB,mpre];constructor
      .rintro((z|⟨z1,z2⟩)|z)
       .exact .inl z
       .exact .inr ⟨.inl z1,z2⟩
       .rw[z];exact .inr ⟨.inr rfl,c⟩
      .rintro(z|⟨z1|z1,z2⟩)
       .exact .inl (.inl z)
       .exact .inl (.inr ⟨z1,z2⟩)
       .exact .inr z1
    .rw[Gf c];refine⟨[.val L,.dic (B.map (vw ns fs r)),S2,.val .none],_,rfl,(ss (pR (x:=.none) (y:=.none) rfl rfl rfl)).trans rfl,B,_,rfl,nB,lB,λx=>?_⟩;rw[mB,mpre];constructor
     .rintro(z|⟨z1,z2⟩)
      .exact .inl z
      .exact .inr ⟨.inl z1,z2⟩
     .rintro(z|⟨z1|z1,z2⟩)
      .exact .inl z
      .exact .inr ⟨z1,z2⟩
      .rw[z1] at z2;exact absurd z2 c)
   (jb ns.length) [] [.val L,.dic (B0.map (vw ns fs r)),S2,x3] rfl ⟨B0,x3,rfl,nB0,lB0,λx=>⟨.inl,λz=>by rcases z with z|⟨z,_⟩;exact z;cases z⟩⟩
  obtain⟨e,e1,B,y3,rfl,nB,lB,mB⟩:=Lp;refine⟨B,y3,(rW hs).trans e1,nB,lB,λx=>?_⟩;rw[mB,jm]
 generalize hL:vB (A.map (vw ns fs (r+1)))=L;show ∃ B:List Nat,fK (Ie [.val L,.no,.no,.no])=_/\_;have Lq:=yr (t:=gY 2) (g:=Cw) (vw ns fs (r+1))
  (λpre ψ=>∃ (B:List Nat) (y2 y3:Sl),ψ=[.val L,.dic (B.map (vw ns fs r)),y2,y3]/\B.Nodup/\(∀ x∈B,x<ns.length)/\∀ x,x∈B↔x<ns.length/\∃ o∈pre,x=o\/cm fs x o ((r+1:Nat):Int)=true)
  A (by
   intro pre o suf hx ψ hI;obtain⟨B,y2,y3,rfl,nB,lB,mB⟩:=hI;have ho:o<ns.length:=lA o (by rw[hx];exact jH _ jf);obtain⟨C,z3,e1,nC,lC,mC⟩:=inner L o y3 B ho nB lB;refine⟨[.val L,.dic (B.map (vw ns fs r)),.val (vw ns fs (r+1) o),y3],_,rfl,e1,C,_,_,rfl,nC,lC,λx=>?_⟩;rw[mC,mB];constructor
   .rintro(⟨z1,o',z2,z3⟩|⟨z1,z2⟩)
    .exact⟨z1,o',uC _ z2,z3⟩
    .exact⟨z1,o,jH _ jf,z2⟩
   .rintro⟨z1,o',z2,z3⟩;rcases kc.mp z2 with z2|z2
    .exact .inl ⟨z1,o',z2,z3⟩
    .rw[jp.mp z2] at z3;exact .inr ⟨z1,z3⟩)
  A [] [.val L,.dic [],.no,.no] rfl ⟨[],_,_,rfl,j7,λx h=>(by cases h),λx=>⟨λh=>(by cases h),λh=>(by obtain⟨_,o,h,_⟩:=h;cases h)⟩⟩
 obtain⟨e,e1,B,y2,y3,rfl,nB,lB,mB⟩:=Lq;refine⟨B,?_,nB,lB,mB⟩;have hsL:iK (gv 0) [.val L,.dic [],.no,.no]=Ga (A.map (vw ns fs (r+1))):=by rw[<- hL];rfl
 unfold Ie;rw[lg (e:=[.val L,.dic [],.no,.no]) rfl];rw[lg ((rW hsL).trans e1)];have kd:rO (AO (B.map (vw ns fs r)))=Ga (B.map (vw ns fs r)):=by
  rw[OV,GF]
 show fK (gI (gU (iw rO (gv 1))) [.val L,.val (AO (B.map (vw ns fs r))),y2,y3])=_;exact(congrArg fK (mY (tK ((sZ (a:=AO (B.map (vw ns fs r))) rfl).trans kd)))).trans rfl
def Rb (fs:List Fl)(n r h:Nat):Nat->Nat->Prop
 | 0,x=>x=h
 | i+1,x=>x<n/\∃ o,Rb fs n r h i o/\(x=o\/cm fs x o ((r-i:Nat):Int)=true)
theorem RV {fs:List Fl}{n r h:Nat}(hh:h<n):∀ {i x:Nat},Rb fs n r h i x->x<n
 | 0,x,z=>by rw[show x=h from z];exact hh
 | _+1,_,z=>z.1
theorem xn {xs:List D}{m:Nat}{v:D}(hl:xs.length=m+1)(h:xs[m]?=Ga v):L2.atI xs (-1)=Ga v:=by
 unfold L2.atI L2.ixN;rw[Gf (by decide),Ge (by omega),je,show((-1:Int)+(xs.length:Nat)).toNat=m by omega];exact h
def zI (ns:List D)(fs:List Fl)(r h i:Nat)(d:D):Prop:=∃ A:List Nat,d=.list (A.map (vw ns fs (r-i)))/\A.Nodup/\(∀ x∈A,x<ns.length)/\∀ x,x∈A↔Rb fs ns.length r h i x
theorem NX (ns:List D)(fs:List Fl)(hi:∀ d∈ns,∃ i:Int,d=.int i)(n5:ns.length<=5)(r h:Nat)(hr:r<=4)(hh:h<ns.length) :
  ∃ Ls:List D,wD [vw ns fs r h]=Ga (.list Ls)/\Ls.length=r+1/\∀ k,k<=r->∃ d,Ls[k]?=Ga d/\zI ns fs r h (r-k) d:=by
 have hro:=AH ns fs hi r h hh (by omega);have h0:∀ f:Nat,zI ns fs r h 0 (.list [vw ns fs r h]):=λ_=>⟨[h],rfl,jJ.mpr ⟨by simp,j7⟩,λx hx=>by rw[jp.mp hx];exact hh,λx=>by rw[jp];exact Iff.rfl⟩;show ∃ Ls:List D,fK (Fv [.val (vw ns fs r h),.no,.no])=_/\_;have h0:=h0 0;generalize vw ns fs r h=v at hro h0;have Lp:=yr (t:=gY 2) (g:=zF 1 (fq CZ (eU (yG (gl 1) (un zu (fZ (.int 1)))) fN))) (λ(k:Nat)=>jc (k:Int))
  (λpre ψ=>∃ (Ls:List D) (x2:Sl),ψ=[.val v,.own Ls,x2]/\Ls.length=pre.length+1/\pre.length<=r/\∀ i,i<=pre.length->∃ d,Ls[i]?=Ga d/\zI ns fs r h i d)
  (jb r) (by
   intro pre w suf hx ψ hI;obtain⟨Ls,x2,rfl,hl,hp,hL⟩:=hI;have hlen:pre.length+1<=r:=by
    have:=congrArg qi hx;rw[jK,jC,jL] at this;omega
   obtain⟨d,hd,A,rfl,nA,lA,mA⟩:=hL pre.length (jr _);obtain⟨q,hq⟩:∃ q,r-pre.length=q+1:=⟨r-pre.length-1,by omega⟩;rw[hq] at hd;obtain⟨B,e1,nB,lB,mB⟩:=Uz ns fs hi n5 q (by omega) A lA;have hix:yG (gl 1) (un zu (fZ (.int 1))) [.val v,.own Ls,.val (.int w)]=Ga (.list (A.map (vw ns fs (q+1)))):=by
    show wp Ls (.int (-1))=_;show L2.atI Ls (-1)=_;exact xn hl hd
   refine⟨[.val v,.own Ls,.val (.int w)],[.val v,.own (Ls++[.list (B.map (vw ns fs q))]),.val (.int w)],rfl,RA (ds:=Ls) rfl ((iH (ds:=[.list (A.map (vw ns fs (q+1)))]) (yF hix rfl)).trans e1) (by omega),Ls++[.list (B.map (vw ns fs q))],_,rfl,by rw[jC,jC,hl];rfl,by rw[jC];exact hlen,λi hi'=>?_⟩;rw[jC,uW] at hi';by_cases c:i<=pre.length
   .obtain⟨d,h1,h2⟩:=hL i c;exact⟨d,by rw[ky (by omega)];exact h1,h2⟩
   .have ei:i=pre.length+1:=by omega
    subst ei;refine⟨_,by rw[kH (by omega),hl,qH];rfl,B,by rw[show r-(pre.length+1)=q by omega],nB,lB,λx=>?_⟩;rw[mB];show _↔x<ns.length/\∃ o,Rb fs ns.length r h pre.length o/\(x=o\/cm fs x o ((r-pre.length:Nat):Int)=true);rw[hq];constructor
    .rintro⟨z1,o,z2,z3⟩;exact⟨z1,o,(mA o).mp z2,z3⟩
    .rintro⟨z1,o,z2,z3⟩;exact⟨z1,o,(mA o).mpr z2,z3⟩)
  (jb r) [] [.val v,.own [.list [v]],.no] rfl ⟨[.list [v]],_,rfl,rfl,jX _,λi hi'=>⟨.list [v],by rw[show i=0 from by simpa using hi'];rfl,by rw[show i=0 from by simpa using hi'];exact h0⟩⟩
 obtain⟨e,e1,Ls,x2,rfl,hl,_,hL⟩:=Lp;rw[jK] at hl hL;refine⟨Ls.reverse,?_,by rw[vd];exact hl,λk hk=>?_⟩
 .unfold Fv;rw[lg (e:=[.val v,.own [.list [v]],.no]) rfl];have er:iw gf (fq oo (eU (gv 0) fN)) [.val v,.own [.list [v]],.no]=Ga ((jb r).map λ(k:Nat)=>jc (k:Int)):=(sZ (a:=.int r) ((iH (ds:=[v]) rfl).trans hro)).trans ((pL (by omega)).trans (by rw[mV]));rw[lg ((rW er).trans e1)];rfl
 .obtain⟨d,h1,h2⟩:=hL (r-k) (by omega);refine⟨d,?_,h2⟩;rw[qR (by omega),hl,show r+1-1-k=r-k by omega];exact h1
def re:Nat->List (List Nat)
 | 0=>[[]]
 | n+1=>(re n).flatMap λA=>((jb 5).filter λx=>!A.contains x).map λx=>x::A
theorem Eh:∀ (A:List Nat),A.Nodup->(∀ x∈A,x<5)->A∈re A.length
 | [],_,_=>jp.mpr rfl
 | x::A,nd,lt=>by
  rw[jJ] at nd;show x::A∈(re A.length).flatMap _;rw[JJ];refine⟨A,Eh A nd.2 λy hy=>lt y (jj _ hy),jq.mpr ⟨x,jA.mpr ⟨jm.mpr (lt x jf),?_⟩,rfl⟩⟩;rw[ui,<- ua,kr];exact nd.1
def Dj (A:List Nat)(i j:Nat):Option Bool:=(A[i]?).bind λa=>(A[j]?).bind λb=>Ga (decide (a<b))
def tX (A:List Nat):Bool:=match sw (Dj A) (vO A.length) with
 | some p=>decide (p.size<=64)&&(p.toList.all λi=>decide (i<A.length))&&(p.toList.map (λi=>A.getD i 0)==(jb 5).filter λx=>A.contains x)
 | none=>false
theorem zyJ:((re 2).all tX&&(re 3).all tX&&(re 4).all tX&&(re 5).all tX)=true:=by nofun
theorem XV:(jb 5).all (λa=>(jb 5).filter (λx=>[a].contains x)==[a])=true:=by nofun
theorem ZT (n:Nat)(hn:n<=5)(A:List Nat)(lt:∀ x∈A,x<n):(jb 5).filter (λx=>A.contains x)=(jb n).filter λx=>A.contains x:=by
 have e:jb 5=jb n++(jb (5-n)).map (n+·):=by rw[<- List.range_add,show n+(5-n)=5 by omega]
 rw[e,kI];have:((jb (5-n)).map (n+·)).filter (λx=>A.contains x)=[]:=by
  rw[vK];intro x hx;obtain⟨k,_,rfl⟩:=jq.mp hx;rw[kr];intro z;have:=lt _ z;omega
 rw[this,j4]
theorem tM (ns:List D)(fs:List Fl)(hi:∀ d∈ns,∃ i:Int,d=.int i)(n5:ns.length<=5)(A:List Nat)(nd:A.Nodup)(lt:∀ x∈A,x<ns.length) :
  oi (A.map (vw ns fs 0))=Ga (((jb ns.length).filter λx=>A.contains x).map (vw ns fs 0)):=by
 have hlen:=yQ ns.length A nd lt;have l5:∀ x∈A,x<5:=λx hx=>by have:=lt x hx;omega
 have hm:=Eh A nd l5;rw[<- ZT ns.length n5 A lt];have num:∀ a,a<ns.length->∃ i:Int,ns.getD a .none=.int i:=λa ha=>by
  obtain⟨i,e⟩:=hi _ (uJ ha);exact⟨i,by rw[jl,jh ha];exact e⟩
 unfold oi;by_cases h2:A.length<2
 .rw[Ge (by rw[jd];exact h2)];refine congrArg Ga (congrArg (List.map _) ?_)
  match A,h2,l5 with
  | [],_,_=>rfl
  | [a],_,l5 =>
   have:=jO.mp XV a (jm.mpr (l5 a jf));exact(eq_of_beq this).symm
  | _::_::_,h2,_=>simp at h2;omega
 .rw[Gf (by rw[jd];exact h2)];have ok:(decide ((A.map (vw ns fs 0)).length<64)&&rC (A.map (vw ns fs 0)))=true:=by
   rw[jd,Gc (show A.length<64 by omega),Jj];unfold rC;rw[j5];refine .inr (jO.mpr λd hd=>?_);obtain⟨a,ha,rfl⟩:=jq.mp hd;obtain⟨i,e⟩:=num a (lt a ha);show BJ (.tuple [.int a,ns.getD a .none])=true;rw[e];rfl
  rw[Ge ok,jd];have lte:xH (A.map (vw ns fs 0))=Dj A:=by
   funext i j
   unfold xH Dj;rw[jw,jw];cases hA:A[i]? with
   | none=>rfl
   | some a =>
    cases hB:A[j]? with
    | none=>rfl
    | some b =>
     obtain⟨x,ex⟩:=num a (lt a (jM hA));obtain⟨y,ey⟩:=num b (lt b (jM hB));show CV (.tuple [.int a,ns.getD a .none]) (.tuple [.int b,ns.getD b .none])=Ga (decide (a<b));rw[ex,ey];show Ga (rh [(a:Int),x] [(b:Int),y])=_;unfold rh;by_cases hab:a=b
     .subst hab;have exy:x=y:=by rw[ex] at ey;exact uA ey
      subst exy;rw[beq_self_eq_true,Ge rfl];unfold rh;rw[beq_self_eq_true,Ge rfl,Gd (ko a)];rfl
     .rw[Gf (by rw[beq_iff_eq];omega)];refine congrArg Ga ?_;rw[jV,decide_eq_true_eq,decide_eq_true_eq];omega
  rw[lte];have hc:tX A=true:=by
   have h5:A.length=2\/A.length=3\/A.length=4\/A.length=5:=by omega
   have ca:=zyJ;rw[jo,jo,jo] at ca;obtain⟨⟨⟨c2,c3⟩,c4⟩,c5⟩:=ca;rcases h5 with e|e|e|e<;>rw[e] at hm
   .exact jO.mp c2 A hm
   .exact jO.mp c3 A hm
   .exact jO.mp c4 A hm
   .exact jO.mp c5 A hm
  unfold tX at hc;cases hk:sw (Dj A) (vO A.length) with
  | none=>rw[hk] at hc;cases hc
  | some p =>
   rw[hk] at hc;dsimp only at hc;rw[jo,jo,decide_eq_true_eq] at hc;obtain⟨⟨c1,c2⟩,c3⟩:=hc;rw[je,Ge c1,<- eq_of_beq c3,jT];refine congrArg Ga (ka λi hi'=>?_);have hl:i<A.length:=of_decide_eq_true (jO.mp c2 i hi');show(A.map (vw ns fs 0)).getD i .none=vw ns fs 0 (A.getD i 0);rw[jl,jw,jh hl,jl,jh hl];rfl
def Tf (fs:List Fl)(n:Nat):Nat->Nat->Nat->Bool
 | 0,h,o=>decide (o=h)
 | r+1,h,o=>Tf fs n r h o||(jb n).any λw=>cm fs w h ((r+1:Nat):Int)&&Tf fs n r w o
theorem Nz (fs:List Fl)(n r h:Nat)(hh:h<n)(x:Nat):∀ i,i<=r->((∃ o,Rb fs n r h i o/\Tf fs n (r-i) o x=true)↔Tf fs n r h x=true)
 | 0,_=>⟨λ⟨o,z1,z2⟩=>by rw[show o=h from z1] at z2;exact z2,λz=>⟨h,rfl,z⟩⟩
 | i+1,hi=>by
  rw[<- Nz fs n r h hh x i (by omega)];obtain⟨q,hq⟩:∃ q,r-i=q+1:=⟨r-i-1,by omega⟩;rw[show r-(i+1)=q by omega,hq];constructor
  .rintro⟨o',⟨z1,o,z2,z3⟩,z4⟩;refine⟨o,z2,?_⟩;show(Tf fs n q o x||(jb n).any λw=>cm fs w o ((q+1:Nat):Int)&&Tf fs n q w x)=true;rw[hq] at z3;rw[j5];rcases z3 with z3|z3
   .rw[<- z3];exact .inl z4
   .refine .inr (uK.mpr ⟨o',jm.mpr z1,?_⟩);rw[z3,z4];rfl
  .rintro⟨o,z2,z4⟩;have ho:=RV hh z2;have z4':(Tf fs n q o x||(jb n).any λw=>cm fs w o ((q+1:Nat):Int)&&Tf fs n q w x)=true:=z4;rw[j5] at z4';rcases z4' with z|z
   .exact⟨o,⟨ho,o,z2,.inl rfl⟩,z⟩
   .obtain⟨w,hw,e⟩:=uK.mp z;rw[jo] at e;exact⟨w,⟨jm.mp hw,o,z2,.inr (by rw[hq];exact e.1)⟩,e.2⟩
theorem Xb (fs:List Fl)(n r h:Nat)(hh:h<n)(x:Nat):Rb fs n r h r x↔Tf fs n r h x=true:=by
 rw[<- Nz fs n r h hh x r (jr _),qH];constructor
 .intro z;exact⟨x,z,Gc rfl⟩
 .rintro⟨o,z1,z2⟩;have:x=o:=of_decide_eq_true z2;rw[this];exact z1
def kn (fs:List Fl)(n r h:Nat):List Nat:=(jb n).filter λo=>Tf fs n r h o
def wc (ns:List D)(fs:List Fl)(r h:Nat):List D:=(kn fs ns.length r h).map (vw ns fs 0)
theorem Ue (ns:List D)(fs:List Fl)(hi:∀ d∈ns,∃ i:Int,d=.int i)(n5:ns.length<=5)(r h:Nat)(hr:r<=4)(hh:h<ns.length):Da [vw ns fs r h]=Ga (.list (wc ns fs r h)):=by
 obtain⟨Ls,e1,hl,hL⟩:=NX ns fs hi n5 r h hr hh;obtain⟨d,hd,A,rfl,nA,lA,mA⟩:=hL 0 (jX _);rw[Jz,qH] at hd;have hs:=tM ns fs hi n5 A nA lA;have ea:((jb ns.length).filter λx=>A.contains x)=kn fs ns.length r h:=by
  unfold kn;refine vM λx hx=>?_;rw[jV,kr,mA,Jz];exact Xb fs ns.length r h hh x
 rw[ea] at hs;show fK (Fg [.val (vw ns fs r h)])=_;generalize vw ns fs r h=v at e1;unfold Fg;have e2:fu eY (fq wD (eU (gv 0) fN)) (fZ (.int 0)) [.val v]=Ga (.list (A.map (vw ns fs 0))):=(nR (a:=.list Ls) (b:=.int ((0:Nat):Int)) ((iH (ds:=[v]) rfl).trans e1) rfl).trans (yv hd);have s:CG (xJ (fu eY (fq wD (eU (gv 0) fN)) (fZ (.int 0)))) [.val v]=Ga (wc ns fs r h):=by
  show(xJ (fu eY (fq wD (eU (gv 0) fN)) (fZ (.int 0))) [.val v]).bind oi=_;rw[GW e2];exact hs
 exact(congrArg fK (mY (tK s))).trans rfl
theorem Vd (fs:List Fl)(n h:Nat)(hh:h<n):∀ r,h∈kn fs n r h:=λr=>by
 unfold kn;rw[jA];refine⟨jm.mpr hh,?_⟩;induction r with
 | zero=>exact Gc rfl
 | succ r ih =>
  show(Tf fs n r h h||_)=true;rw[ih];rfl
theorem zBz {fs:List Fl}{n r h x:Nat}(hx:x∈kn fs n r h):x<n:=jm.mp (jA.mp hx).1
theorem Wp (ns:List D)(fs:List Fl)(hi:∀ d∈ns,∃ i:Int,d=.int i)(r h:Nat)(hh:h<ns.length):∃ m:Int,oh ((kn fs ns.length r h).map λo=>ns.getD o .none)=Ga (.int m):=by
 have num:∀ a,a<ns.length->∃ i:Int,ns.getD a .none=.int i:=λa ha=>by
  obtain⟨i,e⟩:=hi _ (uJ ha);exact⟨i,by rw[jl,jh ha];exact e⟩
 have key:∀ l:List Nat,(∀ x∈l,x<ns.length)->∃ is:List Int,(l.map λo=>ns.getD o .none)=is.map jc/\is.length=l.length:=by
  intro l;induction l with
  | nil=>exact λ_=>⟨[],rfl,rfl⟩
  | cons a l ih =>
   intro hl;obtain⟨is,e1,e2⟩:=ih λx hx=>hl x (jj _ hx);obtain⟨i,e3⟩:=num a (hl a jf);exact⟨i::is,by rw[jB,jB,e1,e3],by rw[jL,jL,e2]⟩
 obtain⟨is,e1,e2⟩:=key (kn fs ns.length r h) λx hx=>zBz hx;have hpos:0<is.length:=by rw[e2];exact uP (Vd fs ns.length h hh r)
 match is,hpos,e1 with
 | i::is,_,e1 =>
  refine⟨is.foldl (λa b=>if b<a then b else a) i,?_⟩;rw[e1];unfold oh;rw[lQ,je];rfl
theorem QQ {f:FL}{ψ:En}{ns:List D}{fs:List Fl}{r h:Nat}(hf:f ψ=Ga (wc ns fs r h))(n5:ns.length<=5):fQ f (λ_=>Ga true) (fu eY (gv 0) (fZ (.int 1))) [] ψ=Ga ((kn fs ns.length r h).map λo=>ns.getD o .none):=by
 have hlen:(wc ns fs r h).length<=1000000:=by
  unfold wc kn;rw[jd];have:=k0 (λo=>Tf fs ns.length r h o) (jb ns.length);rw[jK] at this;omega
 refine(rY hf hlen).trans ((wM (F:=λd=>match d with|.tuple [_,x]=>x|_=>.none) (λd hd=>?_)).trans ?_)
 .obtain⟨o,_,rfl⟩:=jq.mp hd;rfl
 .unfold wc;rw[jT];rfl
theorem Vy (ns:List D)(fs:List Fl)(hi:∀ d∈ns,∃ i:Int,d=.int i)(n5:ns.length<=5)(r h:Nat)(hr:r<=4)(hh:h<ns.length){m:Int}(hm:oh ((kn fs ns.length r h).map λo=>ns.getD o .none)=Ga (.int m)):yM [vw ns fs r h]=Ga (.int m):=by
 have hk:=Ue ns fs hi n5 r h hr hh;show fK (IK [.val (vw ns fs r h)])=_;generalize vw ns fs r h=v at hk;unfold IK;have e:fQ (iK (fq Da (eU (gv 0) fN))) (λ_=>Ga true) (fu eY (gv 0) (fZ (.int 1))) [] [.val v]=Ga ((kn fs ns.length r h).map λo=>ns.getD o .none) :=
  QQ (KC ((iH (ds:=[v]) rfl).trans hk) rfl) n5
 exact(congrArg fK (mY ((DP e).trans hm))).trans rfl
theorem zBA:∀ (b0 b1 b2 b3 b4:Bool) (h:Fin 5),vT (mB b0 b1 b2 b3 b4) (2^h.val)=mB (b0||h.val==0) (b1||h.val==1) (b2||h.val==2) (b3||h.val==3) (b4||h.val==4):=by nofun
theorem OL (a:Sl):∀ (hs:List Int) (b0 b1 b2 b3 b4:Bool) (x:Sl),(∀ h∈hs,0<=h/\h<5) ->
  ∃ x',fY (gY 2) (fX 1 (fu xy (gv 1) (fq yH (eU (gv 2) fN)))) (hs.map jc) [a,.val (.int (mB b0 b1 b2 b3 b4)),x] =
   Ga (.nx [a,.val (.int (mB (b0||hs.contains 0) (b1||hs.contains 1) (b2||hs.contains 2) (b3||hs.contains 3) (b4||hs.contains 4))),x'])
 | [],b0,b1,b2,b3,b4,x,_=>⟨x,by simp only[vG,fY,List.contains_nil,vU]⟩
 | h::r,b0,b1,b2,b3,b4,x,hh=>by
  obtain⟨h0,h5⟩:=hh h jf;obtain⟨x',e⟩:=OL a r (b0||h.toNat==0) (b1||h.toNat==1) (b2||h.toNat==2) (b3||h.toNat==3) (b4||h.toNat==4) (.val (.int h)) (λy hy=>hh y (jj _ hy));refine⟨x',?_⟩;have hm:=zBA b0 b1 b2 b3 b4 ⟨h.toNat,by omega⟩;dsimp only at hm;have hb:(fu xy (gv 1) (fq yH (eU (gv 2) fN))) [a,.val (.int (mB b0 b1 b2 b3 b4)),.val (.int h)]=Ga (.int (mB (b0||h.toNat==0) (b1||h.toNat==1) (b2||h.toNat==2) (b3||h.toNat==3) (b4||h.toNat==4))) :=
   (nR (a:=.int (mB b0 b1 b2 b3 b4)) rfl ((iH rfl).trans (OZ h h0 (by omega)))).trans (congrArg (λz=>Ga (jc z)) hm)
  rw[jB];unfold fY;rw[show(gY 2 (jc h) [a,.val (.int (mB b0 b1 b2 b3 b4)),x])=Ga [a,.val (.int (mB b0 b1 b2 b3 b4)),.val (.int h)] from rfl,je,tH hb];refine e.trans ?_;have c:∀ k:Nat,((h.toNat==k)||r.contains (k:Int))=(h::r).contains (k:Int):=λk=>by
   rw[List.contains_cons]
   congr 1
   rw[jV,beq_iff_eq,beq_iff_eq];omega
  simp only[Bool.or_assoc];rw[show((h.toNat==0)||r.contains (0:Int))=_ from c 0,show((h.toNat==1)||r.contains (1:Int))=_ from c 1,show((h.toNat==2)||r.contains (2:Int))=_ from c 2,show((h.toNat==3)||r.contains (3:Int))=_ from c 3,show((h.toNat==4)||r.contains (4:Int))=_ from c 4];rfl
theorem OB (hs:List Int)(hh:∀ h∈hs,0<=h/\h<5):yD [.list (hs.map jc)]=Ga (.int (mB (hs.contains 0) (hs.contains 1) (hs.contains 2) (hs.contains 3) (hs.contains 4))):=by
 obtain⟨x',e⟩:=OL (.val (.list (hs.map jc))) hs false false false false false .no hh;simp only[Jh] at e;rw[show mB false false false false false=0 from rfl] at e;show fK (Ib [.val (.list (hs.map jc)),.no,.no])=_;unfold Ib;rw[lg (e:=[.val (.list (hs.map jc)),.val (.int 0),.no]) rfl,lg ((rW (ds:=hs.map jc) rfl).trans e)];rfl
theorem QR (n:Nat)(h5:n<=5)(p:Nat->Bool):yD [.list (((jb n).filter p).map λ(k:Nat)=>jc (k:Int))]=Ga (.int (mB (decide (0<n)&&p 0) (decide (1<n)&&p 1) (decide (2<n)&&p 2) (decide (3<n)&&p 3) (decide (4<n)&&p 4))):=by
 have e:(((jb n).filter p).map λ(k:Nat)=>jc (k:Int))=(((jb n).filter p).map λ(k:Nat)=>(k:Int)).map jc:=by rw[jT];rfl
 rw[e,OB _ (λh hh=>by
  obtain⟨k,hk,rfl⟩:=jq.mp hh;have:=jm.mp (jA.mp hk).1;omega)]
 have c:∀ j:Nat,(((jb n).filter p).map λ(k:Nat)=>(k:Int)).contains (j:Int)=(decide (j<n)&&p j):=λj=>by
  rw[jV,kr,jq,jo,decide_eq_true_eq];constructor
  .rintro⟨k,hk,z⟩;have:k=j:=by omega
   subst this;exact⟨jm.mp (jA.mp hk).1,(jA.mp hk).2⟩
  .rintro⟨h1,h2⟩;exact⟨j,jA.mpr ⟨jm.mpr h1,h2⟩,rfl⟩
 have c0:=c 0;have c1:=c 1;have c2:=c 2;have c3:=c 3;have c4:=c 4;rw[show(0:Int)=((0:Nat):Int) from rfl,show(1:Int)=((1:Nat):Int) from rfl,show(2:Int)=((2:Nat):Int) from rfl,show(3:Int)=((3:Nat):Int) from rfl,show(4:Int)=((4:Nat):Int) from rfl,c0,c1,c2,c3,c4]
def hd (fs:List Fl)(h:Nat)(r:Nat)(o:Nat):Bool:=decide (o=h)||cm fs o h (r:Int)
def mH (n:Nat)(p:Nat->Bool):Int:=mB (decide (0<n)&&p 0) (decide (1<n)&&p 1) (decide (2<n)&&p 2) (decide (3<n)&&p 3) (decide (4<n)&&p 4)
theorem RM (ns:List D)(fs:List Fl)(r h:Nat):gS (vw ns fs r h) .none=Ga (.bool true)/\iP (vw ns fs r h) .none=Ga (.bool false):=by
 cases r with
 | zero=>exact⟨rfl,rfl⟩
 | succ r=>exact⟨rfl,rfl⟩
theorem Vt {ns:List D}{fs:List Fl}{r h o:Nat}(ho:o<ns.length):eY (.tuple ((jb ns.length).map λo=>if o=h\/cm fs o h ((r+1:Nat):Int)=true then vw ns fs r o else .none)) (.int o)=Ga (if hd fs h (r+1) o=true then vw ns fs r o else .none):=by
 refine yv ?_;rw[jw,kX ho,uU];refine congrArg Ga ?_;unfold hd;by_cases q:o=h\/cm fs o h ((r+1:Nat):Int)=true
 .rw[Ge q,Ge (by rw[j5,decide_eq_true_eq];exact q)]
 .rw[Gf q,Gf (by rw[j5,decide_eq_true_eq];exact q)]
theorem Sa (ns:List D)(fs:List Fl)(r h:Nat):fU (.tuple ((jb ns.length).map λo=>if o=h\/cm fs o h ((r+1:Nat):Int)=true then vw ns fs r o else .none))=Ga (.int ns.length):=by
 show Ga (jc ((List.map _ (jb ns.length)).length:Nat))=_;rw[jd,jK]
theorem WK (ns:List D)(fs:List Fl)(h5:ns.length<=5)(r h:Nat):AE [vw ns fs (r+1) h]=Ga (.int (mH ns.length (λo=>!hd fs h (r+1) o))):=by
 show fK (Fb [.val (vw ns fs (r+1) h),.no])=_;have hg:=λo (ho:o<ns.length)=>Vt (ns:=ns) (fs:=fs) (r:=r) (h:=h) ho;have hl:=Sa ns fs r h;unfold vw;generalize kW ((jb ns.length).map λo=>if o=h\/cm fs o h ((r+1:Nat):Int)=true then vw ns fs r o else vX)=P at hg hl;unfold Fb;rw[lg (e:=[.val (.tuple [.int h,P]),.val P]) rfl];have ec:fQ (iw gf (un fU (gv 1))) (gM iP (fu eY (gv 1) (gv 0)) (fZ .none)) (gv 0) [1] [.val (.tuple [.int h,P]),.val P]=Ga (((jb ns.length).filter (λo=>!hd fs h (r+1) o)).map λ(k:Nat)=>jc (k:Int)):=by
  refine(rY (ds:=gT 0 ns.length) ((sZ (a:=.int ns.length) ((so (a:=P) rfl).trans hl)).trans (pL (by omega))) (by rw[ww];omega)).trans ((As (p:=λd=>match d with|.int t=>!hd fs h (r+1) t.toNat|_=>false) (F:=id) (λd hd'=>?_) (λd hd' _=>rfl)).trans ?_)
  .rw[mV] at hd';obtain⟨o,ho,rfl⟩:=jq.mp hd';have ho':=jm.mp ho;show gM _ _ _ [.val (.int o),.val P]=Ga (!hd fs h (r+1) (o:Int).toNat);rw[jR];refine pR ((nR (a:=P) (b:=.int o) rfl rfl).trans (hg o ho')) rfl ?_;cases hd fs h (r+1) o with
   | true=>rw[Ge rfl];exact(RM ns fs r o).2
   | false=>rw[Gf jv];rfl
  .rw[mV,vj,jT];rfl
 rw[mY (d:=.int (mH ns.length (λo=>!hd fs h (r+1) o))) ((iH (ds:=[.list (((jb ns.length).filter (λo=>!hd fs h (r+1) o)).map λ(k:Nat)=>jc (k:Int))]) (yF (tK ec) rfl)).trans (QR _ h5 _))];rfl
def cf (c0 c1 c2 c3 c4:Bool)(k:Nat):Bool:=match k with|0=>c0|1=>c1|2=>c2|3=>c3|4=>c4|_=>false
theorem Tt:∀ b0 b1 b2 b3 b4 c0 c1 c2 c3 c4:Bool,vT (mB b0 b1 b2 b3 b4) (mB c0 c1 c2 c3 c4)=mB (b0||c0) (b1||c1) (b2||c2) (b3||c3) (b4||c4):=by nofun
theorem AC (a b c:Bool):(a&&b||a&&c)=(a&&(b||c)):=by cases a<;>rfl
theorem zBB (n:Nat)(p q:Nat->Bool):vT (mH n p) (mH n q)=mH n λo=>p o||q o:=by
 unfold mH;rw[Tt,AC,AC,AC,AC,AC]
theorem zY (n:Nat)(p q:Nat->Bool)(h:∀ o,o<n->p o=q o):mH n p=mH n q:=by
 have e:∀ k,(decide (k<n)&&p k)=(decide (k<n)&&q k):=λk=>by
  by_cases hk:k<n
  .rw[h k hk]
  .rw[Gd hk];rfl
 unfold mH;rw[e 0,e 1,e 2,e 3,e 4]
theorem VR (n:Nat):mH n (λ_=>false)=0:=by
 unfold mH;rw[uy,uy,uy,uy,uy];rfl
noncomputable def tr (P:Prop):Bool:=@decide P (uh P)
theorem sS {P:Prop}:tr P=true↔P:=by unfold tr;exact @decide_eq_true_iff P (uh P)
theorem Uj {P Q:Prop}(h:P↔Q):tr P=tr Q:=by rw[jV,sS,sS];exact h
def Lq (fs:List Fl)(n r h q x:Nat):Prop:=∃ o,Rb fs n r h (r-(q+1)) o/\hd fs o (q+1) x=false
def Lk (fs:List Fl)(n r h k x:Nat):Prop:=∃ q,q<k/\q<r/\Lq fs n r h q x
theorem SF (Ls:List D)(r k:Nat)(hl:Ls.length=r+1)(hk:k<=r+1):tW Ls (Ga 1) (Ga ((k:Int)+1))=(jb (min k r)).map λj=>Ls.getD (j+1) .none:=by
 have s1:HT.sIx Ls.length 0 (Ga 1)=1:=by rw[hl];exact(HT.sIx_nat (r+1) 0 1).trans (by omega)
 have s2:HT.sIx Ls.length Ls.length (Ga ((k:Int)+1))=min (k+1) (r+1):=by rw[hl,show(k:Int)+1=((k+1:Nat):Int) by omega];exact HT.sIx_nat _ _ _
 unfold tW;rw[s1,s2];refine List.ext_getElem? λi=>?_;rw[List.getElem?_take,List.getElem?_drop,jw];by_cases hi:i<min k r
 .rw[Ge (by omega),kX hi,uU,jl,show 1+i=i+1 by omega,jh (show i+1<Ls.length by omega)];rfl
 .rw[Gf (by omega),kq (by rw[jK];omega)];rfl
theorem Tl (ns:List D)(fs:List Fl)(hi:∀ d∈ns,∃ i:Int,d=.int i)(n5:ns.length<=5)(r h k:Nat)(hr:r<=4)(hh:h<ns.length)(hk:k<=r+1):rT [vw ns fs r h,.int k]=Ga (.int (mH ns.length λx=>tr (Lk fs ns.length r h k x))):=by
 obtain⟨Ls,e1,hl,hL⟩:=NX ns fs hi n5 r h hr hh;show fK (Fi [.val (vw ns fs r h),.val (.int k),.no,.no,.no])=_;generalize vw ns fs r h=v at e1;have Lp:=yr (t:=gY 3) (g:=iC (iK (gv 3)) (gY 4) (fX 2 (fu xy (gv 2) (fq AE (eU (gv 4) fN))))) (λ(j:Nat)=>Ls.getD (j+1) .none)
  (λpre ψ=>∃ (x3 x4:Sl),ψ=[.val v,.val (.int k),.val (.int (mH ns.length λx=>tr (∃ q∈pre,Lq fs ns.length r h q x))),x3,x4])
  (jb (min k r)) (by
   intro pre q suf hx ψ hI;obtain⟨x3,x4,rfl⟩:=hI;have hq:q<min k r:=jm.mp (by rw[hx];exact jH _ jf);obtain⟨d,hdd,A,rfl,nA,lA,mA⟩:=hL (q+1) (by omega);have eg:Ls.getD (q+1) .none=.list (A.map (vw ns fs (q+1))):=by
    rw[jl,hdd,show r-(r-(q+1))=q+1 by omega];rfl
   rw[eg];refine⟨[.val v,.val (.int k),.val (.int (mH ns.length λx=>tr (∃ q∈pre,Lq fs ns.length r h q x))),.val (.list (A.map (vw ns fs (q+1)))),x4],?_⟩;have Lr:=yr (t:=gY 4) (g:=fX 2 (fu xy (gv 2) (fq AE (eU (gv 4) fN)))) (vw ns fs (q+1))
    (λpr ψ=>∃ (x4:Sl),ψ=[.val v,.val (.int k),.val (.int (mH ns.length λx=>tr (∃ q∈pre,Lq fs ns.length r h q x)||tr (∃ o∈pr,hd fs o (q+1) x=false))),.val (.list (A.map (vw ns fs (q+1)))),x4])
    A (by
     intro pr o sf hy ψ hI;obtain⟨x4,rfl⟩:=hI;refine⟨[.val v,.val (.int k),.val (.int (mH ns.length λx=>tr (∃ q∈pre,Lq fs ns.length r h q x)||tr (∃ o∈pr,hd fs o (q+1) x=false))),.val (.list (A.map (vw ns fs (q+1)))),.val (vw ns fs (q+1) o)],_,rfl,tH ((nR (a:=.int (mH ns.length λx=>tr (∃ q∈pre,Lq fs ns.length r h q x)||tr (∃ o∈pr,hd fs o (q+1) x=false))) (b:=.int (mH ns.length λx=>!hd fs o (q+1) x)) rfl ((iH (ds:=[vw ns fs (q+1) o]) rfl).trans (WK ns fs n5 q o))).trans (congrArg (λz=>Ga (jc z)) ((zBB _ _ _).trans (zY _ _ _ λx hx=>?_)))),_,rfl⟩;rw[Bool.or_assoc];refine congrArg (tr (∃ q∈pre,Lq fs ns.length r h q x)||·) ?_;rw[jV,j5,sS,sS,ui];constructor
     .rintro(⟨o',z1,z2⟩|z)
      .exact⟨o',uC _ z1,z2⟩
      .exact⟨o,jH _ jf,z⟩
     .rintro⟨o',z1,z2⟩;rcases kc.mp z1 with z1|z1
      .exact .inl ⟨o',z1,z2⟩
      .rw[jp.mp z1] at z2;exact .inr z2)
    A [] [.val v,.val (.int k),.val (.int (mH ns.length λx=>tr (∃ q∈pre,Lq fs ns.length r h q x))),.val (.list (A.map (vw ns fs (q+1)))),x4] rfl ⟨x4,by
     rw[zY ns.length (λx=>tr (∃ q∈pre,Lq fs ns.length r h q x)) (λx=>tr (∃ q∈pre,Lq fs ns.length r h q x)||tr (∃ o∈([]:List Nat),hd fs o (q+1) x=false)) λx _=>?_];rw[show tr (∃ o∈([]:List Nat),hd fs o (q+1) x=false)=false from(by rw[<- ua,sS];rintro⟨_,z,_⟩;cases z),vU]⟩
   obtain⟨e,e2,y4,rfl⟩:=Lr;refine⟨_,rfl,(rW (ds:=A.map (vw ns fs (q+1))) rfl).trans e2,.val (.list (A.map (vw ns fs (q+1)))),y4,?_⟩;rw[zY ns.length (λx=>tr (∃ q∈pre,Lq fs ns.length r h q x)||tr (∃ o∈A,hd fs o (q+1) x=false)) (λx=>tr (∃ q'∈pre++[q],Lq fs ns.length r h q' x)) λx hx=>?_];rw[jV,j5,sS,sS,sS];constructor
   .rintro(⟨q',z1,z2⟩|⟨o,z1,z2⟩)
    .exact⟨q',uC _ z1,z2⟩
    .exact⟨q,jH _ jf,o,(mA o).mp z1,z2⟩
   .rintro⟨q',z1,z2⟩;rcases kc.mp z1 with z1|z1
    .exact .inl ⟨q',z1,z2⟩
    .rw[jp.mp z1] at z2;obtain⟨o,z3,z4⟩:=z2;exact .inr ⟨o,(mA o).mpr z3,z4⟩)
  (jb (min k r)) [] [.val v,.val (.int k),.val (.int 0),.no,.no] rfl ⟨.no,.no,by
   rw[zY ns.length (λx=>tr (∃ q∈([]:List Nat),Lq fs ns.length r h q x)) (λ_=>false) λx _=>?_,VR];rw[<- ua,sS];rintro⟨_,z,_⟩;cases z⟩
 obtain⟨e,e2,x3,x4,rfl⟩:=Lp;unfold Fi;rw[lg (e:=[.val v,.val (.int k),.val (.int 0),.no,.no]) rfl];have es:FE (fq wD (eU (gv 0) fN)) (tP (fZ (.int 1))) (tP (fu ge (gv 1) (fZ (.int 1)))) [.val v,.val (.int k),.val (.int 0),.no,.no]=Ga (.list ((jb (min k r)).map λ(j:Nat)=>Ls.getD (j+1) .none)):=by
  have el:fq wD (eU (gv 0) fN) [.val v,.val (.int k),.val (.int 0),.no,.no]=Ga (.list Ls):=(iH (ds:=[v]) rfl).trans e1;unfold FE;rw[el,<- SF Ls r k hl hk];rfl
 rw[lg ((rW (KC es rfl)).trans e2)];show Ga (jc (mH ns.length λx=>tr (∃ q∈jb (min k r),Lq fs ns.length r h q x)))=_;refine congrArg (λz=>Ga (jc z)) (zY _ _ _ λx _=>Uj ?_);constructor
 .rintro⟨q,z1,z2⟩;have:=jm.mp z1;exact⟨q,by omega,by omega,z2⟩
 .rintro⟨q,z1,z2,z3⟩;exact⟨q,jm.mpr (by omega),z3⟩
def pr (x b:Nat):D:=.tuple [.int (x:Int),.int (b:Int)]
theorem KO (ns:List D)(fs:List Fl)(h:Nat)(hh:h<ns.length)(b:Sl):∀ (ds:List D) (r:Nat) (x:Sl),ds.length<=r->∃ x',fY (gY 2) (fX 0 (fq yZ (eU (gv 0) fN))) ds [.val (vw ns fs r h),b,x]=Ga (.nx [.val (vw ns fs (r-ds.length) h),b,x'])
 | [],r,x,_=>⟨x,rfl⟩
 | d::ds,r,x,hl=>by
  rw[jL] at hl ⊢;obtain⟨r',rfl⟩:∃ r',r=r'+1:=⟨r-1,by omega⟩;obtain⟨x',e⟩:=KO ns fs h hh b ds r' (.val d) (by omega);refine⟨x',?_⟩;unfold fY;rw[show gY 2 d [.val (vw ns fs (r'+1) h),b,x]=Ga [.val (vw ns fs (r'+1) h),b,.val d] from rfl,je];rw[tH (d:=vw ns fs r' h) ((iH (ds:=[vw ns fs (r'+1) h]) rfl).trans (My ns fs r' h hh))];rw[show r'+1-(ds.length+1)=r'-ds.length by omega];exact e
theorem Nx (ns:List D)(fs:List Fl)(hi:∀ d∈ns,∃ i:Int,d=.int i)(r q h:Nat)(hh:h<ns.length)(hr:r<100)(hq:q<=r):yo [vw ns fs r h,.int q]=Ga (vw ns fs q h):=by
 show fK (IM [.val (vw ns fs r h),.val (.int q),.no])=_;unfold IM;have er:iw gf (fu iz (fq oo (eU (gv 0) fN)) (gv 1)) [.val (vw ns fs r h),.val (.int q),.no]=Ga (gT 0 (r-q)):=by
  refine(sZ (a:=.int ((r-q:Nat):Int)) ((nR (a:=.int r) (b:=.int q) ((iH (ds:=[vw ns fs r h]) rfl).trans (AH ns fs hi r h hh hr)) rfl).trans ?_)).trans (pL (by omega));show Ga (jc ((r:Int)-q))=_;rw[show(r:Int)-q=((r-q:Nat):Int) by omega]
 obtain⟨x',e⟩:=KO ns fs h hh (.val (.int q)) (gT 0 (r-q)) r .no (by rw[ww];omega);rw[ww,show r-(r-q)=q by omega] at e;rw[lg ((rW er).trans e)];rfl
theorem CM {α:Type}{fc:FB}{fe:FV}{base:En}(f:α->D)(p:α->Bool)(F:α->D):∀ {l:List α},(∀ a∈l,fc (.val (f a)::base)=Ga (p a))->(∀ a∈l,p a=true->fe (.val (f a)::base)=Ga (F a))->iq fc fe base (l.map f)=Ga ((l.filter p).map F)
 | [],_,_=>rfl
 | x::r,h1,h2=>by
  have ih:=CM (fc:=fc) (fe:=fe) (base:=base) f p F (l:=r) (λa ha=>h1 a (jj _ ha)) (λa ha=>h2 a (jj _ ha));rw[jB];unfold iq;rw[h1 x jf,je];cases c:p x with
  | true=>rw[Ge rfl,h2 x jf c,je,ih,kg c];rfl
  | false=>rw[Gf jv,ih,kh (by rw[c];exact jv)]
theorem Pa {α:Type}{fe:FV}{base:En}(f:α->D)(F:α->D){l:List α}(h2:∀ a∈l,fe (.val (f a)::base)=Ga (F a)):iq (λ_=>Ga true) fe base (l.map f)=Ga (l.map F):=by
 rw[CM (fc:=λ_=>Ga true) f (λ_=>true) F (λ_ _=>rfl) (λa ha _=>h2 a ha)];rw[List.filter_eq_self.mpr (λ_ _=>rfl)]
def zZ (fs:List Fl)(n:Nat):Nat->Nat->Nat->Nat->Prop
 | 0,_,_,_=>False
 | r+1,h,k,x=>(hd fs h (r+1) x=false/\r+1<=k)\/∃ b,b<n/\hd fs h (r+1) b=true/\zZ fs n r b k x
theorem Hj (fs:List Fl)(n r h k x:Nat)(hh:h<n):∀ j,j<=r->((∃ o,Rb fs n r h (r-j) o/\zZ fs n j o k x)↔∃ q,q<k/\q<j/\Lq fs n r h q x)
 | 0,_=>⟨λ⟨o,_,z⟩=>z.elim,λ⟨q,_,z,_⟩=>absurd z (v5 _)⟩
 | j+1,hj=>by
  have ih:=Hj fs n r h k x hh j (by omega);have e1:r-j=r-(j+1)+1:=by omega
  have e2:r-(r-(j+1))=j+1:=by omega
  constructor
  .rintro⟨o,z1,z2|⟨b,z3,z4,z5⟩⟩
   .exact⟨j,by omega,by omega,o,z1,z2.1⟩
   .obtain⟨q,w1,w2,w3⟩:=ih.mp ⟨b,by
     rw[e1];refine⟨z3,o,z1,?_⟩;rw[e2];unfold hd at z4;rw[j5,decide_eq_true_eq] at z4;exact z4,z5⟩
    exact⟨q,w1,by omega,w3⟩
  .rintro⟨q,w1,w2,w3⟩;by_cases e:q=j
   .subst e;obtain⟨o,z1,z2⟩:=w3;exact⟨o,z1,.inl ⟨z2,by omega⟩⟩
   .obtain⟨b,z1,z2⟩:=ih.mpr ⟨q,w1,by omega,w3⟩;rw[e1] at z1;obtain⟨z3,o,z4,z5⟩:=z1;rw[e2] at z5;refine⟨o,z4,.inr ⟨b,z3,?_,z2⟩⟩;unfold hd;rw[j5,decide_eq_true_eq];exact z5
theorem MV (fs:List Fl)(n r h k x:Nat)(hh:h<n):Lk fs n r h k x↔zZ fs n r h k x:=by
 have:=Hj fs n r h k x hh r (jr _);rw[qH] at this;exact this.symm.trans ⟨λ⟨o,z1,z2⟩=>by rw[show o=h from z1] at z2;exact z2,λz=>⟨h,rfl,z⟩⟩
def pt (ns:List D)(fs:List Fl)(r h o:Nat):D:=if hd fs h (r+1) o=true then vw ns fs r o else .none
theorem Dk (ns:List D)(fs:List Fl)(r h:Nat):∃ ds,vw ns fs r h=.tuple ds:=by cases r<;>exact⟨_,rfl⟩
theorem lQ (l:List Int):iZ (l.map jc)=Ga l:=by
 induction l with
 | nil=>rfl
 | cons i r ih=>rw[jB];show(iZ (r.map jc)).bind _=_;rw[ih];rfl
def hl (n:Nat)(p:Nat->Bool):List D:=(jb n).map λo=>.bool (p o)
def su (fs:List Fl)(h:Nat):D:=match md fs h with|some f=>fd f|none=>.none
theorem La (a:Sl)(h:Nat):∀ (fs:List Fl) (x:Sl),
  (md fs h=Gb->∃ x',fY (gY 2) (lY (gM gz (fu eY (gv 2) (fZ (.int 0))) (gv 1)) (gI (gv 2)) mX) (fs.map fd) [a,.val (.int h),x]=Ga (.nx [a,.val (.int h),x'])) /\
  (∀ f,md fs h=Ga f->fY (gY 2) (lY (gM gz (fu eY (gv 2) (fZ (.int 0))) (gv 1)) (gI (gv 2)) mX) (fs.map fd) [a,.val (.int h),x]=Ga (.rt (fd f)))
 | [],x=>⟨λ_=>⟨x,rfl⟩,λf e=>by cases e⟩
 | f::r,x=>by
  obtain⟨i1,i2⟩:=La a h r (.val (fd f));have hc:gM gz (fu eY (gv 2) (fZ (.int 0))) (gv 1) (frz [a,.val (.int h),.val (fd f)])=Ga (f.h==h):=pR (x:=.int f.h) (y:=.int h) rfl rfl (eqH f h);by_cases hh:(f.h==h)=true
  .have ef:md (f::r) h=Ga f:=by unfold md;exact kB (p:=λ(f:Fl)=>f.h==h) hh
   rw[ef];refine⟨λe=>by(cases e),λf' e=>?_⟩;cases e;rw[jB];unfold fY;rw[show gY 2 (fd f) [a,.val (.int h),x]=Ga [a,.val (.int h),.val (fd f)] from rfl,je,sL (hc.trans (congrArg Ga hh))];rfl
  .have ef:md (f::r) h=md r h:=by unfold md;exact kC (p:=λ(f:Fl)=>f.h==h) hh
   have hf:(f.h==h)=false:=by cases hq:(f.h==h) with|true=>exact absurd hq hh|false=>rfl
   have st:∀ o,fY (gY 2) (lY (gM gz (fu eY (gv 2) (fZ (.int 0))) (gv 1)) (gI (gv 2)) mX) (r.map fd) [a,.val (.int h),.val (fd f)]=o->fY (gY 2) (lY (gM gz (fu eY (gv 2) (fZ (.int 0))) (gv 1)) (gI (gv 2)) mX) ((f::r).map fd) [a,.val (.int h),x]=o:=by
    intro o e;rw[jB];rw[show ∀ t g d (ds:List D) ψ,fY t g (d::ds) ψ=(t d ψ).bind λe1=>(g e1).bind λo=>match o with|.nx e=>fY t g ds e|.ct e=>fY t g ds e|.bk e=>Ga (.nx e)|.rt d=>Ga (.rt d)|.ro ds=>Ga (.ro ds)|.rm a k=>Ga (.rm a k)|.rc d e=>Ga (.rc d e) from λ_ _ _ _ _=>rfl];rw[show gY 2 (fd f) [a,.val (.int h),x]=Ga [a,.val (.int h),.val (fd f)] from rfl,je,ss (hc.trans (congrArg Ga hf))];exact e
   rw[ef];exact⟨λe=>by obtain⟨x',e'⟩:=i1 e;exact⟨x',st _ e'⟩,λf' e=>st _ (i2 f' e)⟩
theorem DY (ns:List D)(fs:List Fl)(h:Nat):yB [rd ns fs,.int h]=Ga (su fs h):=by
 obtain⟨i1,i2⟩:=La (.val (rd ns fs)) h fs .no;show fK (DQ [.val (rd ns fs),.val (.int h),.no])=_;unfold DQ su;cases e:md fs h with
 | none =>
  obtain⟨x',e'⟩:=i1 e;rw[lg ((rW (ds:=fs.map fd) rfl).trans e')];rfl
 | some f=>rw[yV ((rW (ds:=fs.map fd) rfl).trans (i2 f e))];rfl
theorem Of (ns:List D)(fs:List Fl)(h:Nat)(r:Int):yK [rd ns fs,.int h,.int r]=Ga (.bool (up fs h r)):=by
 show fK (GB [.val (rd ns fs),.val (.int h),.val (.int r),.no])=_;unfold GB;rw[lg (e:=[.val (rd ns fs),.val (.int h),.val (.int r),.val (su fs h)]) (tH ((iH (ds:=[rd ns fs,.int h]) rfl).trans (DY ns fs h)))];unfold su up;cases md fs h<;>rfl
theorem EH (ns:List D)(fs:List Fl):tN [rd ns fs]=Ga (.int ns.length):=rfl
theorem Mi (ns:List D)(fs:List Fl)(r:Int)(hn:ns.length<=5):AI [rd ns fs,.int r]=Ga (((jb ns.length).filter λh=>up fs h r).map λ(h:Nat)=>jc (h:Int)):=by
 show pV (HS [.val (rd ns fs),.val (.int r)])=_;have ei:(iw gf (fq tN (eU (gv 0) fN))) [.val (rd ns fs),.val (.int r)]=Ga (gT 0 ns.length) :=
  (sZ (a:=.int ns.length) ((iH (ds:=[rd ns fs]) rfl).trans (EH ns fs))).trans (pL (by omega))
 have e:=Nb ((rY (fc:=lF (fq yK (eU (gv 2) (eU (gv 0) (eU (gv 1) fN))))) (fe:=gv 0) (ix:=[1,0]) ei (by rw[ww];omega)).trans (As (p:=λd=>match d with|.int h=>up fs h.toNat r|_=>false) (F:=id) (λd hd=>by
  rw[mV] at hd;obtain⟨k,hk,rfl⟩:=jq.mp hd;exact wJ ((iH (ds:=[rd ns fs,.int (k:Int),.int r]) rfl).trans (Of _ _ _ _)) rfl) (λd hd _=>rfl)))
 unfold HS;rw[e,KQ,mV,vj,jT];rfl
theorem zuK:∀ (m:Fin 32) (h:Fin 5),(!(uI (m.val:Int) (2^h.val)==0))=decide ((m.val:Int)/(2^h.val)%2=1):=by nofun
theorem Na (m h:Nat)(hm:m<32)(hh:h<5):rH [.int m,.int h]=Ga (.bool (decide ((m:Int)/(2^h)%2=1))):=by
 rw[Og _ _ (by omega) (by omega),jR];exact congrArg (λb=>Ga (j3 b)) (zuK ⟨m,hm⟩ ⟨h,hh⟩)
def Cf (fs:List Fl)(b t:Nat)(at_:Int):Bool :=
 if b=t then false else if up fs t at_=false then false else match md fs b with
  | none=>true
  | some f=>if at_<f.a then true else decide (f.a=at_)&&decide ((f.m:Int)/(2^t)%2=1)
theorem Rp (ns:List D)(fs:List Fl)(b t:Nat)(at_:Int)(G:gu ns.length fs)(ht:t<ns.length):Bq [rd ns fs,.int b,.int t,.int at_]=Ga (.bool (Cf fs b t at_)):=by
 have h5:=G.n5;show fK (Gy [.val (rd ns fs),.val (.int b),.val (.int t),.val (.int at_),.no])=_;unfold Gy;have c1:gM gz (gv 1) (gv 2) (frz [.val (rd ns fs),.val (.int b),.val (.int t),.val (.int at_),.no])=Ga (decide (b=t)):=by
  refine pR (x:=.int b) (y:=.int t) rfl rfl ((xk _ _).trans ?_)
  congr 2;rw[jV,beq_iff_eq,decide_eq_true_eq];omega
 have c2:tZ (lF (fq yK (eU (gv 0) (eU (gv 2) (eU (gv 3) fN))))) (frz [.val (rd ns fs),.val (.int b),.val (.int t),.val (.int at_),.no])=Ga (!(up fs t at_)) :=
  Gw (wJ ((iH (ds:=[rd ns fs,.int t,.int at_]) rfl).trans (Of _ _ _ _)) rfl)
 unfold Cf;by_cases hbt:b=t
 .rw[Ge hbt,yV ((sL (BO (c1.trans (congrArg Ga (Gc hbt))))).trans (mY rfl))];rfl
 rw[Gf hbt];by_cases hu:up fs t at_=false
 .rw[Ge hu,yV ((sL ((wa (c1.trans (congrArg Ga (Gd hbt)))).trans (c2.trans (by rw[hu];rfl)))).trans (mY rfl))];rfl
 rw[Gf hu];have hu':up fs t at_=true:=by cases h:up fs t at_ with|true=>rfl|false=>exact absurd h hu
 rw[lg (ss ((wa (c1.trans (congrArg Ga (Gd hbt)))).trans (c2.trans (by rw[hu'];rfl))))];rw[lg (e:=[.val (rd ns fs),.val (.int b),.val (.int t),.val (.int at_),.val (su fs b)]) (tH ((iH (ds:=[rd ns fs,.int b]) rfl).trans (DY ns fs b)))];unfold su;cases e:md fs b with
 | none=>rw[yV ((sL (BO (pR (x:=.none) (y:=.none) rfl rfl rfl))).trans (mY rfl))];rfl
 | some f =>
  have hm:=G.mb f (yJ e).1;dsimp only;have d1:gM iP (gv 4) (fZ .none) (frz [.val (rd ns fs),.val (.int b),.val (.int t),.val (.int at_),.val (fd f)])=Ga false:=pR (x:=fd f) (y:=.none) rfl rfl rfl;have d2:gM Ak (fu eY (gv 4) (fZ (.int 1))) (gv 3) (frz [.val (rd ns fs),.val (.int b),.val (.int t),.val (.int at_),.val (fd f)])=Ga (decide (at_<f.a)):=pR (x:=.int f.a) (y:=.int at_) rfl rfl rfl;by_cases hl:at_<f.a
  .rw[Ge hl,yV ((sL ((wa d1).trans (d2.trans (congrArg Ga (Gc hl))))).trans (mY rfl))];rfl
  rw[Gf hl,lg (ss ((wa d1).trans (d2.trans (congrArg Ga (Gd hl)))))];have d3:fu gz (fu eY (gv 4) (fZ (.int 1))) (gv 3) [.val (rd ns fs),.val (.int b),.val (.int t),.val (.int at_),.val (fd f)]=Ga (.bool (decide (f.a=at_))):=by
   refine(nR (a:=.int f.a) (b:=.int at_) rfl rfl).trans ((xk _ _).trans ?_)
   congr 2
  have d4:fq rH (eU (fu eY (gv 4) (fZ (.int 2))) (eU (gv 2) fN)) [.val (rd ns fs),.val (.int b),.val (.int t),.val (.int at_),.val (fd f)]=Ga (.bool (decide ((f.m:Int)/(2^t)%2=1))) :=
   (iH (ds:=[.int f.m,.int t]) rfl).trans (Na _ _ hm (by omega))
  rw[mY (d:=.bool (decide (f.a=at_)&&decide ((f.m:Int)/(2^t)%2=1))) ?_]
  .rfl
  .show((fu gz (fu eY (gv 4) (fZ (.int 1))) (gv 3) [.val (rd ns fs),.val (.int b),.val (.int t),.val (.int at_),.val (fd f)]).bind iy).bind _=_;rw[d3,je,show iy (.bool (decide (f.a=at_)))=Ga (decide (f.a=at_)) from rfl,je];cases decide (f.a=at_) with
   | false=>rfl
   | true=>exact d4
def oI (ns:List D)(fs:List Fl)(r h:Nat):D:=if up fs h r=true then vw ns fs r h else .none
def vL (ns:List D)(fs:List Fl)(r:Nat):List D:=(jb ns.length).map λh=>oI ns fs r h
theorem Ih (ns:List D)(fs:List Fl)(r:Nat):(vL ns fs r).length=ns.length:=by unfold vL;rw[jd,jK]
theorem NU {ns:List D}{fs:List Fl}{r h:Nat}(hh:h<ns.length):eY (.list (vL ns fs r)) (.int h)=Ga (oI ns fs r h):=by
 refine yv ?_;unfold vL;rw[jw,kX hh];rfl
theorem Ym {fs:List Fl}{h:Nat}{r r':Int}(hr:r<=r')(u:up fs h r'=true):up fs h r=true:=by
 unfold up at u ⊢;cases e:md fs h with
 | none=>rfl
 | some f=>rw[e] at u;dsimp only at u ⊢;rw[decide_eq_true_eq] at u ⊢;omega
theorem GI:∀ {fs:List Fl},(fs.map Fl.h).Nodup->∀ {f g:Fl},f∈fs->g∈fs->f.h=g.h->f=g
 | [],_,f,g,hf,_,_=>by cases hf
 | x::r,nd,f,g,hf,hg,e=>by
  rw[jB,jJ] at nd;rcases jx.mp hf with z|z
  .rcases jx.mp hg with w|w
   .exact z.trans w.symm
   .exact absurd (jq.mpr ⟨g,w,by rw[<- e,z]⟩) nd.1
  .rcases jx.mp hg with w|w
   .exact absurd (jq.mpr ⟨f,z,by rw[e,w]⟩) nd.1
   .exact GI nd.2 z w e
theorem Wr {n:Nat}{fs:List Fl}(G:gu n fs){o h:Nat}{r:Nat}(c:cm fs o h ((r+1:Nat):Int)=true):up fs o r=true:=by
 rw[sV G] at c;rw[nD G];intro f hf e;have:=((c f hf).2 e).1;omega
theorem Vh {n:Nat}{fs:List Fl}(G:gu n fs){b t:Nat}{r:Int}(q:¬b=t):Cf fs b t r=cm fs b t r:=by
 rw[jV,sV G];unfold Cf;rw[Gf q];have us:=nD G t r;cases u:up fs t r with
 | false =>
  rw[Ge rfl];constructor
  .intro z;cases z
  .intro z;have:=us.mpr λf hf e=>(z f hf).1 e;rw[u] at this;cases this
 | true =>
  rw[Gf (by decide)];have ut:=us.mp u;cases e:md fs b with
  | none =>
   refine⟨λ_ f hf=>⟨ut f hf,λeb=>?_⟩,λ_=>rfl⟩;have:=uz.mp e f hf;rw[eb] at this;exact absurd (beq_self_eq_true b) this
  | some f0 =>
   obtain⟨m0,e0⟩:=yJ e;dsimp only;constructor
   .intro z f hf;refine⟨ut f hf,λeb=>?_⟩;have:f=f0:=GI G.nd hf m0 (eb.trans e0.symm);subst this;split at z
    .exact⟨by omega,λw=>by omega⟩
    .rw[jo,decide_eq_true_eq] at z;exact⟨by omega,λ_=>z.2⟩
   .intro z;have z:=(z f0 m0).2 e0;split
    .rfl
    .have:f0.a=r:=by omega
     rw[Gc this,Jj];exact z.2 this
theorem zm {c:FB}{f g:FV}{ψ:En}{b:Bool}(h:c ψ=Ga b):xq c f g ψ=if b then f ψ else g ψ:=by show(c ψ).bind _=_;rw[h];rfl
theorem RY (ns:List D)(fs:List Fl)(G:gu ns.length fs)(r h:Nat)(hh:h<ns.length)(u:up fs h ((r+1:Nat):Int)=true) :
  CL [rd ns fs,.list (vL ns fs r),.int h,.int ((r+1:Nat):Int)]=Ga (vw ns fs (r+1) h):=by
 have h5:=G.n5;show fK (HZ [.val (rd ns fs),.val (.list (vL ns fs r)),.val (.int h),.val (.int ((r+1:Nat):Int)),.no])=_;unfold HZ;have el:un fU (gv 1) [.val (rd ns fs),.val (.list (vL ns fs r)),.val (.int h),.val (.int ((r+1:Nat):Int)),.no]=Ga (.int ns.length):=by
  rw[so (a:=.list (vL ns fs r)) rfl];show Ga (jc ((vL ns fs r).length:Nat))=_;rw[Ih]
 have ec:fQ (iw gf (un fU (gv 1))) (λ_=>Ga true) (xq (wP (gM gz (gv 0) (gv 2)) (lF (fq Bq (eU (gv 3) (eU (gv 0) (eU (gv 2) (eU (gv 1) fN))))))) (fu eY (gv 4) (gv 0)) (fZ .none)) [3,2,0,1] [.val (rd ns fs),.val (.list (vL ns fs r)),.val (.int h),.val (.int ((r+1:Nat):Int)),.no]=Ga ((jb ns.length).map λo=>if o=h\/cm fs o h ((r+1:Nat):Int)=true then vw ns fs r o else .none):=by
  refine(rY (ds:=gT 0 ns.length) ((sZ el).trans (pL (by omega))) (by rw[ww];omega)).trans ((wM (F:=λd=>match d with|.int t=>(if t.toNat=h\/cm fs t.toNat h ((r+1:Nat):Int)=true then vw ns fs r t.toNat else .none)|_=>.none) (λd hd=>?_)).trans ?_)
  .rw[mV] at hd;obtain⟨o,ho,rfl⟩:=jq.mp hd;have ho':=jm.mp ho;show xq _ _ _ [.val (.int o),.val (.int ((r+1:Nat):Int)),.val (.int h),.val (rd ns fs),.val (.list (vL ns fs r))]=Ga (if (o:Int).toNat=h\/cm fs (o:Int).toNat h ((r+1:Nat):Int)=true then vw ns fs r (o:Int).toNat else .none);rw[jR];have c1:gM gz (gv 0) (gv 2) [.val (.int o),.val (.int ((r+1:Nat):Int)),.val (.int h),.val (rd ns fs),.val (.list (vL ns fs r))]=Ga (decide (o=h)):=by
    refine pR (x:=.int o) (y:=.int h) rfl rfl ((xk _ _).trans ?_)
    congr 2;rw[jV,beq_iff_eq,decide_eq_true_eq];omega
   have c2:¬o=h->lF (fq Bq (eU (gv 3) (eU (gv 0) (eU (gv 2) (eU (gv 1) fN))))) [.val (.int o),.val (.int ((r+1:Nat):Int)),.val (.int h),.val (rd ns fs),.val (.list (vL ns fs r))]=Ga (cm fs o h ((r+1:Nat):Int)) :=
    λq=>wJ ((iH (ds:=[rd ns fs,.int o,.int h,.int ((r+1:Nat):Int)]) rfl).trans ((Rp ns fs o h _ G hh).trans (congrArg (λb=>Ga (j3 b)) (Vh G q)))) rfl
   have ix:∀ (w:up fs o r=true),fu eY (gv 4) (gv 0) [.val (.int o),.val (.int ((r+1:Nat):Int)),.val (.int h),.val (rd ns fs),.val (.list (vL ns fs r))]=Ga (vw ns fs r o):=λw=>by
    refine(nR (a:=.list (vL ns fs r)) (b:=.int o) rfl rfl).trans ((NU ho').trans ?_);unfold oI;rw[Ge w]
   by_cases q:o=h
   .rw[zm (b:=true) (BO (c1.trans (congrArg Ga (Gc q)))),Ge rfl,Ge (kw q)];exact ix (by rw[q];exact Ym (by omega) u)
   .cases hc:cm fs o h ((r+1:Nat):Int) with
    | true =>
     rw[zm (b:=true) ((wa (c1.trans (congrArg Ga (Gd q)))).trans ((c2 q).trans (congrArg Ga hc))),Ge rfl,Ge (jZ rfl)];exact ix (Wr G hc)
    | false =>
     rw[zm (b:=false) ((wa (c1.trans (congrArg Ga (Gd q)))).trans ((c2 q).trans (congrArg Ga hc))),Gf jv,Gf (λz=>by rcases z with z|z;exact q z;cases z)]
  .rw[mV,jT];rfl
 rw[lg (On ec rfl)];rfl
theorem Tj {n:Nat}{fs:List Fl}{r:Int}{h:Nat}(hh:h<n):(((jb n).filter λh=>up fs h r).map λ(k:Nat)=>(k:Int)).contains (h:Int)=up fs h r:=by
 rw[jV,kr,jq];constructor
 .rintro⟨k,hk,e⟩;have:k=h:=by omega
  subst this;exact(jA.mp hk).2
 .intro u;exact⟨h,jA.mpr ⟨jm.mpr hh,u⟩,rfl⟩
theorem Zh (ns:List D)(fs:List Fl)(G:gu ns.length fs)(r:Nat):Cd [rd ns fs,.list (vL ns fs r),.int ((r+1:Nat):Int)]=Ga (.list (vL ns fs (r+1))):=by
 have h5:=G.n5;show fK (EQ [.val (rd ns fs),.val (.list (vL ns fs r)),.val (.int ((r+1:Nat):Int)),.no])=_;unfold EQ;have hw:=Mi ns fs ((r+1:Nat):Int) h5;generalize hU:(((jb ns.length).filter λh=>up fs h ((r+1:Nat):Int)).map λ(h:Nat)=>jc (h:Int))=U at hw;have hU':U=((((jb ns.length).filter λh=>up fs h ((r+1:Nat):Int)).map λ(k:Nat)=>(k:Int))).map jc:=by rw[jT,<- hU];rfl
 rw[lg (e:=[.val (rd ns fs),.val (.list (vL ns fs r)),.val (.int ((r+1:Nat):Int)),.val (.list U)]) (tH (tK ((DW (ds:=[rd ns fs,.int ((r+1:Nat):Int)]) rfl).trans hw)))];have el:un fU (gv 1) [.val (rd ns fs),.val (.list (vL ns fs r)),.val (.int ((r+1:Nat):Int)),.val (.list U)]=Ga (.int ns.length):=by
  rw[so (a:=.list (vL ns fs r)) rfl];show Ga (jc ((vL ns fs r).length:Nat))=_;rw[Ih]
 have ec:fQ (iw gf (un fU (gv 1))) (λ_=>Ga true) (xq (gM wS (gv 0) (gv 3)) (fq CL (eU (gv 2) (eU (gv 4) (eU (gv 0) (eU (gv 1) fN))))) (fZ .none)) [2,0,3,1] [.val (rd ns fs),.val (.list (vL ns fs r)),.val (.int ((r+1:Nat):Int)),.val (.list U)]=Ga (vL ns fs (r+1)):=by
  refine(rY (ds:=gT 0 ns.length) ((sZ el).trans (pL (by omega))) (by rw[ww];omega)).trans ((wM (F:=λd=>match d with|.int t=>oI ns fs (r+1) t.toNat|_=>.none) (λd hd=>?_)).trans ?_)
  .rw[mV] at hd;obtain⟨h,ho,rfl⟩:=jq.mp hd;have ho':=jm.mp ho;show xq _ _ _ [.val (.int h),.val (.int ((r+1:Nat):Int)),.val (rd ns fs),.val (.list U),.val (.list (vL ns fs r))]=Ga (oI ns fs (r+1) (h:Int).toNat);rw[jR];have c1:gM wS (gv 0) (gv 3) [.val (.int h),.val (.int ((r+1:Nat):Int)),.val (rd ns fs),.val (.list U),.val (.list (vL ns fs r))]=Ga (up fs h ((r+1:Nat):Int)) :=
    pR (x:=.int h) (y:=.list U) rfl rfl (by rw[hU',LV,Tj ho'])
   rw[zm c1];unfold oI;cases u:up fs h ((r+1:Nat):Int) with
   | true=>rw[Ge rfl,Ge rfl];exact(iH (ds:=[rd ns fs,.list (vL ns fs r),.int h,.int ((r+1:Nat):Int)]) rfl).trans (RY ns fs G r h ho' u)
   | false=>rw[Gf jv,Gf jv]
  .rw[mV,jT];rfl
 exact(congrArg fK (mY (tK ec))).trans rfl
theorem TN {n:Nat}{fs:List Fl}(G:gu n fs)(h:Nat):up fs h ((0:Nat):Int)=true:=by
 unfold up;cases e:md fs h with
 | none=>rfl
 | some f=>dsimp only;rw[decide_eq_true_eq];have:=G.ab f (yJ e).1;omega
theorem VB {ns:List D}{h:Nat}(hh:h<ns.length):eY (.tuple ns) (.int h)=Ga (ns.getD h .none):=by
 refine yv ?_;rw[jl,jh hh];rfl
theorem NA (ns:List D)(fs:List Fl)(G:gu ns.length fs)(a b:Sl)(hb:a=.val (rd ns fs)):∀ (m s:Nat) (x:Sl),∃ x',fY (gY 3) (fX 2 (fq Cd (eU (gv 0) (eU (gv 2) (eU (gv 3) fN))))) ((uc s m).map λ(k:Nat)=>jc ((k+1:Nat):Int)) [a,b,.val (.list (vL ns fs s)),x]=Ga (.nx [a,b,.val (.list (vL ns fs (s+m))),x'])
 | 0,s,x=>⟨x,rfl⟩
 | m+1,s,x=>by
  subst hb;obtain⟨x',e⟩:=NA ns fs G (.val (rd ns fs)) b rfl m (s+1) (.val (.int ((s+1:Nat):Int)));refine⟨x',?_⟩;rw[vQ,jB];unfold fY;rw[show gY 3 (jc ((s+1:Nat):Int)) [.val (rd ns fs),b,.val (.list (vL ns fs s)),x]=Ga [.val (rd ns fs),b,.val (.list (vL ns fs s)),.val (.int ((s+1:Nat):Int))] from rfl,je];rw[tH (d:=.list (vL ns fs (s+1))) ((iH (ds:=[rd ns fs,.list (vL ns fs s),.int ((s+1:Nat):Int)]) rfl).trans (Zh ns fs G s))];rw[show s+(m+1)=s+1+m by omega];exact e
theorem Nh (ns:List D)(fs:List Fl)(G:gu ns.length fs)(r:Nat)(hr:r<100):rK [rd ns fs,.int r]=Ga (.list (vL ns fs r)):=by
 have h5:=G.n5;show fK (Fm [.val (rd ns fs),.val (.int r),.no,.no])=_;unfold Fm;have ec:fQ (iw gf (fq tN (eU (gv 0) fN))) (λ_=>Ga true) (pF (eU (gv 0) (eU (fu eY (fu eY (gv 1) (fZ (.int 0))) (gv 0)) fN))) [0] [.val (rd ns fs),.val (.int r),.no,.no]=Ga (vL ns fs 0):=by
  refine(rY (ds:=gT 0 ns.length) ((sZ (a:=.int ns.length) ((iH (ds:=[rd ns fs]) rfl).trans (EH ns fs))).trans (pL (by omega))) (by rw[ww];omega)).trans ((wM (F:=λd=>match d with|.int t=>oI ns fs 0 t.toNat|_=>.none) (λd hd=>?_)).trans ?_)
  .rw[mV] at hd;obtain⟨h,ho,rfl⟩:=jq.mp hd;have ho':=jm.mp ho;show pF _ [.val (.int h),.val (rd ns fs)]=Ga (oI ns fs 0 (h:Int).toNat);rw[jR];unfold oI;rw[Ge (TN G h)];exact ZQ (yF rfl (yF ((nR (a:=.tuple ns) (b:=.int h) rfl rfl).trans (VB ho')) rfl))
  .rw[mV,jT];rfl
 rw[lg (On ec rfl)];obtain⟨x',e⟩:=NA ns fs G (.val (rd ns fs)) (.val (.int r)) rfl r 0 .no;rw[uq] at e;have er:sB nr (fZ (.int 1)) (fu ge (gv 1) (fZ (.int 1))) [.val (rd ns fs),.val (.int r),.val (.list (vL ns fs 0)),.no]=Ga ((uc 0 r).map λ(k:Nat)=>jc ((k+1:Nat):Int)):=by
  refine(YO (a:=.int 1) (b:=.int ((r:Int)+1)) rfl rfl).trans ?_;unfold nr;dsimp only;rw[Ge (by omega),show((r:Int)+1-1).toNat=r by omega,<- u5];unfold gT;refine congrArg Ga (ka λk _=>?_);rw[show(1:Int)+(k:Nat)=((k+1:Nat):Int) by omega]
 show fK (fJ _ _ [.val (rd ns fs),.val (.int r),.val (.list (vL ns fs 0)),.no])=_;rw[lg ((rW er).trans e)];rfl
theorem WZ {n:Nat}{fs:List Fl}(G:gu n fs):fs.length<=n:=by
 have:=yQ n (fs.map Fl.h) G.nd (λx hx=>by obtain⟨f,hf,rfl⟩:=jq.mp hx;exact G.hb f hf);rw[jd] at this;exact this
theorem Zn {f g:FV}{ψ:En}(h:f ψ=Ga (.bool false)):CI f g ψ=g ψ:=by show((f ψ).bind iy).bind _=_;rw[h];rfl
theorem Ye {f g:FV}{ψ:En}(h:f ψ=Ga (.bool true)):CI f g ψ=Ga (.bool true):=by show((f ψ).bind iy).bind _=_;rw[h];rfl
theorem NE {f g:FV}{ψ:En}(h:f ψ=Ga (.bool true)):sA f g ψ=g ψ:=by show((f ψ).bind iy).bind _=_;rw[h];rfl
theorem WL {f g:FV}{ψ:En}(h:f ψ=Ga (.bool false)):sA f g ψ=Ga (.bool false):=by show((f ψ).bind iy).bind _=_;rw[h];rfl
theorem Sh {f g h:FV}{ψ:En}{a b c:Int}(h1:f ψ=Ga (.int a))(h2:g ψ=Ga (.int b))(h3:h ψ=Ga (.int c))(q1:a<=b)(q2:b<=c):wZ lI lI f g h ψ=Ga (.bool true):=by
 show(f ψ).bind _=_;rw[h1,je,h2,je];rw[show(lI (.int a) (.int b)).bind iy=Ga true from(by show Ga (decide (a<=b))=_;rw[Gc q1]),je,Ge rfl,h3,je];show Ga (j3 (decide (b<=c)))=_;rw[Gc q2]
def il (A:List Nat):List D:=A.map λ(k:Nat)=>jc (k:Int)
def Qa (A:List Nat):Bool:=(Bo ((A.map λ(k:Nat)=>(k:Int)).contains 0) ((A.map λ(k:Nat)=>(k:Int)).contains 1) ((A.map λ(k:Nat)=>(k:Int)).contains 2) ((A.map λ(k:Nat)=>(k:Int)).contains 3) ((A.map λ(k:Nat)=>(k:Int)).contains 4)).length==A.length
theorem VO:(jb 6).all (λn=>(re n).all Qa)=true:=by nofun
theorem Ug (A:List Nat)(nd:A.Nodup)(lt:∀ x∈A,x<5):∃ L:List D,L.length=A.length/\∃ m:Int,yD [.list (il A)]=Ga (.int m)/\nS [.int m]=Ga L:=by
 have hl:=yQ 5 A nd lt;have c:=jO.mp (jO.mp VO A.length (jm.mpr (by omega))) A (Eh A nd lt);have e:il A=(A.map λ(k:Nat)=>(k:Int)).map jc:=by unfold il;rw[jT];rfl
 have m:=OB (A.map λ(k:Nat)=>(k:Int)) (λh hh=>by
  obtain⟨k,hk,rfl⟩:=jq.mp hh;have:=lt k hk;omega)
 refine⟨_,?_,_,by rw[e];exact m,MZ _ _ _ _ _⟩;rw[jd];exact eq_of_beq c
def oP (U:List Nat)(k:Nat)(f:Fl):Bool:=decide (f.a<(k:Int))||(decide (f.a=(k:Int))&&!(U.all λh=>bt f.m h))
theorem QX (f:Fl)(hm:f.m<32)(U:List Nat)(hU:∀ x∈U,x<5)(hl:U.length<=5):zS [fd f,.list (il U)]=Ga (.bool (U.all λh=>bt f.m h)):=by
 show fK (ES [.val (fd f),.val (.list (il U))])=_;unfold ES;have ec:fQ (iK (gv 1)) (λ_=>Ga true) (fq rH (eU (fu eY (gv 1) (fZ (.int 2))) (eU (gv 0) fN))) [0] [.val (fd f),.val (.list (il U))]=Ga ((U.map λh=>bt f.m h).map j3):=by
  refine(rY (ds:=il U) rfl (by unfold il;rw[jd];omega)).trans ((wM (F:=λd=>match d with|.int t=>.bool (bt f.m t.toNat)|_=>.none) (λd hd=>?_)).trans ?_)
  .obtain⟨h,hh,rfl⟩:=jq.mp hd;show fq rH _ [.val (.int h),.val (fd f)]=Ga (.bool (bt f.m (h:Int).toNat));rw[jR];exact(iH (ds:=[.int f.m,.int h]) rfl).trans (Na f.m h hm (hU h hh))
  .unfold il;rw[jT,jT];rfl
 refine(congrArg fK (mY (d:=.bool (U.all λh=>bt f.m h)) ((DP ec).trans ?_))).trans rfl;unfold BG;rw[Pp,je,List.all_map];rfl
theorem WA (f:Fl)(hm:f.m<32)(U:List Nat)(hU:∀ x∈U,x<5)(hl:U.length<=5)(k:Nat):zW [fd f,.list (il U),.int k]=Ga (.bool (oP U k f)):=by
 have ha:=QX f hm U hU hl;show fK (DK [.val (fd f),.val (.list (il U)),.val (.int k)])=_;generalize vB (il U)=W at ha;unfold DK;refine(congrArg fK (mY (d:=.bool (oP U k f)) ?_)).trans rfl;have c1:fu nO (fu eY (gv 0) (fZ (.int 1))) (gv 2) [.val (fd f),.val W,.val (.int k)]=Ga (.bool (decide (f.a<(k:Int)))):=rfl;have c2:fu gz (fu eY (gv 0) (fZ (.int 1))) (gv 2) [.val (fd f),.val W,.val (.int k)]=Ga (.bool (decide (f.a=(k:Int)))):=by
  refine(nR (a:=.int f.a) (b:=.int k) rfl rfl).trans ((xk _ _).trans (congrArg (λb=>Ga (j3 b)) ?_));rw[jV,beq_iff_eq,decide_eq_true_eq]
 have c3:BR (fq zS (eU (gv 0) (eU (gv 1) fN))) [.val (fd f),.val W,.val (.int k)]=Ga (.bool (!(U.all λh=>bt f.m h))):=by
  show((fq zS (eU (gv 0) (eU (gv 1) fN)) [.val (fd f),.val W,.val (.int k)]).bind iy).bind _=_;rw[(iH (ds:=[fd f,W]) rfl).trans ha];rfl
 unfold oP;cases q1:decide (f.a<(k:Int)) with
 | true=>rw[q1] at c1;exact Ye c1
 | false =>
  rw[q1] at c1;refine(Zn c1).trans ?_;cases q2:decide (f.a=(k:Int)) with
  | true=>rw[q2] at c2;exact(NE c2).trans c3
  | false=>rw[q2] at c2;exact WL c2
def upL (n:Nat)(fs:List Fl)(k:Nat):List Nat:=(jb n).filter λh=>up fs h (k:Int)
theorem XA {n:Nat}{fs:List Fl}{k x:Nat}(h:x∈upL n fs k):x<n:=jm.mp (jA.mp h).1
theorem Yw (n:Nat)(fs:List Fl)(k:Nat):(upL n fs k).length<=n:=by
 have:=k0 (λh=>up fs h (k:Int)) (jb n);rw[jK] at this;exact this
def iV (n:Nat)(fs:List Fl)(k:Nat):List Fl:=if (upL n fs k).isEmpty then[] else fs.filter (oP (upL n fs k) k)
theorem zuO (ns:List D)(fs:List Fl)(G:gu ns.length fs)(k:Nat):∃ m:Int,∃ L:List D,yx [rd ns fs,.int k]=Ga (.int m)/\nS [.int m]=Ga L/\L.length=(iV ns.length fs k).length:=by
 have n5:=G.n5;have hw:=Mi ns fs (k:Int) n5;have hlU:=Yw ns.length fs k;have e0:(((jb ns.length).filter λh=>up fs h (k:Int)).map λ(h:Nat)=>jc (h:Int))=il (upL ns.length fs k):=rfl;rw[e0] at hw;show ∃ m:Int,∃ L:List D,fK (Hd [.val (rd ns fs),.val (.int k),.no])=_/\_;have hfo:∀ f∈fs,zW [fd f,.list (il (upL ns.length fs k)),.int k]=Ga (.bool (oP (upL ns.length fs k) k f)):=λf hf=>WA f (G.mb f hf) _ (λx hx=>by have:=XA hx;omega) (by omega) k;have hln:fU (.list (il (upL ns.length fs k)))=Ga (.int (upL ns.length fs k).length):=by
  show Ga (jc ((il (upL ns.length fs k)).length:Nat))=_;unfold il;rw[jd]
 unfold iV;generalize upL ns.length fs k=U at hw hlU hfo hln;generalize il U=W at hw hfo hln;have s2:fX 2 (gU (oO AI (eU (gv 0) (eU (gv 1) fN)))) [.val (rd ns fs),.val (.int k),.no]=Ga (.nx [.val (rd ns fs),.val (.int k),.val (.list W)]):=tH (tK ((DW (ds:=[rd ns fs,.int k]) rfl).trans hw));have c1:gM gz (un fU (gv 2)) (fZ (.int 0)) (frz [.val (rd ns fs),.val (.int k),.val (.list W)])=Ga ((U.length:Int)==0):=pR ((so (a:=.list W) rfl).trans hln) rfl (xk _ _);unfold Hd;by_cases hU:U=[]
 .subst hU;refine⟨0,[],?_,by nofun,rfl⟩;rw[lg s2,yV (d:=.int 0) ((sL c1).trans rfl)];rfl
 .have hne:U.isEmpty=false:=by cases U with|nil=>exact absurd rfl hU|cons _ _=>rfl
  have hz:((U.length:Int)==0)=false:=by
   rw[<- ua,beq_iff_eq];cases U with
   | nil=>exact absurd rfl hU
   | cons a b=>rw[jL];omega
  rw[hz] at c1;rw[hne,Gf jv];obtain⟨L,hL,m,hm,hh⟩:=Ug ((fs.filter (oP U k)).map Fl.h) (((ul (l:=fs) (p:=oP U k)).map Fl.h).nodup G.nd) (λx hx=>by obtain⟨f,hf,rfl⟩:=jq.mp hx;have:=G.hb f (jA.mp hf).1;omega);refine⟨m,L,?_,hh,by rw[hL,jd]⟩;rw[lg s2,lg ((ss c1).trans rfl)];have ec:fQ (iK (fu eY (gv 0) (fZ (.int 1)))) (lF (fq zW (eU (gv 0) (eU (gv 2) (eU (gv 1) fN))))) (fu eY (gv 0) (fZ (.int 0))) [1,2] [.val (rd ns fs),.val (.int k),.val (.list W)]=Ga (il ((fs.filter (oP U k)).map Fl.h)):=by
   have lf:=WZ G;refine(rY (ds:=fs.map fd) rfl (by rw[jd];omega)).trans ((As (p:=λd=>oP U k (bk d)) (F:=λd=>.int (bk d).h) (λd hd=>?_) (λd hd _=>?_)).trans ?_)
   .obtain⟨f,hf,rfl⟩:=jq.mp hd;rw[Dl];exact wJ ((iH (ds:=[fd f,.list W,.int k]) rfl).trans (hfo f hf)) rfl
   .obtain⟨f,hf,rfl⟩:=jq.mp hd;rw[Dl];rfl
   .rw[vj,jT];unfold il;rw[jT];have e1:(λd=>oP U k (bk d))∘fd=oP U k:=by funext f;show oP U k (bk (fd f))=_;rw[Dl]
    rw[e1];refine congrArg Ga (ka λf _=>?_);show jc ((bk (fd f)).h:Int)=_;rw[Dl];rfl
  exact(congrArg fK (mY ((iH (ds:=[.list (il ((fs.filter (oP U k)).map Fl.h))]) (yF (tK ec) rfl)).trans hm))).trans rfl
def ik (n:Nat)(fs:List Fl)(k:Nat):Int:=((iV n fs k).length:Int)
def mx (a b:Int):Int:=if a<b then b else a
def nh (c:Nat->Int):Int:=mx (mx (mx (mx (mx 0 (c 1-1)) (c 2-2)) (c 3-3)) (c 4-4)) (c 5-5)
theorem RD (ns:List D)(fs:List Fl)(G:gu ns.length fs):Ej [rd ns fs]=Ga (.int (nh (ik ns.length fs))):=by
 have hf:=λk=>zuO ns fs G k;show fK (EV [.val (rd ns fs)])=_;have hc:∀ k:Nat,fu iz (un fU (gU (oO nS (eU (fq yx (eU (gv 1) (eU (gv 0) fN))) fN)))) (gv 0) [.val (.int k),.val (rd ns fs)]=Ga (.int (ik ns.length fs k-k)):=λk=>by
  obtain⟨m,L,e1,e2,e3⟩:=hf k;refine(nR (a:=.int (L.length:Nat)) (b:=.int k) ((so (a:=.list L) (tK ((DW (ds:=[.int m]) (yF ((iH (ds:=[rd ns fs,.int k]) rfl).trans e1) rfl)).trans e2))).trans rfl) rfl).trans ?_;show Ga (jc ((L.length:Int)-(k:Int)))=_;unfold ik;rw[e3]
 unfold EV;generalize rd ns fs=R at hc;have ec:fQ (sB nr (fZ (.int 1)) (fu ge (fZ (.int 5)) (fZ (.int 1)))) (λ_=>Ga true) (fu iz (un fU (gU (oO nS (eU (fq yx (eU (gv 1) (eU (gv 0) fN))) fN)))) (gv 0)) [0] [.val R]=Ga ([ik ns.length fs 1-1,ik ns.length fs 2-2,ik ns.length fs 3-3,ik ns.length fs 4-4,ik ns.length fs 5-5].map jc):=by
  refine(rY (ds:=([1,2,3,4,5]:List Nat).map λ(k:Nat)=>jc (k:Int)) rfl (show 5<=1000000 by decide)).trans ((wM (F:=λd=>match d with|.int k=>.int (ik ns.length fs k.toNat-k)|_=>.none) (λd hd=>?_)).trans rfl);obtain⟨k,_,rfl⟩:=jq.mp hd;exact hc k
 have ea:xJ (fu ge (gU (eU (fZ (.int 0)) fN)) (gU (fQ (sB nr (fZ (.int 1)) (fu ge (fZ (.int 5)) (fZ (.int 1)))) (λ_=>Ga true) (fu iz (un fU (gU (oO nS (eU (fq yx (eU (gv 1) (eU (gv 0) fN))) fN)))) (gv 0)) [0]))) [.val R]=Ga ([0,ik ns.length fs 1-1,ik ns.length fs 2-2,ik ns.length fs 3-3,ik ns.length fs 4-4,ik ns.length fs 5-5].map jc) :=
  GW ((nR (a:=.list [.int 0]) (b:=.list ([ik ns.length fs 1-1,ik ns.length fs 2-2,ik ns.length fs 3-3,ik ns.length fs 4-4,ik ns.length fs 5-5].map jc)) rfl (tK ec)).trans rfl)
 refine(congrArg fK (mY (d:=.int (nh (ik ns.length fs))) ((DP ea).trans ?_))).trans rfl;unfold pI;rw[lQ,je];rfl
theorem Ua (ns:List D)(fs:List Fl)(bd:Nat)(h1:bd+2<=ns.length)(h2:fs.length<=bd):HW [rd ns fs,.int bd]=Ga (.bool true):=by
 show fK (Ik [.val (rd ns fs),.val (.int bd)])=_;unfold Ik;rw[lg ((ss (Gw (b:=true) (wJ ((iH (ds:=[.int bd]) rfl).trans rfl) rfl))).trans rfl)];have c1:wZ lI lI (fZ (.int 0)) (gv 1) (fu iz (fq tN (eU (gv 0) fN)) (fZ (.int 2))) [.val (rd ns fs),.val (.int bd)]=Ga (.bool true):=by
  refine Sh (a:=0) (b:=bd) (c:=(ns.length:Int)-2) rfl rfl rfl (by omega) (by omega)
 have c2:fu lI (un fU (fu eY (gv 0) (fZ (.int 1)))) (gv 1) [.val (rd ns fs),.val (.int bd)]=Ga (.bool true):=by
  show Ga (j3 (decide (((fs.map fd).length:Int)<=(bd:Int))))=_;rw[jd,Gc (by omega)]
 refine(congrArg fK (mY (d:=.bool true) ?_)).trans rfl;exact(NE c1).trans c2
theorem Xq (ns:List D)(fs:List Fl)(G:gu ns.length fs)(bd:Nat)(h1:bd+2<=ns.length)(h2:fs.length<=bd):lZ [rd ns fs,.int bd]=Ga (.int ((bd:Int)+1-nh (ik ns.length fs))):=by
 have hk:=Ua ns fs bd h1 h2;have hw:=RD ns fs G;show fK (Hl [.val (rd ns fs),.val (.int bd)])=_;generalize rd ns fs=R at hk hw;unfold Hl;rw[lg ((ss (Gw (b:=true) (wJ ((iH (ds:=[R,.int bd]) rfl).trans hk) rfl))).trans rfl)];exact(congrArg fK (mY ((nR (a:=.int ((bd:Int)+1)) rfl ((iH (ds:=[R]) rfl).trans hw)).trans rfl))).trans rfl
theorem xz {α:Type}[BEq α][LawfulBEq α]:∀ {l m:List α},l.Nodup->(∀ i∈l,i∈m)->l.length<=m.length
 | [],_,_,_=>jX _
 | x::l,m,nd,h=>by
  obtain⟨n1,n2⟩:=jJ.mp nd;have hx:x∈m:=h x jf;have:=xz (m:=m.erase x) n2 λi hi=>(List.mem_erase_of_ne (λe=>n1 (by rw[<- e];exact hi))).mpr (h i (jj _ hi));rw[qr hx] at this;have:=uP hx;rw[jL];omega
theorem DU (fs:List Fl)(n r h x:Nat):Tf fs n (r+1) h x=true↔Tf fs n r h x=true\/∃ w,w<n/\cm fs w h ((r+1:Nat):Int)=true/\Tf fs n r w x=true:=by
 show(Tf fs n r h x||(jb n).any λw=>cm fs w h ((r+1:Nat):Int)&&Tf fs n r w x)=true↔_;rw[j5,uK];refine or_congr_right ⟨λ⟨w,h1,h2⟩=>?_,λ⟨w,h1,h2,h3⟩=>⟨w,jm.mpr h1,by rw[h2,h3];rfl⟩⟩;rw[jo] at h2;exact⟨w,jm.mp h1,h2.1,h2.2⟩
theorem Nw {n:Nat}{fs:List Fl}(G:gu n fs){k h x:Nat}(hh:h<n)(cl:∀ f∈fs,f.a≠((k+1:Nat):Int))(hu:up fs h ((k+1:Nat):Int)=true):Tf fs n (k+1) h x=true↔∃ b,b<n/\up fs b ((k+1:Nat):Int)=true/\Tf fs n k b x=true:=by
 rw[DU];constructor
 .rintro(z|⟨w,w1,w2,w3⟩)
  .exact⟨h,hh,hu,z⟩
  .refine⟨w,w1,(nD G w _).mpr λf hf e=>?_,w3⟩;have:=(((sV G w h _).mp w2 f hf).2 e).1;have:=cl f hf;omega
 .rintro⟨b,b1,b2,b3⟩;refine .inr ⟨b,b1,(sV G b h _).mpr λf hf=>⟨λe=>(nD G h _).mp hu f hf e,λe=>?_⟩,b3⟩;have:=(nD G b _).mp b2 f hf e;exact⟨by omega,λz=>by omega⟩
theorem FZ {n:Nat}{fs:List Fl}(G:gu n fs){r:Nat}(r1:1<=r)(cl:∀ f∈fs,f.a≠(r:Int)):∀ k,r<=k->∀ h h' x,h<n->h'<n->up fs h (k:Int)=true->up fs h' (k:Int)=true->(Tf fs n k h x=true↔Tf fs n k h' x=true)
 | 0,hk,_,_,_,_,_,_,_=>by omega
 | k+1,hk,h,h',x,hh,hh',hu,hu'=>by
  by_cases e:r=k+1
  .subst e;exact(Nw G hh cl hu).trans (Nw G hh' cl hu').symm
  .have dn:∀ y,up fs y ((k+1:Nat):Int)=true->up fs y (k:Int)=true:=λy hy=>(nD G y _).mpr λf hf z=>by
    have:=(nD G y _).mp hy f hf z;omega
   have stay:∀ y,y<n->up fs y ((k+1:Nat):Int)=true->(Tf fs n (k+1) y x=true↔Tf fs n k y x=true):=λy hy hyu=>by
    rw[DU];refine⟨?_,.inl⟩;rintro(z|⟨w,w1,w2,w3⟩)
    .exact z
    .have uw:up fs w (k:Int)=true:=(nD G w _).mpr λf hf z=>by
      have:=(((sV G w y _).mp w2 f hf).2 z).1;omega
     exact(FZ G r1 cl k (by omega) w y x w1 hy uw (dn y hyu)).mp w3
   exact(stay h hh hu).trans ((FZ G r1 cl k (by omega) h h' x hh hh' (dn h hu) (dn h' hu')).trans (stay h' hh' hu').symm)
theorem Ux {n:Nat}{fs:List Fl}(G:gu n fs){t:Nat}(hc:fs.length<=t):∃ r:Nat,1<=r/\r<=t+1/\∀ f∈fs,f.a≠(r:Int):=by
 refine kP λno=>?_;have:=xz (l:=jb (t+1)) (m:=fs.map λf=>f.a.toNat-1) vS λk hk=>by
  have hk:=jm.mp hk;refine kP λno2=>no ⟨k+1,by omega,by omega,λf hf e=>no2 (jq.mpr ⟨f,hf,by omega⟩)⟩
 rw[jK,jd] at this;omega
theorem Me {n:Nat}{fs:List Fl}(G:gu n fs){t:Nat}(hc:fs.length<=t){h h':Nat}(hh:h<n)(hh':h'<n)(hu:up fs h ((t+1:Nat):Int)=true)(hu':up fs h' ((t+1:Nat):Int)=true):kn fs n (t+1) h=kn fs n (t+1) h':=by
 obtain⟨r,r1,r2,cl⟩:=Ux G hc;unfold kn;refine vM λx _=>?_;rw[jV];exact FZ G r1 cl (t+1) r2 h h' x hh hh' hu hu'
theorem No {p:Nat->Bool}:∀ l:List Nat,(l.filter p).length+(l.filter λx=>!p x).length=l.length
 | []=>rfl
 | x::l=>by
  have ih:=No (p:=p) l;cases c:p x with
  | true=>rw[kg c,kh (by rw[c];decide),jL,jL];omega
  | false=>rw[kh (by rw[c];decide),kg (by rw[c];decide),jL,jL];omega
theorem Hm {n:Nat}{fs:List Fl}(G:gu n fs)(r:Int):n<=((jb n).filter λh=>up fs h r).length+fs.length:=by
 have h1:=No (p:=λh=>up fs h r) (jb n);rw[jK] at h1;have h2:=xz (l:=(jb n).filter λh=>!up fs h r) (m:=fs.map Fl.h) (qe ul vS) λx hx=>by
  have hx:=(jA.mp hx).2;rw[ui] at hx;refine kP λno=>?_;have:up fs x r=true:=(nD G x r).mpr λf hf e=>absurd (jq.mpr ⟨f,hf,e⟩) no;rw[hx] at this;cases this
 rw[jd] at h2;omega
theorem UJ (a:Int)(ns:List Int)(h:a∈ns):lM (.int a) (.tuple (ns.map jc))=Ga (.bool false):=by
 have e:=LV a ns;unfold wS at e;unfold lM
 have ts:toS (.tuple (ns.map jc))=toS (.list (ns.map jc)):=rfl;rw[ts];obtain⟨xs,e1,e⟩:=aj e;rw[e1,je];split at e
 .rename_i c;rw[Ge c];have e:=jy e;have e:=PyData.bool.inj e;rw[e,kr.mpr h];rfl
 .cases e
noncomputable def lc (n:Nat)(fs:List Fl)(r h k:Nat):Nat:=((jb n).filter λx=>tr (Lk fs n r h k x)).length
theorem Ss:∀ (n:Fin 6) (b0 b1 b2 b3 b4:Bool),(Bo (decide (0<n.val)&&b0) (decide (1<n.val)&&b1) (decide (2<n.val)&&b2) (decide (3<n.val)&&b3) (decide (4<n.val)&&b4)).length=((jb n.val).filter (cf b0 b1 b2 b3 b4)).length:=by nofun
theorem SA (p:Nat->Bool){x:Nat}(h:x<5):cf (p 0) (p 1) (p 2) (p 3) (p 4) x=p x:=by
 match x,h with
 | 0,_=>rfl
 | 1,_=>rfl
 | 2,_=>rfl
 | 3,_=>rfl
 | 4,_=>rfl
theorem YN (n:Nat)(n5:n<=5)(p:Nat->Bool):(Bo (decide (0<n)&&p 0) (decide (1<n)&&p 1) (decide (2<n)&&p 2) (decide (3<n)&&p 3) (decide (4<n)&&p 4)).length=((jb n).filter p).length:=by
 rw[Ss ⟨n,by omega⟩];refine congrArg qi (vM λx hx=>?_);have:=jm.mp hx;exact SA p (by show x<5;have:x<n:=this;omega)
theorem Si (ns:List D)(fs:List Fl)(hi:∀ d∈ns,∃ i:Int,d=.int i)(n5:ns.length<=5)(r h k:Nat)(hr:r<=4)(hh:h<ns.length)(hk:k<=r+1):∃ (m:Int) (L:List D),rT [vw ns fs r h,.int k]=Ga (.int m)/\nS [.int m]=Ga L/\L.length=lc ns.length fs r h k:=by
 refine⟨_,_,Tl ns fs hi n5 r h k hr hh hk,MZ _ _ _ _ _,?_⟩;rw[jd];exact YN ns.length n5 λx=>tr (Lk fs ns.length r h k x)
theorem XZ {r:Nat}(h:r<1000):nr (.int 1) (.int (r:Int))=Ga ((jb (r-1)).map λ(k:Nat)=>.int ((k+1:Nat):Int)):=by
 unfold nr;dsimp only;rw[Ge ⟨by decide,by decide,by omega,by omega⟩];unfold gT;rw[show((r:Int)-1).toNat=r-1 by omega];refine congrArg Ga (ka λk _=>?_);exact congrArg jc (by omega)
noncomputable def ws (n:Nat)(fs:List Fl)(r h s:Nat):Int:=(jb s).foldl (λa k=>if a<(lc n fs r h (k+1):Int)-((k+1:Nat):Int) then(lc n fs r h (k+1):Int)-((k+1:Nat):Int) else a) 0
theorem RQ (l:List Int):zr (0::l)=Ga (l.foldl (λa b=>if a<b then b else a) 0):=rfl
theorem zuT (V:D)(R M:Int)(L1 L2 L3:List D)(er:oo [V]=Ga (.int R))(e0:nr (.int 1) (.int R)=Ga L1)(hn:L1.length<=1000000)(hc:iq (λ_=>Ga true) (dE iz (lK fU (gR (tu nS (eX (gc rT (eX (gv 1) (eX (gv 0) fH))) fH)))) (gv 0)) [.val V] L1=Ga L2)(ha:ge (.list [.int 0]) (.list L2)=Ga (.list L3))(hx:pI L3=Ga (.int M)):xB [V]=Ga (.int M):=by
 rw[ZU];unfold Eu;simp_arith[xE,er,e0,Ge hn,hc,ha,hx]
theorem Yr (A:List D->Option D)(B:List D->Option (List D))(V:D)(kk m:Int)(L:List D)(h1:A [V,.int kk]=Ga (.int m))(h2:B [.int m]=Ga L):(tu B (eX (gc A (eX (gv 1) (eX (gv 0) fH))) fH)) [.val (.int kk),.val V]=Ga L:=by simp_arith[h1,h2]
theorem Xo (V:D)(kk m:Int)(L:List D)(c:Int)(h1:rT [V,.int kk]=Ga (.int m))(h2:nS [.int m]=Ga L)(h3:fU (.list L)=Ga (.int c)):(dE iz (lK fU (gR (tu nS (eX (gc rT (eX (gv 1) (eX (gv 0) fH))) fH)))) (gv 0)) [.val (.int kk),.val V]=Ga (.int (c-kk)):=by
 have hB:=Yr rT nS V kk m L h1 h2;have hA:(lK fU (gR (tu nS (eX (gc rT (eX (gv 1) (eX (gv 0) fH))) fH)))) [.val (.int kk),.val V]=Ga (.int c):=by
  rw[LQ,NW,hB];exact h3
 rw[Oi,hA];rfl
theorem Sd (ns:List D)(fs:List Fl)(hi:∀ d∈ns,∃ i:Int,d=.int i)(n5:ns.length<=5)(r h:Nat)(hr:r<=4)(hh:h<ns.length):xB [vw ns fs r h]=Ga (.int (ws ns.length fs r h (r-1))):=by
 have hl:=λk hk=>Si ns fs hi n5 r h k hr hh hk;have e0:=XZ (r:=r) (by omega);have er:=AH ns fs hi r h hh (by omega);generalize vw ns fs r h=V at hl er;have hn:((jb (r-1)).map λ(k:Nat)=>jc ((k+1:Nat):Int)).length<=1000000:=by rw[jd,jK];omega
 have hc:iq (λ_=>Ga true) (dE iz (lK fU (gR (tu nS (eX (gc rT (eX (gv 1) (eX (gv 0) fH))) fH)))) (gv 0)) [.val V] ((jb (r-1)).map λ(k:Nat)=>jc ((k+1:Nat):Int))=Ga ((jb (r-1)).map λ(k:Nat)=>jc ((lc ns.length fs r h (k+1):Int)-((k+1:Nat):Int))):=by
  refine Pa (λ(k:Nat)=>jc ((k+1:Nat):Int)) (λ(k:Nat)=>jc ((lc ns.length fs r h (k+1):Int)-((k+1:Nat):Int))) λk hk=>?_;obtain⟨m,L,h1,h2,h3⟩:=hl (k+1) (by have:=jm.mp hk;omega);exact Xo V _ m L _ h1 h2 (by rw[<- h3];rfl)
 have ha:ge (.list [.int 0]) (.list ((jb (r-1)).map λ(k:Nat)=>jc ((lc ns.length fs r h (k+1):Int)-((k+1:Nat):Int))))=Ga (.list ((0::(jb (r-1)).map λ(k:Nat)=>((lc ns.length fs r h (k+1):Int)-((k+1:Nat):Int))).map jc)):=by
  have:[jc 0].length+((jb (r-1)).map λ(k:Nat)=>jc ((lc ns.length fs r h (k+1):Int)-((k+1:Nat):Int))).length<=sizeLine:=by
   rw[jd,jK,sizeLine_eq];show 1+(r-1)<=_;omega
  unfold ge;dsimp only;rw[Ge this,jB,jT];rfl
 have hx:pI ((0::(jb (r-1)).map λ(k:Nat)=>((lc ns.length fs r h (k+1):Int)-((k+1:Nat):Int))).map jc)=Ga (.int (ws ns.length fs r h (r-1))):=by
  unfold pI;rw[lQ,je,RQ,List.foldl_map];rfl
 exact zuT V _ _ _ _ _ er e0 hn hc ha hx
theorem Nc {n:Nat}{fs:List Fl}{k h i:Nat}(hh:h<n):Tf fs n (k+1) h i=true↔∃ b,b<n/\hd fs h (k+1) b=true/\Tf fs n k b i=true:=by
 rw[DU];constructor
 .rintro(z|⟨w,w1,w2,w3⟩)
  .exact⟨h,hh,by unfold hd;rw[Gc rfl];rfl,z⟩
  .exact⟨w,w1,by unfold hd;rw[w2,Bool.or_true],w3⟩
 .rintro⟨b,b1,b2,b3⟩;unfold hd at b2;rw[j5,decide_eq_true_eq] at b2;rcases b2 with rfl|b2
  .exact .inl b3
  .exact .inr ⟨b,b1,b2,b3⟩
theorem yS {n:Nat}{fs:List Fl}(G:gu n fs){h j k:Nat}(hj:j<=k)(hu:up fs h (k:Int)=true):up fs h (j:Int)=true:=by
 rw[nD G] at hu ⊢;intro f hf e;have:=hu f hf e;omega
theorem EK {n:Nat}{fs:List Fl}(G:gu n fs){k h b:Nat}(hu:up fs h ((k+1:Nat):Int)=true)(hb:hd fs h (k+1) b=true):up fs b (k:Int)=true:=by
 unfold hd at hb;rw[j5,decide_eq_true_eq] at hb;rcases hb with rfl|hb
 .exact yS G (vt k) hu
 .rw[nD G];intro f hf e;have:=(((sV G b h _).mp hb f hf).2 e).1;omega
theorem OM {n:Nat}{fs:List Fl}(G:gu n fs){r:Nat}{S:Nat->Prop}(H:∀ h,h<n->up fs h (r:Int)=true->∀ i,Tf fs n r h i=true↔S i):∀ d h,h<n->up fs h ((r+d:Nat):Int)=true->∀ i,Tf fs n (r+d) h i=true↔S i
 | 0,h,hh,hu,i=>H h hh hu i
 | d+1,h,hh,hu,i=>by
  have ih:=OM G H d;show Tf fs n (r+d+1) h i=true↔_;have hu:up fs h ((r+d+1:Nat):Int)=true:=hu;rw[Nc hh];constructor
  .rintro⟨b,b1,b2,b3⟩;exact(ih b b1 (EK G hu b2) i).mp b3
  .intro z;exact⟨h,hh,by unfold hd;rw[Gc rfl];rfl,(ih h hh (yS G (vt _) hu) i).mpr z⟩
theorem xU {n:Nat}{fs:List Fl}{k:Nat}(hne:upL n fs k≠[]){f:Fl}:f∈iV n fs k↔f∈fs/\(f.a<(k:Int)\/(f.a=(k:Int)/\∃ o,o<n/\up fs o (k:Int)=true/\bt f.m o=false)):=by
 unfold iV;rw[Gf (by rw[List.isEmpty_iff];exact hne),jA];refine and_congr_right λ_=>?_;unfold oP;rw[j5,decide_eq_true_eq,jo,decide_eq_true_eq,ui,List.all_eq_false];refine or_congr_right (and_congr_right λ_=>?_);constructor
 .rintro⟨o,h1,h2⟩;have h1:=jA.mp h1;rw[ua] at h2;exact⟨o,jm.mp h1.1,h1.2,h2⟩
 .rintro⟨o,h1,h2,h3⟩;exact⟨o,jA.mpr ⟨jm.mpr h1,h2⟩,by rw[h3];decide⟩
theorem LI {n:Nat}{fs:List Fl}(G:gu n fs)(k:Nat):((iV n fs k).map Fl.h).Nodup:=by
 unfold iV;split
 .exact j7
 .exact qe (List.Sublist.map _ ul) G.nd
theorem UQ {n:Nat}{fs:List Fl}(k:Nat):(iV n fs k).length<=fs.length:=by
 unfold iV;split
 .exact jX _
 .exact k0 _ _
theorem SC {n:Nat}{fs:List Fl}(G:gu n fs)(hf:fs.length+2<=n)(k:Nat):upL n fs k≠[]:=λz=>by
 have:=Hm G (k:Int);unfold upL at z;rw[z] at this;rw[List.length_nil] at this;omega
theorem KW {n:Nat}{fs:List Fl}(G:gu n fs){k:Nat}(hne:upL n fs k≠[]){x:Nat}(hx:x<n):∀ (r p:Nat),p<n->up fs p (r:Int)=true->zZ fs n r p k x->∃ f∈iV n fs k,f.h=x
 | 0,p,_,_,h=>h.elim
 | r+1,p,hp,pu,h=>by
  rcases h with ⟨h1,h2⟩|⟨b,b1,b2,b3⟩
  .refine kP λno=>?_;have:hd fs p (r+1) x=true:=by
    unfold hd;rw[j5];refine .inr ((sV G x p _).mpr λf hf=>⟨λe=>(nD G p _).mp pu f hf e,λe=>?_⟩);have nf:¬(f.a<(k:Int)\/(f.a=(k:Int)/\∃ o,o<n/\up fs o (k:Int)=true/\bt f.m o=false)):=λz=>no ⟨f,(xU hne).mpr ⟨hf,z⟩,e⟩;refine⟨JR.mp λz=>nf (.inl (by omega)),λz=>?_⟩;cases c:bt f.m p with
    | true=>rfl
    | false =>
     by_cases w:r+1=k
     .subst w;exact absurd (.inr ⟨z,p,hp,pu,c⟩) nf
     .exact absurd (.inl (by omega)) nf
   rw[this] at h1;cases h1
  .exact KW G hne hx r b b1 (EK G pu b2) b3
theorem LM {n:Nat}{fs:List Fl}(G:gu n fs){k:Nat}(hne:upL n fs k≠[])(hne1:upL n fs (k+1)≠[])(hc:(iV n fs (k+1)).length<=(iV n fs k).length){p o:Nat}(hp:p<n)(pu:up fs p ((k+1:Nat):Int)=true)(uo:up fs o (k:Int)=true):hd fs p (k+1) o=true:=by
 unfold hd;rw[j5];refine .inr ((sV G o p _).mpr λf hf=>⟨λe=>(nD G p _).mp pu f hf e,λe=>?_⟩);have a1:=(nD G o _).mp uo f hf e;refine⟨by omega,λz=>?_⟩;cases c:bt f.m p with
 | true=>rfl
 | false =>
  exfalso;have m1:f∈iV n fs (k+1):=(xU hne1).mpr ⟨hf,.inr ⟨z,p,hp,pu,c⟩⟩;have n1:f.h∉(iV n fs k).map Fl.h:=λw=>by
   obtain⟨g,g1,g2⟩:=jq.mp w;have g3:=(xU hne).mp g1;have:=GI G.nd g3.1 hf g2;subst this;rcases g3.2 with w|⟨w,_⟩<;>omega
  have:=xz (l:=f.h::(iV n fs k).map Fl.h) (m:=(iV n fs (k+1)).map Fl.h) (jJ.mpr ⟨n1,LI G k⟩) λi hi=>by
   rcases jx.mp hi with rfl|hi
   .exact jq.mpr ⟨f,m1,rfl⟩
   .obtain⟨g,g1,g2⟩:=jq.mp hi;have g3:=(xU hne).mp g1;refine jq.mpr ⟨g,(xU hne1).mpr ⟨g3.1,.inl ?_⟩,g2⟩;rcases g3.2 with w|⟨w,_⟩<;>omega
  rw[jL,jd,jd] at this;omega
theorem Os {n:Nat}{fs:List Fl}(G:gu n fs){k:Nat}(k1:1<=k)(hne:upL n fs k≠[])(hne1:upL n fs (k+1)≠[])(hc:(iV n fs (k+1)).length<=(iV n fs k).length){f:Fl}(hf:f∈iV n fs k):∀ (d p:Nat),p<n->up fs p ((k+1+d:Nat):Int)=true->zZ fs n (k+1+d) p k f.h
 | 0,p,hp,pu=>by
  have hf:=(xU hne).mp hf;obtain⟨o,o1,o2,o3⟩:∃ o,o<n/\up fs o (k:Int)=true/\hd fs o k f.h=false:=by
   have key:∀ o,up fs o (k:Int)=true->(f.a<(k:Int)\/(f.a=(k:Int)/\bt f.m o=false))->hd fs o k f.h=false:=λo uo z=>by
    cases c:hd fs o k f.h with
    | false=>rfl
    | true =>
     unfold hd at c;rw[j5,decide_eq_true_eq] at c;rcases c with c|c
     .have:=(nD G o _).mp uo f hf.1 c;rcases z with z|⟨z,_⟩<;>omega
     .have:=((sV G f.h o _).mp c f hf.1).2 rfl;rcases z with z|⟨z,z2⟩
      .omega
      .rw[this.2 z] at z2;cases z2
   rcases hf.2 with z|⟨z,o,o1,o2,o3⟩
   .obtain⟨o,ho⟩:=List.exists_mem_of_ne_nil _ hne;have ho:=jA.mp ho;exact⟨o,jm.mp ho.1,ho.2,key o ho.2 (.inl z)⟩
   .exact⟨o,o1,o2,key o o2 (.inr ⟨z,o3⟩)⟩
  refine .inr ⟨o,o1,LM G hne hne1 hc hp pu o2,?_⟩;obtain⟨j,rfl⟩:∃ j,k=j+1:=⟨k-1,by omega⟩;exact .inl ⟨o3,jr _⟩
 | d+1,p,hp,pu=>.inr ⟨p,hp,by unfold hd;rw[Gc rfl];rfl,Os G k1 hne hne1 hc hf d p hp (yS G (by omega) pu)⟩
theorem Wm {n:Nat}{fs:List Fl}(G:gu n fs){k:Nat}(hne:upL n fs k≠[]){r p:Nat}(hp:p<n)(pu:up fs p (r:Int)=true):lc n fs r p k<=(iV n fs k).length:=by
 have:=xz (l:=(jb n).filter λx=>tr (Lk fs n r p k x)) (m:=(iV n fs k).map Fl.h) (qe ul vS) λx hx=>by
  have hx:=jA.mp hx;obtain⟨f,f1,f2⟩:=KW G hne (jm.mp hx.1) r p hp pu ((MV fs n r p k x hp).mp (@of_decide_eq_true _ (uh _) hx.2));exact jq.mpr ⟨f,f1,f2⟩
 rw[jd] at this;exact this
theorem ZC {n:Nat}{fs:List Fl}(G:gu n fs){k:Nat}(k1:1<=k)(hne:upL n fs k≠[])(hne1:upL n fs (k+1)≠[])(hc:(iV n fs (k+1)).length<=(iV n fs k).length){r p:Nat}(hr:k+1<=r)(hp:p<n)(pu:up fs p (r:Int)=true):(iV n fs k).length<=lc n fs r p k:=by
 obtain⟨d,rfl⟩:∃ d,r=k+1+d:=⟨r-(k+1),by omega⟩;have:=xz (l:=(iV n fs k).map Fl.h) (m:=(jb n).filter λx=>tr (Lk fs n (k+1+d) p k x)) (LI G k) λx hx=>by
  obtain⟨f,f1,rfl⟩:=jq.mp hx;exact jA.mpr ⟨jm.mpr (G.hb f ((xU hne).mp f1).1),@Gc _ (uh _) ((MV fs n _ p k f.h hp).mpr (Os G k1 hne hne1 hc f1 d p hp pu))⟩
 rw[jd] at this;exact this
theorem Ky (n:Nat)(fs:List Fl)(r h:Nat)(B:Int)(b0:0<=B):∀ s,(∀ k,k<s->(lc n fs r h (k+1):Int)-((k+1:Nat):Int)<=B)->0<=ws n fs r h s/\ws n fs r h s<=B/\∀ k,k<s->(lc n fs r h (k+1):Int)-((k+1:Nat):Int)<=ws n fs r h s
 | 0,_=>⟨vx _,b0,λk hk=>absurd hk (v5 _)⟩
 | s+1,H=>by
  obtain⟨h1,h2,h3⟩:=Ky n fs r h B b0 s λk hk=>H k (by omega);have e:ws n fs r h (s+1)=if ws n fs r h s<(lc n fs r h (s+1):Int)-((s+1:Nat):Int) then(lc n fs r h (s+1):Int)-((s+1:Nat):Int) else ws n fs r h s:=by
   unfold ws;rw[qO,List.foldl_append];rfl
  have hs:=H s (vP s);rw[e];refine⟨by split<;>omega,by split<;>omega,λk hk=>?_⟩;by_cases z:k=s
  .subst z;split<;>omega
  .have:=h3 k (by omega);split<;>omega
theorem YV (c:Nat->Int):0<=nh c/\(∀ k,1<=k->k<=5->c k-(k:Int)<=nh c)/\(nh c=0\/∃ k,1<=k/\k<=5/\nh c=c k-(k:Int)/\(k<5->c (k+1)<=c k)):=by
 have mxl:∀ a b:Int,a<=mx a b/\b<=mx a b/\(mx a b=a\/mx a b=b):=λa b=>by unfold mx;split<;>omega
 unfold nh;have m1:=mxl 0 (c 1-1);generalize mx 0 (c 1-1)=w1 at *;have m2:=mxl w1 (c 2-2);generalize mx w1 (c 2-2)=w2 at *;have m3:=mxl w2 (c 3-3);generalize mx w2 (c 3-3)=w3 at *;have m4:=mxl w3 (c 4-4);generalize mx w3 (c 4-4)=w4 at *;have m5:=mxl w4 (c 5-5);generalize mx w4 (c 5-5)=w5 at *;refine⟨by omega,λk h1 h2=>?_,?_⟩
 .have:k=1\/k=2\/k=3\/k=4\/k=5:=by omega
  rcases this with rfl|rfl|rfl|rfl|rfl<;>omega
 .by_cases c5:w5=c 5-5
  .exact .inr ⟨5,by omega,by omega,c5,λz=>absurd z (by omega)⟩
  by_cases c4:w5=c 4-4
  .exact .inr ⟨4,by omega,by omega,c4,λ_=>by show c 5<=c 4;omega⟩
  by_cases c3:w5=c 3-3
  .exact .inr ⟨3,by omega,by omega,c3,λ_=>by show c 4<=c 3;omega⟩
  by_cases c2:w5=c 2-2
  .exact .inr ⟨2,by omega,by omega,c2,λ_=>by show c 3<=c 2;omega⟩
  by_cases c1:w5=c 1-1
  .exact .inr ⟨1,by omega,by omega,c1,λ_=>by show c 2<=c 1;omega⟩
  exact .inl (by omega)
theorem Dr {n:Nat}{fs:List Fl}(G:gu n fs){bd:Nat}(hb:bd+2<=n)(hf:fs.length<=bd):∃ L:Nat,(L:Int)=(bd:Int)+1-nh (ik n fs)/\1<=L/\L<=bd+1/\(∀ r p:Nat,p<n->up fs p (r:Int)=true->r<L->¬((bd:Int)-ws n fs r p (r-1)+1<=(r:Int)))/\(∀ p,p<n->up fs p (L:Int)=true->(bd:Int)-ws n fs L p (L-1)+1<=(L:Int))/\∀ p q,p<n->q<n->up fs p (L:Int)=true->up fs q (L:Int)=true->kn fs n L p=kn fs n L q:=by
 have ne:∀ k,upL n fs k≠[]:=SC G (by omega);obtain⟨w0,w1,w2⟩:=YV (ik n fs);have n5:=G.n5;have cle:∀ k,ik n fs k<=(bd:Int):=λk=>by
  have:=UQ (n:=n) (fs:=fs) k;unfold ik;omega
 have bnd:∀ r p:Nat,p<n->up fs p (r:Int)=true->r<=5->0<=ws n fs r p (r-1)/\ws n fs r p (r-1)<=nh (ik n fs)/\∀ k,k<r-1->(lc n fs r p (k+1):Int)-((k+1:Nat):Int)<=ws n fs r p (r-1):=λr p hp pu hr=>Ky n fs r p _ w0 (r-1) λk hk=>by
  have h1:=Wm G (ne (k+1)) hp pu;have h2:=w1 (k+1) (by omega) (by omega);have h3:ik n fs (k+1)=((iV n fs (k+1)).length:Int):=rfl;omega
 have wb:nh (ik n fs)<=(bd:Int):=by
  rcases w2 with z|⟨k,k1,k2,z,_⟩
  .omega
  .have:=cle k;omega
 obtain⟨L,hL⟩:∃ L:Nat,(L:Int)=(bd:Int)+1-nh (ik n fs):=⟨((bd:Int)+1-nh (ik n fs)).toNat,Int.toNat_of_nonneg (by omega)⟩;refine⟨L,hL,by omega,by omega,λr p hp pu hr z=>?_,?_⟩
 .have:=(bnd r p hp pu (by omega)).2.1;omega
 .rcases w2 with z|⟨k,k1,k2,z,k3⟩
  .have e:L=bd+1:=by omega
   subst e;refine⟨λp hp pu=>?_,λp q hp hq pu qu=>Me G hf hp hq pu qu⟩;have:=(bnd (bd+1) p hp pu (by omega)).1;omega
  .by_cases z0:nh (ik n fs)=0
   .have e:L=bd+1:=by omega
    subst e;refine⟨λp hp pu=>?_,λp q hp hq pu qu=>Me G hf hp hq pu qu⟩;have:=(bnd (bd+1) p hp pu (by omega)).1;omega
   .have kL:k+1<=L:=by have:=cle k;omega
    have hc:(iV n fs (k+1)).length<=(iV n fs k).length:=by
     have:=k3 (by omega);unfold ik at this;omega
    refine⟨λp hp pu=>?_,λp q hp hq pu qu=>?_⟩
    .have h1:=ZC G k1 (ne k) (ne (k+1)) hc kL hp pu;have h2:=(bnd L p hp pu (by omega)).2.2 (k-1) (by omega);rw[show k-1+1=k by omega] at h2;have h3:ik n fs k=((iV n fs k).length:Int):=rfl;omega
    .have H:∀ h,h<n->up fs h ((k+1:Nat):Int)=true->∀ i,Tf fs n (k+1) h i=true↔∃ o,o<n/\up fs o (k:Int)=true/\Tf fs n k o i=true:=λh hh hu i=>by
      rw[Nc hh];constructor
      .rintro⟨b,b1,b2,b3⟩;exact⟨b,b1,EK G hu b2,b3⟩
      .rintro⟨b,b1,b2,b3⟩;exact⟨b,b1,LM G (ne k) (ne (k+1)) hc hh hu b2,b3⟩
     have St:=OM G (S:=λi=>∃ o,o<n/\up fs o (k:Int)=true/\Tf fs n k o i=true) H;obtain⟨d,rfl⟩:∃ d,L=k+1+d:=⟨L-(k+1),by omega⟩;unfold kn;refine vM λx _=>?_;rw[jV];exact(St d p hp pu x).trans (St d q hq qu x).symm
theorem LU {n:Nat}{fs:List Fl}(G:gu n fs):fs.length<=n:=by
 have:=xz (l:=fs.map Fl.h) (m:=jb n) G.nd λx hx=>by
  obtain⟨f,hf,rfl⟩:=jq.mp hx;exact jm.mpr (G.hb f hf)
 rw[jd,jK] at this;exact this
theorem my {xs:List D}{n:Nat}(h:∀ x∈xs,x.canLay0=true/\x.depth<=n):jE xs=true/\jF xs<=n:=by
 induction xs with
 | nil=>exact⟨rfl,jX _⟩
 | cons x xs ih =>
  obtain⟨a,b⟩:=h x jf;obtain⟨c,d⟩:=ih λy hy=>h y (jj _ hy);refine⟨by rw[jE,a,c];rfl,?_⟩;rw[jF];omega
open Classical in
noncomputable def fr (Φ:Nat->D):Nat->Nat->D
 | _,0=>.none
 | a,m+1=>if Φ a=.none then fr Φ (a+1) m else .tuple [.int (a:Int),Φ a]
theorem LZ (f:FV)(e0 e1:Sl)(Φ:Nat->D)(n:Nat)(hΦ:∀ k,k<n->Φ k=.none\/∃ i:Int,Φ k=.int i)(hf:∀ k:Nat,k<n->∀ y3,f [e0,e1,.val (.int (k:Int)),y3]=Ga (Φ k)) :
  ∀ (m a:Nat) (y2 y3:Sl),a+m=n->iB (fY (gj 2) (fE (gn 3 f) (gB (fS gS (gv 3) (eW .none)) (hV (tw (eX (gv 2) (eX (gv 3) fH)))) gG)) ((uc a m).map λ(k:Nat)=>.int (k:Int)) [e0,e1,y2,y3]) (hV (eW .none))=Ga (.rt (fr Φ a m))
 | 0,a,y2,y3,_=>rfl
 | m+1,a,y2,y3,e=>by
  rw[vQ,jB];have ih:=LZ f e0 e1 Φ n hΦ hf m (a+1) (.val (.int (a:Int))) (.val (Φ a)) (by omega);have ha:=hf a (by omega);rcases hΦ a (by omega) with z|⟨i,z⟩
  .rw[z] at ha ih;unfold fr;rw[Ge z,<- ih]
   conv=>lhs;unfold fY
   simp_arith[ha]
  .rw[z] at ha;unfold fr;rw[Gf (by rw[z];exact λz=>by cases z),z];unfold fY;simp_arith[ha]
theorem Vp (P:List D->Option D)(c:gD)(φ:D->Option D)(v k d X:D)(y3:Sl)(h:P [v,k]=Ga d)(h2:φ d=Ga X):(oN 0 c φ (gc P (eX (gv 1) (eX (gv 2) fH)))) [.fn c,.val v,.val k,y3]=Ga X:=by
 simp_arith[h];exact h2
theorem Vi (R P:List D->Option D)(c:gD)(φ:D->Option D)(v X:D)(ri:Int)(Ks:List D)(hR:R [v]=Ga (.int ri))(h0:gf (.int (ri+1))=Ga Ks)(q:iB (fY (gj 2) (fE (gn 3 (oN 0 c φ (gc P (eX (gv 1) (eX (gv 2) fH))))) (gB (fS gS (gv 3) (eW .none)) (hV (tw (eX (gv 2) (eX (gv 3) fH)))) gG)) Ks [.fn c,.val v,.no,.no]) (hV (eW .none))=Ga (.rt X)) :
  fK ((fE (lT (lU gf (dE ge (gc R (eX (gv 1) fH)) (eW (.int 1)))) (gj 2) (fE (gn 3 (oN 0 c φ (gc P (eX (gv 1) (eX (gv 2) fH))))) (gB (fS gS (gv 3) (eW .none)) (hV (tw (eX (gv 2) (eX (gv 3) fH)))) gG))) (hV (eW .none))) [.fn c,.val v,.no,.no])=Ga X:=by
 simp_arith[hR,h0];rw[q,OA]
theorem WS {n:Nat}(h:n<1000):gf (.int (n:Int))=Ga ((uc 0 n).map λ(k:Nat)=>.int (k:Int)):=by
 rw[<- u5,<- mV];exact pL (Nat.lt_trans h (by decide))
theorem RH (ns:List D)(fs:List Fl)(hi:∀ d∈ns,∃ i:Int,d=.int i)(r h:Nat)(hh:h<ns.length)(hr:r<=90)(Φ:Nat->D)(hΦ:∀ k,k<r+1->Φ k=.none\/∃ i:Int,Φ k=.int i)(c:gD)(φ:D->Option D)(hφ:∀ k,k<r+1->φ (vw ns fs k h)=Ga (Φ k)) :
  xD c φ [vw ns fs r h]=Ga (fr Φ 0 (r+1)):=by
 rw[UL];unfold Mb;exact Vi oo yo c φ (vw ns fs r h) _ r _ (AH ns fs hi r h hh (by omega)) (WS (n:=r+1) (by omega)) (LZ _ _ _ Φ (r+1) hΦ (λk hk y3=>Vp _ c φ _ _ _ _ y3 (Nx ns fs hi r k h hh (by omega) (by omega)) (hφ k hk)) (r+1) 0 .no .no (by omega))
theorem YY {it:Nat}{P:Gj}{mk:(D->Option D)->gD}{fb:FV}{fm:gD->(D->Option D)->List D->Option D}{ix:List Nat}{g:FL}{ψ:En}{cs as:List D}{X:D}(h1:ψ[it]?=Ga (.tab P))(h2:yi ψ ix=Ga cs)(h3:g ψ=Ga as)(h4:∀ c,fm c (λd=>fb (.val d::cs.map .val)) as=Ga X):pC it P mk fb fm ix g ψ=Ga X:=by
 unfold pC;rw[Ge h1,h2,je,h3,je];exact h4 _
def tl (t:Bool)(m:Int):D:=if t then .int m else .none
section
variable (V:D)(R bd m w:Int)(hR:oo [V]=Ga (.int R))(hm:yM [V]=Ga (.int m))
include hm in
theorem RP (t:Bool):AA [.bool t,V]=Ga (tl t m):=by
 rw[Ru];unfold Eb;generalize yM=A at hm;cases t<;>simp_arith[hm]<;>rfl
include hR in
include hR in
theorem Vj:Ah [V,.int bd]=Ga (.bool (decide (bd+1<=R))):=by
 rw[Ze];unfold GG;generalize oo=A at hR;simp_arith[hR]
include hR hm in
end
section
variable (V:D)(R bd m w:Int)(hR:oo [V]=Ga (.int R))(hm:yM [V]=Ga (.int m))
include hR hm in
theorem SM (hw:xB [V]=Ga (.int w)):sY [V,.int bd]=Ga (tl (decide (bd-w+1<=R)) m):=by
 have h1:=Vj V R (bd-w) hR;have h2:=RP V m hm;rw[UH];unfold FI;generalize Ah=A at h1;generalize AA=B at h2;generalize xB=E at hw;simp_arith[h1,h2,hw]
end
def nU (fs:List Fl)(h R:Nat):Nat:=match md fs h with|some f=>min R (f.a-1).toNat|none=>R
theorem CW (fs:List Fl)(h R:Nat):nU fs h R<=R:=by
 unfold nU;split
 .exact Nat.min_le_left _ _
 .exact jr _
theorem NC {n:Nat}{fs:List Fl}(G:gu n fs)(h R k:Nat)(hk:k<=R):up fs h (k:Int)=true↔k<=nU fs h R:=by
 unfold up nU;cases e:md fs h with
 | none=>exact⟨λ_=>hk,λ_=>rfl⟩
 | some f =>
  have a1:=G.ab f (yJ e).1;dsimp only;rw[decide_eq_true_eq];omega
theorem NH (F:List D->Option D)(R f:D)(h r a x:Int)(h1:F [R,.int h]=Ga f)(h2:(f=.none/\x=r)\/(∃ p m,f=.tuple [p,.int a,m]/\x=if a-1<r then a-1 else r)) :
  fK ((fE (gn 3 (gc F (eX (gv 0) (eX (gv 1) fH)))) (hV (zg (fS iP (gv 3) (eW .none)) (gv 2) (dE mI (gv 2) (dE iz (dE eY (gv 3) (eW (.int 1))) (eW (.int 1))))))) [.val R,.val (.int h),.val (.int r),.no])=Ga (.int x):=by
 rcases h2 with ⟨rfl,rfl⟩|⟨p,m,rfl,rfl⟩
 .simp_arith[h1]
 .simp_arith[h1]
theorem Zl (ns:List D)(fs:List Fl)(G:gu ns.length fs)(h R:Nat):AF [rd ns fs,.int h,.int R]=Ga (.int (nU fs h R:Nat)):=by
 rw[Ur];unfold EX;have h1:=DY ns fs h;unfold su at h1;unfold nU;cases e:md fs h with
 | none =>
  rw[e] at h1;exact NH yB _ _ _ _ 0 _ h1 (.inl ⟨rfl,rfl⟩)
 | some f =>
  rw[e] at h1;have a1:=G.ab f (yJ e).1;refine NH yB _ _ _ _ f.a _ h1 (.inr ⟨_,_,rfl,?_⟩);dsimp only;split<;>omega
theorem TY (V L:List D->Option D)(R W v:D)(h r q:Int)(h1:L [R,.int h,.int r]=Ga (.int q))(h2:V [R,.int q]=Ga W)(h3:eY W (.int h)=Ga v) :
  fK ((hV (dE eY (gc V (eX (gv 0) (eX (gc L (eX (gv 0) (eX (gv 1) (eX (gv 2) fH)))) fH))) (gv 1))) [.val R,.val (.int h),.val (.int r)])=Ga v:=by
 simp_arith[h1,h2,h3]
theorem UK (ns:List D)(fs:List Fl)(G:gu ns.length fs)(h R:Nat)(hh:h<ns.length)(hR:R<=5):xj [rd ns fs,.int h,.int R]=Ga (vw ns fs (nU fs h R) h):=by
 rw[zjS];unfold Ei;have l:=CW fs h R;refine TY rK AF _ _ _ _ _ _ (Zl ns fs G h R) (Nh ns fs G (nU fs h R) (by omega)) ((NU hh).trans ?_);unfold oI;rw[Ge ((NC G h R _ l).mpr (jr _))]
theorem YI (C:gD->(D->Option D)->List D->Option D)(M L:List D->Option D)(c:gD)(φ:D->Option D)(Rn R:D)(n:Int)(Ks ds:List D)(hM:M [Rn]=Ga (.int n))(h0:gf (.int n)=Ga Ks)(hl:Ks.length<=1000000)(q:iq (λ_=>Ga true) (nZ 2 c (C c φ) (eX (gc L (eX (gv 3) (eX (gv 0) (eX (gv 1) fH)))) fH)) [.val R,.fn c,.val Rn] Ks=Ga ds) :
  fK ((hV (gR (fQ (lU gf (gc M (eX (gv 1) fH))) (λ_=>Ga true) (nZ 2 c (C c φ) (eX (gc L (eX (gv 3) (eX (gv 0) (eX (gv 1) fH)))) fH)) [2,0,1]))) [.fn c,.val Rn,.val R])=Ga (.list ds):=by
 have e:fQ (lU gf (gc M (eX (gv 1) fH))) (λ_=>Ga true) (nZ 2 c (C c φ) (eX (gc L (eX (gv 3) (eX (gv 0) (eX (gv 1) fH)))) fH)) [2,0,1] [.fn c,.val Rn,.val R]=Ga ds:=by
  rw[xE];have:lU gf (gc M (eX (gv 1) fH)) [.fn c,.val Rn,.val R]=Ga Ks:=by simp_arith[hM,h0]
  rw[this,je,Ge hl];exact q
 simp_arith[e]
theorem ZD (C:gD->(D->Option D)->List D->Option D)(L:List D->Option D)(c:gD)(φ:D->Option D)(Rn R k v X:D)(h1:L [Rn,k,R]=Ga v)(h2:C c φ [v]=Ga X):(nZ 2 c (C c φ) (eX (gc L (eX (gv 3) (eX (gv 0) (eX (gv 1) fH)))) fH)) [.val k,.val R,.fn c,.val Rn]=Ga X:=by
 simp_arith[h1,h2]
theorem zpE (ns:List D)(fs:List Fl)(G:gu ns.length fs)(hi:∀ d∈ns,∃ i:Int,d=.int i)(R:Nat)(hR:R<=4)(Φ:Nat->Nat->D)(c:gD)(φ:D->Option D)(hΦ:∀ h k,h<ns.length->k<=nU fs h R->(Φ h k=.none\/∃ i:Int,Φ h k=.int i)/\φ (vw ns fs k h)=Ga (Φ h k)) :
  wF c φ [rd ns fs,.int R]=Ga (.list ((jb ns.length).map λh=>fr (Φ h) 0 (nU fs h R+1))):=by
 rw[ZO];unfold Ox;have n5:=G.n5;refine YI xD tN xj c φ _ _ ns.length (gT 0 ns.length) _ (EH ns fs) (pL (by omega)) (by rw[ww];omega) ?_;rw[mV];refine(wM (F:=λd=>match d with|.int t=>fr (Φ t.toNat) 0 (nU fs t.toNat R+1)|_=>.none) λd hd=>?_).trans ?_
 .obtain⟨h,hh,rfl⟩:=jq.mp hd;have hh:=jm.mp hh;have l:=CW fs h R;show _=Ga (fr (Φ (h:Int).toNat) 0 (nU fs (h:Int).toNat R+1));rw[jR];exact ZD xD xj c φ _ _ _ _ _ (UK ns fs G h R hh (by omega)) (RH ns fs hi (nU fs h R) h hh (by omega) (Φ h) (λk hk=>(hΦ h k hh (by omega)).1) c φ λk hk=>(hΦ h k hh (by omega)).2)
 .rw[jT];rfl
theorem PJ (Pl:List D->Option D)(v b X:D)(h:Pl [v,b]=Ga X):(gc Pl (eX (gv 0) (eX (gv 1) fH))) [.val v,.val b]=Ga X:=by
 simp_arith[h]
theorem Mm (Φ:Nat->D):∀ (m a:Nat),(∀ k,a<=k->k<a+m->Φ k=.none\/∃ i:Int,Φ k=.int i)->(fr Φ a m=.none/\∀ k,a<=k->k<a+m->Φ k=.none)\/∃ (k:Nat) (i:Int),a<=k/\k<a+m/\Φ k=.int i/\fr Φ a m=.tuple [.int (k:Int),.int i]
 | 0,a,_=>.inl ⟨rfl,λk h1 h2=>by omega⟩
 | m+1,a,h=>by
  unfold fr;rcases h a (jr _) (by omega) with e|⟨i,e⟩
  .rw[Ge e];rcases Mm Φ m (a+1) λk h1 h2=>h k (by omega) (by omega) with ⟨z1,z2⟩|⟨k,i,z1,z2,z3,z4⟩
   .refine .inl ⟨z1,λk h1 h2=>?_⟩;by_cases c:k=a
    .rw[c];exact e
    .exact z2 k (by omega) (by omega)
   .exact .inr ⟨k,i,by omega,by omega,z3,z4⟩
  .rw[Gf (by rw[e];exact λz=>by cases z),e];exact .inr ⟨a,i,jr _,by omega,e,rfl⟩
structure pG (ns:List D)(fs:List Fl)(F:List D->Option D)(bd:Nat)(t:Nat->Nat->Bool)(Φ:Nat->Nat->D):Prop where
 eq:∀ h k,h<ns.length->k<=4->F [vw ns fs k h,.int bd]=Ga (Φ h k)
 no:∀ h k,h<ns.length->k<=4->t h k=false->Φ h k=.none
 yes:∀ h k,h<ns.length->k<=4->t h k=true->∃ m:Int,Φ h k=.int m/\oh ((kn fs ns.length k h).map λo=>ns.getD o .none)=Ga (.int m)
theorem SG (ns:List D)(fs:List Fl)(hi:∀ d∈ns,∃ i:Int,d=.int i)(F:List D->Option D)(bd:Nat)(t:Nat->Nat->Bool)(hF:∀ h k (m:Int),h<ns.length->k<=4->oh ((kn fs ns.length k h).map λo=>ns.getD o .none)=Ga (.int m)->F [vw ns fs k h,.int bd]=Ga (tl (t h k) m)):∃ Φ,pG ns fs F bd t Φ:=by
 have H:∀ h k,h<ns.length/\k<=4->∃ T:D,F [vw ns fs k h,.int bd]=Ga T/\(t h k=false->T=.none)/\(t h k=true->∃ m:Int,T=.int m/\oh ((kn fs ns.length k h).map λo=>ns.getD o .none)=Ga (.int m)):=λh k hk=>by
  obtain⟨m,hm⟩:=Wp ns fs hi k h hk.1;refine⟨_,hF h k m hk.1 hk.2 hm,λz=>?_,λz=>⟨m,?_,hm⟩⟩
  .rw[z];rfl
  .rw[z];rfl
 refine⟨λh k=>if q:h<ns.length/\k<=4 then u8 (H h k q) else .none,λh k hh hk=>?_,λh k hh hk=>?_,λh k hh hk=>?_⟩
 all_goals rw[dif_pos ⟨hh,hk⟩]
 .exact(jU (H h k ⟨hh,hk⟩)).1
 .exact(jU (H h k ⟨hh,hk⟩)).2.1
 .exact(jU (H h k ⟨hh,hk⟩)).2.2
theorem pG.or {ns:List D}{fs:List Fl}{F:List D->Option D}{bd:Nat}{t:Nat->Nat->Bool}{Φ:Nat->Nat->D}(T:pG ns fs F bd t Φ){h k:Nat}(hh:h<ns.length)(hk:k<=4):Φ h k=.none\/∃ i:Int,Φ h k=.int i:=by
 cases c:t h k with
 | false=>exact .inl (T.no h k hh hk c)
 | true=>obtain⟨m,e,_⟩:=T.yes h k hh hk c;exact .inr ⟨m,e⟩
theorem pG.at {ns:List D}{fs:List Fl}{F:List D->Option D}{bd:Nat}{t:Nat->Nat->Bool}{Φ:Nat->Nat->D}(T:pG ns fs F bd t Φ){h k:Nat}(hh:h<ns.length)(hk:k<=4){i:Int}(e:Φ h k=.int i):t h k=true/\oh ((kn fs ns.length k h).map λo=>ns.getD o .none)=Ga (.int i):=by
 cases c:t h k with
 | false=>rw[T.no h k hh hk c] at e;cases e
 | true =>
  obtain⟨m,e1,e2⟩:=T.yes h k hh hk c;rw[e] at e1;rw[uA e1];exact⟨rfl,e2⟩
theorem pG.chs {ns:List D}{fs:List Fl}{F:List D->Option D}{bd:Nat}{t:Nat->Nat->Bool}{Φ:Nat->Nat->D}(T:pG ns fs F bd t Φ)(G:gu ns.length fs)(hi:∀ d∈ns,∃ i:Int,d=.int i)(R:Nat)(hR:R<=4)(c:gD):wF c (λd=>(gc F (eX (gv 0) (eX (gv 1) fH))) (.val d::[jc (bd:Int)].map .val)) [rd ns fs,.int R]=Ga (.list ((jb ns.length).map λh=>fr (Φ h) 0 (nU fs h R+1))):=by
 refine zpE ns fs G hi R hR Φ c _ λh k hh hk=>?_;have l:=CW fs h R;exact⟨T.or hh (by omega),PJ F _ _ _ (T.eq h k hh (by omega))⟩
theorem Ea {n:Nat}{fs:List Fl}(G:gu n fs)(h R:Nat):nU fs h R=R↔up fs h (R:Int)=true:=by
 rw[NC G h R R (jr _)];have:=CW fs h R;omega
def pa (L:List Nat)(i:Nat):Nat:=L.getD i 0
def UF (L:List Nat):Prop:=∀ i,i<L.length->pa L i<=i
def pX (L:List Nat):Nat->Nat->Nat
 | 0,i=>i
 | n+1,i=>if pa L i=i then i else pX L n (pa L i)
def ft (L:List Nat)(i:Nat):Nat:=pX L i i
theorem zyX {L:List Nat}(U:UF L):∀ (i n m:Nat),i<L.length->i<=n->i<=m->pX L n i=pX L m i:=by
 intro i;induction i using vk with
 | ind i ih =>
  intro n m hi hn hm;by_cases c:pa L i=i
  .have e:∀ n,pX L n i=i:=λn=>by cases n with
    | zero=>rfl
    | succ n=>unfold pX;rw[Ge c]
   rw[e n,e m]
  .have h:=U i hi;obtain⟨n',rfl⟩:∃ n',n=n'+1:=⟨n-1,by omega⟩;obtain⟨m',rfl⟩:∃ m',m=m'+1:=⟨m-1,by omega⟩;unfold pX;rw[Gf c,Gf c];exact ih _ (by omega) n' m' (by omega) (by omega) (by omega)
theorem pO {L:List Nat}{i:Nat}(c:pa L i=i):ft L i=i:=by
 unfold ft;cases i with
 | zero=>rfl
 | succ n=>unfold pX;rw[Ge c]
theorem rA {L:List Nat}(U:UF L){i:Nat}(hi:i<L.length)(c:pa L i≠i):ft L i=ft L (pa L i):=by
 have h:=U i hi;unfold ft;obtain⟨n,rfl⟩:∃ n,i=n+1:=⟨i-1,by omega⟩;have e:pX L (n+1) (n+1)=pX L n (pa L (n+1)):=by
  show(if pa L (n+1)=n+1 then n+1 else pX L n (pa L (n+1)))=_;rw[Gf c]
 rw[e];exact zyX U _ _ _ (by omega) (by omega) (jr _)
theorem yW {L:List Nat}(U:UF L):∀ i,i<L.length->pa L (ft L i)=ft L i/\ft L i<=i:=by
 intro i;induction i using vk with
 | ind i ih =>
  intro hi;by_cases c:pa L i=i
  .rw[pO c];exact⟨c,jr _⟩
  .have h:=U i hi;rw[rA U hi c];have:=ih (pa L i) (by omega) (by omega);exact⟨this.1,by omega⟩
theorem sQ {L:List Nat}{p v i:Nat}(hp:p<L.length):pa (L.set p v) i=if i=p then v else pa L i:=by
 unfold pa;rw[jl,jl];by_cases c:i=p
 .subst c;rw[jN hp,Ge rfl];rfl
 .rw[jI (kT c),Gf c]
structure og (L L':List Nat):Prop where
 uf:UF L'
 len:L'.length=L.length
 rt:∀ x,x<L.length->ft L' x=ft L x
theorem og.refl {L:List Nat}(U:UF L):og L L:=⟨U,rfl,λ_ _=>rfl⟩
theorem og.trans {L L1 L2:List Nat}(a:og L L1)(b:og L1 L2):og L L2:=⟨b.uf,b.len.trans a.len,λx hx=>(b.rt x (by rw[a.len];exact hx)).trans (a.rt x hx)⟩
theorem Kv {L:List Nat}(U:UF L){p:Nat}(hp:p<L.length)(c:pa L p≠p):og L (L.set p (pa L (pa L p))):=by
 have h1:=U p hp;have h2:=U (pa L p) (by omega);have hl:(L.set p (pa L (pa L p))).length=L.length:=vi ..;have U':UF (L.set p (pa L (pa L p))):=λi hi=>by
  rw[hl] at hi;rw[sQ hp];split
  .omega
  .exact U i hi
 refine⟨U',hl,λx=>?_⟩;induction x using vk with
 | ind x ih =>
  intro hx;by_cases d:x=p
  .subst d;have e:pa (L.set x (pa L (pa L x))) x=pa L (pa L x):=by rw[sQ hp,Ge rfl]
   rw[rA U' (by rw[hl];exact hx) (by rw[e];omega),e,ih _ (by omega) (by omega),rA U hx c];by_cases f:pa L (pa L x)=pa L x
   .rw[f]
   .rw[rA U (by omega) f]
  .have e:pa (L.set p (pa L (pa L p))) x=pa L x:=by rw[sQ hp,Gf d]
   by_cases f:pa L x=x
   .rw[pO (e.trans f),pO f]
   .have h3:=U x hx;rw[rA U' (by rw[hl];exact hx) (by rw[e];exact f),e,ih _ (by omega) (by omega),rA U hx f]
theorem Kn {L:List Nat}(U:UF L){a b:Nat}(hb:b<L.length)(hab:a<=b)(ra:pa L a=a)(rb:pa L b=b):UF (L.set b a)/\(L.set b a).length=L.length/\∀ x,x<L.length->ft (L.set b a) x=if ft L x=b then a else ft L x:=by
 have hl:(L.set b a).length=L.length:=vi ..;have U':UF (L.set b a):=λi hi=>by
  rw[hl] at hi;rw[sQ hb];split
  .omega
  .exact U i hi
 refine⟨U',hl,λx=>?_⟩;induction x using vk with
 | ind x ih =>
  intro hx;by_cases f:pa L x=x
  .rw[pO f];by_cases d:x=b
   .subst d;rw[Ge rfl];have e:pa (L.set x a) x=a:=by rw[sQ hb,Ge rfl]
    by_cases g:a=x
    .rw[pO (e.trans g)];exact g.symm
    .rw[rA U' (by rw[hl];exact hx) (by rw[e];exact g),e];exact pO (by rw[sQ hb,Gf g];exact ra)
   .rw[Gf d];exact pO (by rw[sQ hb,Gf d];exact f)
  .have d:x≠b:=λz=>f (z▸rb);have h3:=U x hx;have e:pa (L.set b a) x=pa L x:=by rw[sQ hb,Gf d]
   rw[rA U' (by rw[hl];exact hx) (by rw[e];exact f),e,ih _ (by omega) (by omega),rA U hx f]
theorem Cu (L:List Nat):(il L).length=L.length:=jd ..
theorem AY {L:List Nat}{i:Nat}(h:i<L.length):L2.atI (il L) (i:Int)=Ga (.int (pa L i:Nat)):=by
 refine yv ?_;unfold il pa;rw[jw,jh h,jl,jh h];rfl
theorem NR {L:List Nat}{i v:Nat}(h:i<L.length):xL (il L) (.int (i:Int)) (.int (v:Int))=Ga (il (L.set i v)):=by
 show(L2.ixN (il L).length (i:Int)).bind _=_;have e:L2.ixN (il L).length (i:Int)=Ga i:=by
  unfold L2.ixN;rw[Cu,Ge (by omega),Ge (by omega),jR]
 rw[e];unfold il;rw[List.map_set];rfl
theorem KR (A:List D)(a:Gj)(p x:Int)(h:L2.atI A p=Ga (.int x)):(fS ia (dE eY (gv 0) (gv 1)) (gv 1)) (frz [.owk a A,.val (.int p)])=Ga (decide (¬x=p)):=by
 simp_arith[h]
theorem Za (A A':List D)(a:Gj)(p x y:Int)(h1:L2.atI A p=Ga (.int x))(h2:L2.atI A x=Ga (.int y))(h3:xL A (.int p) (.int y)=Ga A')(h4:L2.atI A' p=Ga (.int y)):(fE (nN 0 (gv 1) (nk (mW 0) (nk (mW 0) (gv 1)))) (gn 1 (nk (mW 0) (gv 1)))) [.owk a A,.val (.int p)]=Ga (.nx [.owk a A',.val (.int y)]):=by
 simp_arith[h1,h2,h3,h4]
theorem XY:∀ (p n:Nat) (L:List Nat),UF L->p<L.length->p<n->∃ L',og L L'/\∀ a,iA (fS ia (dE eY (gv 0) (gv 1)) (gv 1)) (fE (nN 0 (gv 1) (nk (mW 0) (nk (mW 0) (gv 1)))) (gn 1 (nk (mW 0) (gv 1)))) n [.owk a (il L),.val (.int (p:Int))]=Ga (.nx [.owk a (il L'),.val (.int (ft L p:Nat))]):=by
 intro p;induction p using vk with
 | ind p ih =>
  intro n L U hp hn;obtain⟨m,rfl⟩:∃ m,n=m+1:=⟨n-1,by omega⟩;have u1:=U p hp;by_cases c:pa L p=p
  .refine⟨L,.refl U,λa=>?_⟩;unfold iA;have hd:decide (¬((pa L p:Nat):Int)=(p:Int))=false:=decide_eq_false_iff_not.mpr λz=>z (by rw[c]);rw[KR (il L) a p _ (AY hp),je,hd,Gf (by decide),pO c]
  .have u2:=U (pa L p) (by omega);have A1:=Kv U hp c;have e1:pa (L.set p (pa L (pa L p))) p=pa L (pa L p):=by rw[sQ hp,Ge rfl]
   have hp1:p<(L.set p (pa L (pa L p))).length:=by rw[A1.len];exact hp
   obtain⟨L',A2,w⟩:=ih (pa L (pa L p)) (by omega) m (L.set p (pa L (pa L p))) A1.uf (by rw[A1.len];omega) (by omega);refine⟨L',A1.trans A2,λa=>?_⟩;have hb:=Za (il L) (il (L.set p (pa L (pa L p)))) a p (pa L p:Nat) (pa L (pa L p):Nat) (AY hp) (AY (by omega)) (NR hp) (by rw[AY hp1,e1]);have hd:decide (¬((pa L p:Nat):Int)=(p:Int))=true:=decide_eq_true_iff.mpr λz=>c (by omega);unfold iA;rw[KR (il L) a p _ (AY hp),je,hd,Ge rfl,hb,je];dsimp only;rw[w a,A1.rt _ (by omega),rA U hp c];by_cases f:pa L (pa L p)=pa L p
   .rw[f]
   .rw[rA U (by omega) f]
theorem Vm (a:Gj)(A:List D)(d:D):iB (Ga (.nx [.owk a A,.val d])) (Dp (gv 1))=Ga (.rc d [.owk a A,.val d]):=by simp_arith[]
theorem DM {L:List Nat}(U:UF L){p:Nat}(hp:p<L.length)(h1000:L.length<1000):∃ L',og L L'/\∀ a,ma [.owk a (il L),.val (.int (p:Int))]=Ga (.rc (.int (ft L p:Nat)) [.owk a (il L'),.val (.int (ft L p:Nat))]):=by
 obtain⟨L',A,w⟩:=XY p 1000 L U hp (by omega);refine⟨L',A,λa=>?_⟩;rw[Yd];show iB (iA (fS ia (dE eY (gv 0) (gv 1)) (gv 1)) (fE (nN 0 (gv 1) (nk (mW 0) (nk (mW 0) (gv 1)))) (gn 1 (nk (mW 0) (gv 1)))) 1000 [.owk a (il L),.val (.int (p:Int))]) (Dp (gv 1))=_;rw[w a];exact Vm a _ _
theorem Sm {L L':List Nat}{p i:Nat}{ψ:En}{r:D}{e1:Sl}(h:ψ[i]?=Ga (.own (il L)))(w:∀ a,ma [.owk a (il L),.val (.int (p:Int))]=Ga (.rc r [.owk a (il L'),e1])):mG 2 ma [.inr i,.inl (.int (p:Int))] ψ=Ga (r,ψ.set i (.own (il L'))):=by
 refine FR λt=>?_;have e0:pK ψ t (.inr i)=Ga (.owk (t i) (il L)):=by unfold pK;dsimp only;rw[h]
 have e1:nw ψ t [.inr i,.inl (.int (p:Int))]=Ga [.owk (t i) (il L),.val (.int (p:Int))]:=by
  unfold nw;rw[e0];rfl
 unfold sC;rw[e1,je,show[Sl.owk (t i) (il L),.val (.int (p:Int))]++jP (2-[Sl.owk (t i) (il L),.val (.int (p:Int))].length) .no=[.owk (t i) (il L),.val (.int (p:Int))] from rfl,w,je];dsimp only;simp only[oj,h,pe,je,uL,if_true]
theorem Ol {L L':List Nat}{p i:Nat}{ψ:En}{c:Gj}{r:D}{e1:Sl}(h:ψ[i]?=Ga (.owk c (il L)))(w:∀ a,ma [.owk a (il L),.val (.int (p:Int))]=Ga (.rc r [.owk a (il L'),e1])):mG 2 ma [.inr i,.inl (.int (p:Int))] ψ=Ga (r,ψ.set i (.owk c (il L'))):=by
 refine FR λt=>?_;have e0:pK ψ t (.inr i)=Ga (.owk (t i) (il L)):=by unfold pK;dsimp only;rw[h]
 have e1:nw ψ t [.inr i,.inl (.int (p:Int))]=Ga [.owk (t i) (il L),.val (.int (p:Int))]:=by
  unfold nw;rw[e0];rfl
 unfold sC;rw[e1,je,show[Sl.owk (t i) (il L),.val (.int (p:Int))]++jP (2-[Sl.owk (t i) (il L),.val (.int (p:Int))].length) .no=[.owk (t i) (il L),.val (.int (p:Int))] from rfl,w,je];dsimp only;simp only[oj,h,pe,je,uL,if_true]
theorem LD {j n:Nat}{g:FS}{a:FA}{ψ env2:En}{as:List T3.Arg}{d:D}(h1:a ψ=Ga as)(h2:(gN as).Nodup)(h3:∀ i∈gN as,∃ s,ψ[i]?=Ga s/\gJ s=true)(h4:mG n g as ψ=Ga (d,env2)):ml j n g a ψ=Ga (.nx (env2.set j (.val d))):=by
 unfold ml;rw[h1,je,Ge ⟨h2,h3⟩,h4];rfl
theorem YG (a:Gj)(A A':List D)(x y:Sl)(f o M m:Int)(hM:(if o>f then o else f)=M)(hm:(if o<f then o else f)=m)(h:xL A (.int M) (.int m)=Ga A'):(nN 0 (dE pA (gv 3) (gv 4)) (dE mI (gv 3) (gv 4))) [.owk a A,x,y,.val (.int f),.val (.int o)]=Ga (.nx [.owk a A',x,y,.val (.int f),.val (.int o)]):=by
 simp_arith[hM,hm,h]
theorem OE {L:List Nat}(U:UF L){q p:Nat}(hq:q<L.length)(hp:p<L.length)(h1000:L.length<1000):∃ L3,UF L3/\L3.length=L.length/\(∀ x,x<L.length->ft L3 x=if ft L x=max (ft L q) (ft L p) then min (ft L q) (ft L p) else ft L x) /\
  ∃ e,∀ a,oG [.owk a (il L),.val (.int (q:Int)),.val (.int (p:Int)),.no,.no]=Ga (.rc .none (.owk a (il L3)::e)):=by
 obtain⟨L1,A1,w1⟩:=DM U hq h1000;obtain⟨L2,A2,w2⟩:=DM A1.uf (p:=p) (by rw[A1.len];exact hp) (by rw[A1.len];exact h1000);have A:=A1.trans A2;obtain⟨i1,i2⟩:=yW U q hq;obtain⟨j1,j2⟩:=yW U p hp;have k1:pa L2 (ft L q)=ft L q:=by
  have:=yW A.uf q (by rw[A.len];exact hq);rw[A.rt q hq] at this;exact this.1
 have k2:pa L2 (ft L p)=ft L p:=by
  have:=yW A.uf p (by rw[A.len];exact hp);rw[A.rt p hp] at this;exact this.1
 have hM:max (ft L q) (ft L p)<L2.length:=by rw[A.len];omega
 have kM:pa L2 (max (ft L q) (ft L p))=max (ft L q) (ft L p):=by
  rcases Nat.le_total (ft L q) (ft L p) with c|c
  .rw[Nat.max_eq_right c];exact k2
  .rw[Nat.max_eq_left c];exact k1
 have km:pa L2 (min (ft L q) (ft L p))=min (ft L q) (ft L p):=by
  rcases Nat.le_total (ft L q) (ft L p) with c|c
  .rw[Nat.min_eq_left c];exact k1
  .rw[Nat.min_eq_right c];exact k2
 obtain⟨U3,l3,r3⟩:=Kn A.uf hM (show min (ft L q) (ft L p)<=max (ft L q) (ft L p) by omega) km kM;refine⟨_,U3,l3.trans A.len,λx hx=>?_,[.val (.int (q:Int)),.val (.int (p:Int)),.val (.int (ft L q:Nat)),.val (.int (ft L p:Nat))],λa=>?_⟩
 .rw[r3 x (by rw[A.len];exact hx),A.rt x hx]
 .rw[A1.rt p hp] at w2;have c1:(ml 3 2 ma (xm 0 (xg (gv 1) yf))) [.owk a (il L),.val (.int (q:Int)),.val (.int (p:Int)),.no,.no]=Ga (.nx [.owk a (il L1),.val (.int (q:Int)),.val (.int (p:Int)),.val (.int (ft L q:Nat)),.no]) :=
   LD (as:=[.inr 0,.inl (.int (q:Int))]) rfl (jJ.mpr ⟨by simp[gN],j7⟩) (λi hi=>by rw[show gN [Sum.inr 0,.inl (.int (q:Int))]=[0] from rfl] at hi;rw[jp.mp hi];exact⟨_,rfl,rfl⟩) (Ol (c:=a) rfl w1)
  have c2:(ml 4 2 ma (xm 0 (xg (gv 2) yf))) [.owk a (il L1),.val (.int (q:Int)),.val (.int (p:Int)),.val (.int (ft L q:Nat)),.no]=Ga (.nx [.owk a (il L2),.val (.int (q:Int)),.val (.int (p:Int)),.val (.int (ft L q:Nat)),.val (.int (ft L p:Nat))]) :=
   LD (as:=[.inr 0,.inl (.int (p:Int))]) rfl (jJ.mpr ⟨by simp[gN],j7⟩) (λi hi=>by rw[show gN [Sum.inr 0,.inl (.int (p:Int))]=[0] from rfl] at hi;rw[jp.mp hi];exact⟨_,rfl,rfl⟩) (Ol (c:=a) rfl w2)
  have c3:=YG a (il L2) (il (L2.set (max (ft L q) (ft L p)) (min (ft L q) (ft L p)))) (.val (.int (q:Int))) (.val (.int (p:Int))) (ft L q:Nat) (ft L p:Nat) (max (ft L q) (ft L p):Nat) (min (ft L q) (ft L p):Nat) (by split<;>omega) (by split<;>omega) (NR hM);show(GO _).bind _=_;rw[Ry];show(iB ((ml 3 2 ma (xm 0 (xg (gv 1) yf))) [.owk a (il L),.val (.int (q:Int)),.val (.int (p:Int)),.no,.no]) (fE (ml 4 2 ma (xm 0 (xg (gv 2) yf))) (nN 0 (dE pA (gv 3) (gv 4)) (dE mI (gv 3) (gv 4))))).bind _=_;rw[c1];show(iB ((ml 4 2 ma (xm 0 (xg (gv 2) yf))) [.owk a (il L1),.val (.int (q:Int)),.val (.int (p:Int)),.val (.int (ft L q:Nat)),.no]) (nN 0 (dE pA (gv 3) (gv 4)) (dE mI (gv 3) (gv 4)))).bind _=_;rw[c2,LA,c3];rfl
theorem FG {n:Nat}{g:FS}{a:mQ}{ψ env1 env2:En}{as:List T3.Arg}{d:D}(h1:a ψ=Ga (as,env1))(h2:(gN as).Nodup)(h3:∀ i∈gN as,∃ s,env1[i]?=Ga s/\gJ s=true)(h4:mG n g as env1=Ga (d,env2)):mv n g a ψ=Ga (d,env2):=by
 unfold mv;rw[h1,je];dsimp only;rw[Ge ⟨h2,h3⟩];exact h4
theorem Be {L L3:List Nat}{q p:Nat}{ψ e:En}(h:ψ[2]?=Ga (.own (il L)))(w:∀ a,oG [.owk a (il L),.val (.int (q:Int)),.val (.int (p:Int)),.no,.no]=Ga (.rc .none (.owk a (il L3)::e))):mG 5 oG [.inr 2,.inl (.int (q:Int)),.inl (.int (p:Int))] ψ=Ga (.none,ψ.set 2 (.own (il L3))):=by
 refine FR λt=>?_;have e0:pK ψ t (.inr 2)=Ga (.owk (t 2) (il L)):=by unfold pK;dsimp only;rw[h]
 have e1:nw ψ t [.inr 2,.inl (.int (q:Int)),.inl (.int (p:Int))]=Ga [.owk (t 2) (il L),.val (.int (q:Int)),.val (.int (p:Int))]:=by
  unfold nw;rw[e0];rfl
 unfold sC;rw[e1,je,show[Sl.owk (t 2) (il L),.val (.int (q:Int)),.val (.int (p:Int))]++jP (5-[Sl.owk (t 2) (il L),.val (.int (q:Int)),.val (.int (p:Int))].length) .no=[.owk (t 2) (il L),.val (.int (q:Int)),.val (.int (p:Int)),.no,.no] from rfl,w,je];dsimp only;simp only[oj,h,pe,je,uL,if_true]
def Mt (rows:Nat->List D)(x y:Nat):Prop:=∃ v,v≠.none/\v∈rows x/\v∈rows y
inductive Cn (rows:Nat->List D)(N:Nat):Nat->Nat->Prop where
 | refl (x:Nat):Cn rows N x x
 | step {x y z:Nat} (a:Cn rows N x y) (hy:y<N) (hz:z<N) (m:Mt rows y z):Cn rows N x z
theorem Mt.symm {rows:Nat->List D}{x y:Nat}(m:Mt rows x y):Mt rows y x:=by obtain⟨v,h1,h2,h3⟩:=m;exact⟨v,h1,h3,h2⟩
theorem Cn.trans {rows:Nat->List D}{N x y z:Nat}(a:Cn rows N x y)(b:Cn rows N y z):Cn rows N x z:=by
 induction b with
 | refl=>exact a
 | step b hy hz m ih=>exact .step ih hy hz m
theorem Cn.symm {rows:Nat->List D}{N x y:Nat}(a:Cn rows N x y):Cn rows N y x:=by
 induction a with
 | refl=>exact .refl _
 | step b hy hz m ih=>exact(Cn.step (.refl _) hz hy m.symm).trans ih
structure JI (rows:Nat->List D)(N:Nat)(done:Nat->D->Prop)(L:List Nat)(kvs:List (D×D)):Prop where
 uf:UF L
 len:L.length=N
 i1:∀ x v,done x v->∃ q:Nat,mz kvs v=Ga (.int (q:Int))/\q<N/\ft L q=ft L x
 i2:∀ v d,mz kvs v=Ga d->∃ q:Nat,d=.int (q:Int)/\q<N/\v∈rows q/\v≠.none
 i3:∀ x y,x<N->y<N->ft L x=ft L y->Cn rows N x y
theorem Oy {kvs:List (D×D)}{v d:D}(h:mz kvs v=Gb)(w:D):mz (kvs++[(v,d)]) w=if w=v then Ga d else mz kvs w:=by
 unfold mz at h ⊢;rw[List.find?_append];by_cases c:w=v
 .subst c;rw[Ge rfl];rw[vJ] at h;rw[h,Option.none_or,kB (p:=λ(p:D×D)=>decide (p.1=w)) (Gc rfl)];rfl
 .rw[Gf c,kC (p:=λ(p:D×D)=>decide (p.1=w)) (by simpa using λz=>c z.symm),List.find?_nil,Option.or_none]
theorem Kj {ra rb c d M m:Nat}(hM:M=max ra rb)(hm:m=min ra rb)(e:(if c=M then m else c)=(if d=M then m else d)):c=d\/(c=ra/\d=rb)\/(c=rb/\d=ra):=by
 split at e<;>split at e<;>omega
theorem LR {rows:Nat->List D}{N:Nat}{done:Nat->D->Prop}{L L3:List Nat}{kvs kvs':List (D×D)}{v:D}{q p:Nat}(J:JI rows N done L kvs)(hp:p<N)(hq:q<N)(hv:v≠.none)(vp:v∈rows p)(vq:v∈rows q)
  (hk:mz kvs' v=Ga (.int (q:Int))) (hk2:∀ w,w≠v->mz kvs' w=mz kvs w) (hk3:∀ x,done x v->mz kvs v=Ga (.int (q:Int))) (U:UF L3) (hl:L3.length=L.length) (hr:∀ x,x<L.length->ft L3 x=if ft L x=max (ft L q) (ft L p) then min (ft L q) (ft L p) else ft L x) :
  (∀ x w,done x w->x<N)->JI rows N (λx w=>done x w\/(x=p/\w=v)) L3 kvs':=λdN=>by
 have hN:=J.len;have rr:∀ x y,x<N->y<N->ft L x=ft L y->ft L3 x=ft L3 y:=λx y hx hy e=>by rw[hr x (by omega),hr y (by omega),e]
 have rqp:ft L3 q=ft L3 p:=by
  rw[hr q (by omega),hr p (by omega)];split<;>split<;>omega
 refine⟨U,hl.trans hN,λx w h=>?_,λw d h=>?_,λx y hx hy e=>?_⟩
 .rcases h with h|⟨rfl,rfl⟩
  .obtain⟨q',h1,h2,h3⟩:=J.i1 x w h;by_cases c:w=v
   .subst c;have:=hk3 x h;rw[h1] at this;have:q'=q:=by have:=jy this;have:=uA this;omega
    subst this;exact⟨q',hk,hq,rr _ _ h2 (dN x w h) h3⟩
   .exact⟨q',by rw[hk2 w c];exact h1,h2,rr _ _ h2 (dN x w h) h3⟩
  .exact⟨q,hk,hq,rqp⟩
 .by_cases c:w=v
  .subst c;rw[hk] at h;exact⟨q,(jy h).symm,hq,vq,hv⟩
  .rw[hk2 w c] at h;exact J.i2 w d h
 .rw[hr x (by omega),hr y (by omega)] at e;have mqp:Cn rows N q p:=.step (.refl _) hq hp ⟨v,hv,vq,vp⟩;rcases Kj rfl rfl e with c|⟨c1,c2⟩|⟨c1,c2⟩
  .exact J.i3 x y hx hy c
  .exact((J.i3 x q hx hq c1).trans mqp).trans (J.i3 y p hy hp c2).symm
  .exact((J.i3 x p hx hp c1).trans mqp.symm).trans (J.i3 y q hy hq c2).symm
def Dq (l:List D):Prop:=∀ v∈l,v=.none\/((fA v 8&&mP v)=true/\gS v .none=Ga (.bool true)/\v≠.none)
theorem TK {i:Nat}{fk fv:FV}{ψ:En}{k d d':D}{kvs:List (D×D)}(h1:fk ψ=Ga k)(h2:fv ψ=Ga d)(h3:ψ[i]?=Ga (.dkt kvs))(h4:(fA k 8&&mP k)=true)(h5:kvs.length<1000000)(h6:mz kvs k=Ga d'):iY i fk fv ψ=Ga (d',ψ):=by
 unfold iY;rw[h1,je,h2,je,h3];dsimp only;rw[Ge ⟨h4,h5⟩,h6]
theorem XJ {i:Nat}{fk fv:FV}{ψ:En}{k d:D}{kvs:List (D×D)}(h1:fk ψ=Ga k)(h2:fv ψ=Ga d)(h3:ψ[i]?=Ga (.dkt kvs))(h4:(fA k 8&&mP k)=true)(h5:kvs.length<1000000)(h6:mz kvs k=Gb):iY i fk fv ψ=Ga (d,ψ.set i (.dkt (kvs++[(k,d)]))):=by
 unfold iY;rw[h1,je,h2,je,h3];dsimp only;rw[Ge ⟨h4,h5⟩,h6]
theorem MT {sd:FD}{ψ env1:En}{d p:D}{s s':Sl}(h0:ψ[2]?=Ga s)(h1:gJ s=true)(h2:sd ψ=Ga (d,env1))(h3:gv 4 env1=Ga p):iE 2 (mo sd (iT (gv 4) lm)) ψ=Ga ([.inr 2,.inl d,.inl p],env1):=by
 unfold iE;rw[h0];dsimp only;rw[Ge h1];unfold mo;rw[h2,je];unfold iT;dsimp only;rw[h3];rfl
theorem Ed (V:D)(b:Bool)(R r lo dk pl:Sl)(E:Option (D×En))(hE:(mv 5 oG (iE 2 (mo (iY 3 (gv 5) (gv 4)) (iT (gv 4) lm)))) [R,r,lo,dk,pl,.val V]=E)(h:gS V .none=Ga (.bool b)):(gB (fS gS (gv 5) (eW .none)) (ny (mv 5 oG (iE 2 (mo (iY 3 (gv 5) (gv 4)) (iT (gv 4) lm))))) gG) [R,r,lo,dk,pl,.val V]=if b=true then E.bind (λr=>Ga (.nx r.2)) else Ga (.nx [R,r,lo,dk,pl,.val V]):=by
 have e1:ny (mv 5 oG (iE 2 (mo (iY 3 (gv 5) (gv 4)) (iT (gv 4) lm)))) [R,r,lo,dk,pl,.val V]=E.bind (λr=>Ga (.nx r.2)):=by unfold ny;rw[hE]
 rw[Pb];have e2:fS gS (gv 5) (eW .none) (frz [R,r,lo,dk,pl,.val V])=Ga b:=by
  show((gv 5 (frz [R,r,lo,dk,pl,.val V])).bind _).bind _=_;rw[show gv 5 (frz [R,r,lo,dk,pl,.val V])=Ga V from rfl,je];show((gS V .none)).bind iy=_;rw[h];rfl
 rw[e2,je];cases b with
 | true=>rw[Ge rfl,Ge rfl];exact e1
 | false=>rw[Gf (by decide),Gf (by decide)];rfl
theorem YJ (rows:Nat->List D)(N:Nat)(h1000:N<1000)(done:Nat->D->Prop)(dN:∀ x w,done x w->x<N)(L:List Nat)(kvs:List (D×D))(J:JI rows N done L kvs)(hz:kvs.length<10000)(p:Nat)(hp:p<N)(V:D)(vp:V∈rows p)(ok:V=.none\/((fA V 8&&mP V)=true/\gS V .none=Ga (.bool true)/\V≠.none))(R r:Sl) :
  ∃ L' kvs',(gB (fS gS (gv 5) (eW .none)) (ny (mv 5 oG (iE 2 (mo (iY 3 (gv 5) (gv 4)) (iT (gv 4) lm))))) gG) [R,r,.own (il L),.dkt kvs,.val (.int (p:Int)),.val V]=Ga (.nx [R,r,.own (il L'),.dkt kvs',.val (.int (p:Int)),.val V])/\JI rows N (λx w=>done x w\/(x=p/\w=V/\V≠.none)) L' kvs'/\kvs'.length<=kvs.length+1:=by
 rcases ok with rfl|⟨hk,hi,hn⟩
 .refine⟨L,kvs,?_,⟨J.uf,J.len,λx v h=>J.i1 x v (h.resolve_right λz=>z.2.2 rfl),J.i2,J.i3⟩,by omega⟩;rw[Ed .none false _ _ _ _ _ _ rfl rfl,Gf (by decide)]
 .have nd:(gN [Sum.inr 2,.inl (jc 0),.inl (jc 0)]).Nodup:=jJ.mpr ⟨by simp[gN],j7⟩;cases q:mz kvs V with
  | some d =>
   obtain⟨q',rfl,hq,vq,_⟩:=J.i2 V d q;obtain⟨L3,U3,l3,r3,e,w⟩:=OE J.uf (q:=q') (p:=p) (by rw[J.len];exact hq) (by rw[J.len];exact hp) (by rw[J.len];exact h1000);have ev:(mv 5 oG (iE 2 (mo (iY 3 (gv 5) (gv 4)) (iT (gv 4) lm)))) [R,r,.own (il L),.dkt kvs,.val (.int (p:Int)),.val V]=Ga (.none,[R,r,.own (il L3),.dkt kvs,.val (.int (p:Int)),.val V]) :=
    FG (MT (s:=.own (il L)) (s':=.no) rfl rfl (TK (k:=V) rfl rfl rfl hk (by omega) q) rfl) nd (λi hi=>by rw[show gN [Sum.inr 2,.inl (jc (q':Int)),.inl (jc (p:Int))]=[2] from rfl] at hi;rw[jp.mp hi];exact⟨_,rfl,rfl⟩) (Be rfl w)
   refine⟨L3,kvs,?_,?_,by omega⟩
   .rw[Ed V true _ _ _ _ _ _ ev hi,Ge rfl];rfl
   .have:=LR J hp hq hn vp vq q (λ_ _=>rfl) (λ_ _=>q) U3 l3 r3 dN;exact⟨this.uf,this.len,λx v h=>this.i1 x v (h.imp id λz=>⟨z.1,z.2.1⟩),this.i2,this.i3⟩
  | none =>
   obtain⟨L3,U3,l3,r3,e,w⟩:=OE J.uf (q:=p) (p:=p) (by rw[J.len];exact hp) (by rw[J.len];exact hp) (by rw[J.len];exact h1000);have ev:(mv 5 oG (iE 2 (mo (iY 3 (gv 5) (gv 4)) (iT (gv 4) lm)))) [R,r,.own (il L),.dkt kvs,.val (.int (p:Int)),.val V]=Ga (.none,[R,r,.own (il L3),.dkt (kvs++[(V,.int (p:Int))]),.val (.int (p:Int)),.val V]) :=
    FG (MT (s:=.own (il L)) (s':=.no) rfl rfl (XJ (k:=V) (d:=.int (p:Int)) rfl rfl rfl hk (by omega) q) rfl) nd (λi hi=>by rw[show gN [Sum.inr 2,.inl (jc (p:Int)),.inl (jc (p:Int))]=[2] from rfl] at hi;rw[jp.mp hi];exact⟨_,rfl,rfl⟩) (Be rfl w)
   refine⟨L3,kvs++[(V,.int (p:Int))],?_,?_,by rw[jC];exact jr _⟩
   .rw[Ed V true _ _ _ _ _ _ ev hi,Ge rfl];rfl
   .have:=LR (kvs':=kvs++[(V,.int (p:Int))]) J hp hp hn vp vp (by rw[Oy q,Ge rfl]) (λw hw=>by rw[Oy q,Gf hw]) (λx h=>by obtain⟨q',z,_⟩:=J.i1 x V h;rw[q] at z;cases z) U3 l3 r3 dN;exact⟨this.uf,this.len,λx v h=>this.i1 x v (h.imp id λz=>⟨z.1,z.2.1⟩),this.i2,this.i3⟩
theorem Vw (Vs:List D->Option D)(B:FS)(Rs:List D)(rr run:D)(W:List D)(p:Int)(lo dk y:Sl)(h1:L2.atI Rs p=Ga run)(h2:Vs [run,rr]=Ga (.list W)):lT (lv (gc Vs (eX (dE eY (gv 0) (gv 4)) (eX (gv 1) fH)))) (gj 5) B [.val (.list Rs),.val rr,lo,dk,.val (.int p),y]=fY (gj 5) B W [.val (.list Rs),.val rr,lo,dk,.val (.int p),y]:=by
 simp_arith[h1,h2]
theorem QI (Bd:FS)(Rs:List D)(rr:D)(n:Int)(A Ks:List D)(X:Option (List D))(hn:(Rs.length:Int)=n)(h1:sg (.int n)=Ga A)(h2:gf (.int n)=Ga Ks)(q:pV (iB (fY (gj 4) Bd Ks [.val (.list Rs),.val rr,.own A,.dkt [],.no,.no]) (yU (go 2)))=X) :
  pV ((fE (pU 2 (lU sg (lK fU (gv 0)))) (fE (zB 3) (fE (lT (lU gf (lK fU (gv 0))) (gj 4) Bd) (yU (go 2))))) [.val (.list Rs),.val rr,.no,.no,.no,.no])=X:=by
 have nt:∀ a b c d e f:Sl,zB 3 [a,b,c,d,e,f]=Ga (.nx [a,b,c,.dkt [],e,f]):=λ_ _ _ _ _ _=>rfl;simp_arith[hn,h1,h2,nt];exact q
structure xW (fm:List D->Option D)(Rs:List D)(rr:D)(rows:Nat->List D)(N:Nat):Prop where
 len:Rs.length=N
 h1000:N<1000
 at_:∀ p,p<N->∃ run,L2.atI Rs (p:Int)=Ga run/\fm [run,rr]=Ga (.list (rows p))
 ok:∀ p,p<N->Dq (rows p)
 l5:∀ p,p<N->(rows p).length<=5
theorem DL {N i:Nat}(h:i<N):pa (jb N) i=i:=by
 unfold pa;rw[jl,kX h];rfl
theorem Ti {Rs:List D}{rr:D}{rows:Nat->List D}{N:Nat}(O:xW rK Rs rr rows N):∃ L,UF L/\L.length=N/\(∀ x y,x<N->y<N->Mt rows x y->ft L x=ft L y)/\(∀ x y,x<N->y<N->ft L x=ft L y->Cn rows N x y)/\Bl [.list Rs,rr]=Ga (il L):=by
 have h1000:=O.h1000
 let I:Nat->En->Prop:=λp ψ=>∃ L kvs y4 y5,ψ=[.val (.list Rs),.val rr,.own (il L),.dkt kvs,y4,y5]/\kvs.length<=5*p/\JI rows N (λx v=>x<p/\v∈rows x/\v≠.none) L kvs
 have I0:I 0 [.val (.list Rs),.val rr,.own (il (jb N)),.dkt [],.no,.no]:=by
  refine⟨_,_,_,_,rfl,jr _,⟨λi hi=>?_,jK,λx v h=>absurd h.1 (v5 _),λv d h=>?_,λx y hx hy e=>?_⟩⟩
  .rw[jK] at hi;rw[DL hi];exact jr _
  .cases h
  .rw[pO (DL hx),pO (DL hy)] at e;rw[e];exact .refl _
 have rn:sg (.int (N:Int))=Ga (il (jb N)):=by
  unfold sg;dsimp only;rw[Ge (by constructor<;>omega),jR,mV];rfl
 have rg:gf (.int (N:Int))=Ga ((jb N).map λ(k:Nat)=>.int (k:Int)):=by rw[<- mV];exact pL (by omega)
 have G:=Ng (t:=gj 4) (g:=(lT (lv (gc rK (eX (dE eY (gv 0) (gv 4)) (eX (gv 1) fH)))) (gj 5) (gB (fS gS (gv 5) (eW .none)) (ny (mv 5 oG (iE 2 (mo (iY 3 (gv 5) (gv 4)) (iT (gv 4) (lm)))))) gG))) (f:=λ(k:Nat)=>jc (k:Int)) I N (λp hp ψ hI=>by
  obtain⟨L,kvs,y4,y5,rfl,hz,J⟩:=hI;obtain⟨run,a1,a2⟩:=O.at_ p hp;show lD _ ((lT (lv (gc rK (eX (dE eY (gv 0) (gv 4)) (eX (gv 1) fH)))) (gj 5) (gB (fS gS (gv 5) (eW .none)) (ny (mv 5 oG (iE 2 (mo (iY 3 (gv 5) (gv 4)) (iT (gv 4) (lm)))))) gG)) [.val (.list Rs),.val rr,.own (il L),.dkt kvs,.val (.int (p:Int)),y5]);rw[Vw rK _ Rs rr run (rows p) p _ _ _ a1 a2];have l5:=O.l5 p hp;have inner:=Gx (t:=gj 5) (g:=(gB (fS gS (gv 5) (eW .none)) (ny (mv 5 oG (iE 2 (mo (iY 3 (gv 5) (gv 4)) (iT (gv 4) (lm)))))) gG)) (ψ:=[.val (.list Rs),.val rr,.own (il L),.dkt kvs,.val (.int (p:Int)),y5]) (λd=>d) (λpre ψ=>∃ L kvs y5,ψ=[.val (.list Rs),.val rr,.own (il L),.dkt kvs,.val (.int (p:Int)),y5]/\kvs.length<=5*p+pre.length/\JI rows N (λx v=>(x<p/\v∈rows x/\v≠.none)\/(x=p/\v∈pre/\v≠.none)) L kvs) (rows p) ⟨L,kvs,y5,rfl,by simpa using hz,⟨J.uf,J.len,λx v h=>J.i1 x v (h.resolve_right λz=>by have:=z.2.1;cases this),J.i2,J.i3⟩⟩ (λpre V suf e ψ hI=>by
   obtain⟨L,kvs,y5,rfl,hz,J⟩:=hI;have vp:V∈rows p:=by rw[e];simp
   have hlen:pre.length<(rows p).length:=by rw[e,jC,jL];omega
   obtain⟨L',kvs',w,J',hz'⟩:=YJ rows N h1000 _ (λx w h=>by rcases h with h|h<;>omega) L kvs J (by omega) p hp V vp (O.ok p hp V vp) (.val (.list Rs)) (.val rr);show lD _ ((gB (fS gS (gv 5) (eW .none)) (ny (mv 5 oG (iE 2 (mo (iY 3 (gv 5) (gv 4)) (iT (gv 4) (lm)))))) gG) [.val (.list Rs),.val rr,.own (il L),.dkt kvs,.val (.int (p:Int)),.val V]);rw[w];refine xr ⟨L',kvs',_,rfl,by rw[jC];show kvs'.length<=5*p+(pre.length+1);omega,⟨J'.uf,J'.len,λx v h=>J'.i1 x v ?_,J'.i2,J'.i3⟩⟩;rcases h with h|⟨h1,h2,h3⟩
   .exact .inl (.inl h)
   .rcases kc.mp h2 with z|z
    .exact .inl (.inr ⟨h1,z,h3⟩)
    .exact .inr ⟨h1,jp.mp z,by rw[<- jp.mp z];exact h3⟩)
  rw[List.map_id'] at inner;refine yz inner λe he=>?_;obtain⟨L',kvs',y,rfl,hz',J'⟩:=he;refine⟨L',kvs',_,_,rfl,by omega,⟨J'.uf,J'.len,λx v h=>J'.i1 x v ?_,J'.i2,J'.i3⟩⟩;obtain⟨h1,h2,h3⟩:=h;by_cases c:x=p
  .subst c;exact .inr ⟨rfl,h2,h3⟩
  .exact .inl ⟨by omega,h2,h3⟩) N 0 _ (uq N) I0
 rw[<- u5] at G;obtain⟨e,e1,L,kvs,y4,y5,rfl,hz,J⟩:=G;refine⟨L,J.uf,J.len,λx y hx hy m=>?_,J.i3,?_⟩
 .obtain⟨v,h1,h2,h3⟩:=m;obtain⟨q,z1,_,z3⟩:=J.i1 x v ⟨hx,h2,h1⟩;obtain⟨q',y1,_,y3⟩:=J.i1 y v ⟨hy,h3,h1⟩;rw[z1] at y1;have:q=q':=by have:=uA (jy y1);omega
  subst this;exact z3.symm.trans y3
 .rw[Uo];refine QI _ Rs rr N _ _ _ (by rw[O.len]) rn rg ?_;rw[e1];rfl
def gk (rt:Nat->Nat)(s:Nat):List (Int×List D):=((jb s).filter λi=>rt i==i).map λ(a:Nat)=>((a:Int),il ((jb s).filter λi=>rt i==a))
theorem QM {rt:Nat->Nat}{s k:Nat}:wz (gk rt s) (k:Int)=if (k<s/\rt k=k) then Ga (il ((jb s).filter λi=>rt i==k)) else Gb:=by
 unfold wz gk;rw[List.find?_map,Option.map_map];have e:(λp:Int×List D=>decide (p.1=(k:Int)))∘(λ(a:Nat)=>((a:Int),il ((jb s).filter λi=>rt i==a)))=λa=>decide (a=k):=by
  funext a
  show decide ((a:Int)=(k:Int))=_;rw[decide_eq_decide];omega
 rw[e];by_cases c:k<s/\rt k=k
 .rw[Ge c];have hm:k∈(jb s).filter λi=>rt i==i:=jA.mpr ⟨jm.mpr c.1,beq_iff_eq.mpr c.2⟩;cases q:((jb s).filter λi=>rt i==i).find? λa=>decide (a=k) with
  | none=>exact absurd (Gc rfl) (uz.mp q k hm)
  | some a =>
   have:=of_decide_eq_true (qN (p:=λa=>decide (a=k)) q);subst this;rfl
 .rw[Gf c];have:((jb s).filter λi=>rt i==i).find? (λa=>decide (a=k))=Gb:=uz.mpr λa ha z=>by
   have z:=of_decide_eq_true z;subst z;have:=jA.mp ha;exact c ⟨jm.mp this.1,beq_iff_eq.mp this.2⟩
  rw[this];rfl
theorem SK {rt:Nat->Nat}{s:Nat}(h1:rt s<=s)(h2:rt (rt s)=rt s)(h3:∀ i,i<s->rt i<=i):nL (nq (gk rt s) (rt s:Nat)) (rt s:Nat) (.int (s:Int))=gk rt (s+1):=by
 have rs:(jb (s+1))=jb s++[s]:=qO;unfold nq;rw[QM];by_cases c:rt s=s
 .have n:¬(rt s<s/\rt (rt s)=rt s):=by omega
  rw[Gf n];show nL (gk rt s++[(((rt s:Nat):Int),([]:List D))]) (rt s:Nat) (.int (s:Int))=_;unfold nL gk;rw[kJ,rs,kI,kJ,jT,kg (by rw[beq_iff_eq];exact c),uk];have e0:((jb s).filter λi=>rt i==s)=[]:=vK.mpr λi hi z=>by
   have:=h3 i (jm.mp hi);have z:=beq_iff_eq.mp z;have:=jm.mp hi;omega
  have app2:∀ {a b c d:List (Int×List D)},a=b->c=d->a++c=b++d:=λh1 h2=>by rw[h1,h2]
  refine app2 (ka λa ha=>?_) ?_
  .have ha1:=jm.mp (jA.mp ha).1;show(if (a:Int)=(rt s:Nat) then _ else _)=_;rw[Gf (by omega),kI,kh (by rw[beq_iff_eq];omega),uk,j4]
  .show[(if ((rt s:Nat):Int)=(rt s:Nat) then _ else _)]=[_];rw[Ge rfl];dsimp only;rw[kI,e0,kg (by rw[beq_iff_eq];exact c),uk,c];rfl
 .have pp:rt s<s/\rt (rt s)=rt s:=⟨by omega,h2⟩;rw[Ge pp];show nL (gk rt s) (rt s:Nat) (.int (s:Int))=_;unfold nL gk;rw[rs,kI,kh (by rw[beq_iff_eq];exact c),uk,j4,jT];refine ka λa ha=>?_;show(if (a:Int)=(rt s:Nat) then _ else _)=_;by_cases d:a=rt s
  .subst d;rw[Ge rfl,kI,kg (by rw[beq_iff_eq]),uk];unfold il;rw[kJ];rfl
  .rw[Gf (by omega),kI,kh (by rw[beq_iff_eq];exact λz=>d z.symm),uk,j4]
theorem SL (rt:Nat->Nat)(s:Nat):(gk rt s).length<=s/\∀ p∈gk rt s,p.2.length<=s:=by
 unfold gk;constructor
 .rw[jd];exact j6 (k0 _ _) (by rw[jK];exact jr _)
 .intro p hp;obtain⟨a,_,rfl⟩:=jq.mp hp;show(il _).length<=s;rw[Cu];exact j6 (k0 _ _) (by rw[jK];exact jr _)
theorem Kf {ψ:En}{p:D}{s:Sl}(h0:ψ[2]?=Ga s)(h1:gJ s=true)(h3:gv 4 ψ=Ga p):iE 2 (iT (gv 4) lm) ψ=Ga ([.inr 2,.inl p],ψ):=by
 unfold iE;rw[h0];dsimp only;rw[Ge h1];unfold iT;rw[h3];rfl
theorem Nj {rt:Nat->Nat}{N:Nat}(h1000:N<1000)(h1:∀ i,i<N->rt i<=i)(h2:∀ i,i<N->rt (rt i)=rt i)(a b:Sl):∀ (m s:Nat) (L:List Nat) (y:Sl),s+m=N->UF L->L.length=N->(∀ x,x<N->ft L x=rt x) ->
  ∃ ψ,sy 4 (mv 2 ma (iE 2 (iT (gv 4) lm))) (gv 4) ((uc s m).map λ(k:Nat)=>jc (k:Int)) [a,b,.own (il L),.no,y] (gk rt s)=Ga (ψ,gk rt N)
 | 0,s,L,y,hs,_,_,_=>by
  have e:s=N:=by omega
  subst e;exact⟨_,rfl⟩
 | m+1,s,L,y,hs,U,hl,hr=>by
  obtain⟨L',A,w⟩:=DM U (p:=s) (by omega) (by omega);rw[hr s (by omega)] at w;have ev:mv 2 ma (iE 2 (iT (gv 4) lm)) [a,b,.own (il L),.no,.val (.int (s:Int))]=Ga (.int (rt s:Nat),[a,b,.own (il L'),.no,.val (.int (s:Int))]) :=
   FG (Kf (s:=.own (il L)) rfl rfl rfl) (jJ.mpr ⟨by simp[gN],j7⟩) (λi hi=>by rw[show gN [Sum.inr 2,.inl (jc (s:Int))]=[2] from rfl] at hi;rw[jp.mp hi];exact⟨_,rfl,rfl⟩) (Sm rfl w)
  have gl:=SL rt s;obtain⟨ψ,e⟩:=Nj h1000 h1 h2 a b m (s+1) L' (.val (.int (s:Int))) (by omega) A.uf (by rw[A.len];exact hl) (λx hx=>(A.rt x (by omega)).trans (hr x hx));refine⟨ψ,?_⟩;rw[vQ,jB];unfold sy;show(mv 2 ma (iE 2 (iT (gv 4) lm)) [a,b,.own (il L),.no,.val (.int (s:Int))]).bind _=_;rw[ev,je];show(Ga (jc (s:Int))).bind _=_;rw[je];dsimp only;rw[Ge ⟨by omega,jO.mpr λp hp=>Gc (by have:=gl.2 p hp;omega)⟩,SK (h1 s (by omega)) (h2 s (by omega)) (λi hi=>h1 i (by omega))];exact e
def oM (rt:Nat->Nat)(N:Nat):List Nat:=(jb N).filter λi=>rt i==i
def io (rt:Nat->Nat)(N a:Nat):List Nat:=(jb N).filter λi=>rt i==a
theorem Py (J:List D->Option (List D))(G:FS)(Rs rr:D)(A:List D)(X:Option pv)(h1:J [Rs,rr]=Ga A)(q:G [.val Rs,.val rr,.own A,.no,.no]=X):(fE (pU 2 (tu J (eX (gv 0) (eX (gv 1) fH)))) G) [.val Rs,.val rr,.no,.no,.no]=X:=by
 simp_arith[h1];exact q
theorem XF (Rs:D)(n:Int)(x1 x2 x3 x4:Sl)(Ks:List D)(h1:fU Rs=Ga (.int n))(h2:gf (.int n)=Ga Ks):lU gf (lK fU (gv 0)) [.val Rs,x1,x2,x3,x4]=Ga Ks:=by
 simp_arith[h1,h2]
theorem TQ {Rs:List D}{rr:D}{rows:Nat->List D}{N:Nat}(O:xW rK Rs rr rows N):∃ rt:Nat->Nat,(∀ i,i<N->rt i<=i)/\(∀ i,i<N->rt (rt i)=rt i)/\(∀ x y,x<N->y<N->Mt rows x y->rt x=rt y)/\(∀ x y,x<N->y<N->rt x=rt y->Cn rows N x y) /\
  wB [.list Rs,rr]=Ga (.list ((oM rt N).map λa=>.list (il (io rt N a)))):=by
 have h1000:=O.h1000;obtain⟨L,U,hl,hA,hB,e⟩:=Ti O;have r1:∀ i,i<N->ft L i<=i:=λi hi=>(yW U i (by omega)).2;have r2:∀ i,i<N->ft L (ft L i)=ft L i:=λi hi=>pO (yW U i (by omega)).1;refine⟨ft L,r1,r2,hA,hB,?_⟩;obtain⟨ψ,g⟩:=Nj h1000 r1 r2 (.val (.list Rs)) (.val rr) N 0 L .no (uq N) U hl (λ_ _=>rfl);have rg:lU gf (lK fU (gv 0)) [.val (.list Rs),.val rr,.own (il L),.no,.no]=Ga ((uc 0 N).map λ(k:Nat)=>jc (k:Int)):=by
  have r0:gf (.int (N:Int))=Ga ((uc 0 N).map λ(k:Nat)=>jc (k:Int)):=by rw[<- u5,<- mV];exact pL (by omega)
  exact XF (.list Rs) N _ _ _ _ _ (by show Ga (jc (Rs.length:Nat))=_;rw[O.len]) r0
 rw[zlZ];have q:(zk 3 4 (lU gf (lK fU (gv 0))) (mv 2 ma (iE 2 (iT (gv 4) (lm)))) (gv 4)) [.val (.list Rs),.val rr,.own (il L),.no,.no]=Ga (.rt (.list ((oM (ft L) N).map λa=>.list (il (io (ft L) N a))))):=by
  unfold zk;rw[show[Sl.val (.list Rs),.val rr,.own (il L),.no,.no].set 3 .no=[.val (.list Rs),.val rr,.own (il L),.no,.no] from rfl,rg,je];have g0:gk (ft L) 0=[]:=rfl;rw[g0] at g;rw[g,je];dsimp only;have e3:(gk (ft L) N).map (λp=>vB p.2)=(oM (ft L) N).map λa=>.list (il (io (ft L) N a)):=by unfold gk oM io;rw[jT];rfl
  rw[e3]
 unfold EJ;rw[Py Bl _ _ _ _ _ e q];rfl
noncomputable def MY (bd R:Nat)(v:D):D:=fr (λk=>((yo [v,.int (k:Int)]).bind λw=>sY [w,.int (bd:Int)]).getD .none) 0 (R+1)
structure TR (ns:List D)(fs:List Fl)(bd R L:Nat)(m:Int)(Fd:Nat->D):Prop where
 l1:1<=L
 l2:L<=bd+1
 cl:lZ [rd ns fs,.int (bd:Int)]=Ga (.int (L:Int))
 ch:∀ c,wF c (λd=>(gc sY (eX (gv 0) (eX (gv 1) fH))) (.val d::[jc (bd:Int)].map .val)) [rd ns fs,.int (R:Int)]=Ga (.list ((jb ns.length).map Fd))
 vw:∀ h,h<ns.length->up fs h (R:Int)=true->Fd h=MY bd R (vw ns fs R h)
 yes:∀ h,h<ns.length->up fs h (R:Int)=true->L<=R->Fd h=.tuple [.int (L:Int),.int m]
 no:∀ h,h<ns.length->up fs h (R:Int)=true->R<L->Fd h=.none
theorem ND {Φ Ψ:Nat->D}:∀ (m a:Nat),(∀ j,a<=j->j<a+m->Φ j=Ψ j)->fr Φ a m=fr Ψ a m
 | 0,_,_=>rfl
 | m+1,a,h=>by
  unfold fr;rw[h a (jr _) (by omega),ND m (a+1) λj h1 h2=>h j (by omega) (by omega)]
theorem KP (Φ:Nat->D):∀ (d a m:Nat),(∀ j,a<=j->j<a+d->Φ j=.none)->d<m->Φ (a+d)≠.none->fr Φ a m=.tuple [.int ((a+d:Nat):Int),Φ (a+d)]
 | 0,a,m+1,_,_,h=>by
  unfold fr;rw[Gf (show Φ a≠.none from h)];rfl
 | d+1,a,m+1,h0,hd,h=>by
  unfold fr;rw[Ge (h0 a (jr _) (by omega)),KP Φ d (a+1) m (λj h1 h2=>h0 j (by omega) (by omega)) (by omega) (by rw[show a+1+d=a+(d+1) by omega];exact h),show a+1+d=a+(d+1) by omega]
theorem Rj (ns:List D)(fs:List Fl)(G:gu ns.length fs)(hi:∀ d∈ns,∃ i:Int,d=.int i)(bd:Nat)(hb:bd+2<=ns.length)(hf:fs.length<=bd)(R:Nat)(hR:R<=4):∃ L m Fd,TR ns fs bd R L m Fd/\(L:Int)=(bd:Int)+1-nh (ik ns.length fs):=by
 have n5:=G.n5;obtain⟨L,eL,L1,L2,Lno,Lyes,Lkn⟩:=Dr G hb hf;obtain⟨Φ,T⟩:=SG ns fs hi sY bd (λh k=>decide ((bd:Int)-ws ns.length fs k h (k-1)+1<=(k:Int))) λh k m hh hk hm=>SM _ _ _ _ _ (AH ns fs hi k h hh (by omega)) (Vy ns fs hi G.n5 k h hk hh hm) (Sd ns fs hi G.n5 k h hk hh);have low:∀ h k:Nat,h<ns.length->up fs h (k:Int)=true->k<L->Φ h k=.none:=λh k hh hu hk=>T.no h k hh (by omega) (Gd (Lno k h hh hu hk));have two:=Hm G (L:Int);obtain⟨h9,hh9,hu9⟩:∃ h9,h9<ns.length/\up fs h9 (L:Int)=true:=by
  obtain⟨x,hx⟩:=vZ (show 0<((jb ns.length).filter λh=>up fs h (L:Int)).length by omega);have hx:=jA.mp hx;exact⟨x,jm.mp hx.1,hx.2⟩
 obtain⟨m,em,hm⟩:=T.yes h9 L hh9 (by omega) (Gc (Lyes h9 hh9 hu9));have all:∀ h,h<ns.length->up fs h (L:Int)=true->Φ h L=.int m:=λh hh hu=>by
  obtain⟨m',e1,e2⟩:=T.yes h L hh (by omega) (Gc (Lyes h hh hu));rw[Lkn h h9 hh hh9 hu hu9,hm] at e2;rw[e1,uA (jy e2)]
 refine⟨L,m,λh=>fr (Φ h) 0 (nU fs h R+1),⟨L1,L2,(Xq ns fs G bd hb hf).trans (by rw[eL]),λc=>T.chs G hi R hR c,λh hh hu=>?_,λh hh hu hl=>?_,λh hh hu hl=>?_⟩,eL⟩
 .rw[(Ea G h R).mpr hu];unfold MY;refine ND _ _ λk _ hk=>?_;rw[Nx ns fs hi R k h hh (by omega) (by omega),je,T.eq h k hh (by omega)];rfl
 .rw[(Ea G h R).mpr hu];have hL:up fs h (L:Int)=true:=yS G hl hu;have z:=KP (Φ h) L 0 (R+1) (λj _ hj=>low h j hh (yS G (by omega) hu) (by omega)) (by omega) (by rw[uq,all h hh hL];exact λz=>by cases z);rw[uq,all h hh hL] at z;exact z
 .rw[(Ea G h R).mpr hu];rcases Mm (Φ h) (R+1) 0 λk _ hk=>T.or hh (by omega) with ⟨z1,_⟩|⟨k,i,_,z2,z3,_⟩
  .exact z1
  .rw[low h k hh (yS G (by omega) hu) (by omega)] at z3;cases z3
theorem zsA {ns ms:List D}{fs gs:List Fl}{bd R L L':Nat}{m m':Int}{Fd Fd':Nat->D}(T:TR ns fs bd R L m Fd)(T':TR ms gs bd R L' m' Fd'){h:Nat}(hh:h<ns.length)(hh':h<ms.length)(u:up fs h (R:Int)=true)(u':up gs h (R:Int)=true)(e:vw ns fs R h=vw ms gs R h):(L<=R↔L'<=R)/\(L<=R->m=m'):=by
 have ef:Fd h=Fd' h:=by rw[T.vw h hh u,T'.vw h hh' u',e]
 by_cases c:L<=R
 .by_cases c':L'<=R
  .refine⟨⟨λ_=>c',λ_=>c⟩,λ_=>?_⟩;rw[T.yes h hh u c,T'.yes h hh' u' c'] at ef
   injection ef with ef
   injection ef with _ ef
   injection ef with ef
   injection ef
  .rw[T.yes h hh u c,T'.no h hh' u' (by omega)] at ef;cases ef
 .by_cases c':L'<=R
  .rw[T.no h hh u (by omega),T'.yes h hh' u' c'] at ef;cases ef
  .exact⟨⟨λz=>absurd z c,λz=>absurd z c'⟩,λz=>absurd z c⟩
theorem RI (ns:List D)(fs:List Fl)(hi:∀ d∈ns,∃ i:Int,d=.int i):(rd ns fs).canLay0=true/\(rd ns fs).depth<=3:=by
 have a:=my (xs:=ns) (n:=0) λx hx=>by obtain⟨i,rfl⟩:=hi x hx;exact⟨rfl,jr _⟩
 have b:=my (xs:=fs.map fd) (n:=1) λx hx=>by obtain⟨f,_,rfl⟩:=jq.mp hx;exact⟨rfl,jr _⟩
 have c:=my (xs:=[kW ns,.tuple (fs.map fd)]) (n:=2) λx hx=>by
  rcases jx.mp hx with rfl|hx
  .exact⟨a.1,by show jF ns+1<=2;omega⟩
  .rw[jp.mp hx];exact⟨b.1,by show jF (fs.map fd)+1<=2;omega⟩
 exact⟨c.1,by show jF [kW ns,.tuple (fs.map fd)]+1<=3;omega⟩
def Cg (n bd R:Nat):List (List Fl):=[]::if bd=0 then[] else(jb n).flatMap λh=>(uc 1 R).flatMap λ(a:Nat)=>((jb (2^n)).filter λm=>!m.testBit h).map λm=>[⟨h,(a:Int),m⟩]
def wW:Nat->List (List Bool)
 | 0=>[[]]
 | n+1=>(wW n).flatMap λb=>[b++[false],b++[true]]
abbrev RB:=List Bool×List Fl
def Wl (n bd R:Nat):List RB:=(wW n).flatMap λb=>(Cg n bd R).map λfs=>(b,fs)
def cd (x y:D)(b:Bool):D:=if b then y else x
def iU (x y:D)(p:RB):List D:=p.1.map (cd x y)
def mh (x y:D)(p:RB):D:=rd (iU x y p) p.2
def Cm (n bd R:Nat):Prop:=((n=3/\(bd=0\/bd=1))\/(n=2/\bd=0))/\(R=0\/R=1\/R=2)
section
variable {a b:Int}(ab:a<b)
include ab
theorem MN (p q:Bool):jW (cd (.int a) (.int b) p) (cd (.int a) (.int b) q)=jW (cd (.int 0) (.int 1) p) (cd (.int 0) (.int 1) q):=by
 have e1:(a==b)=false:=beq_eq_false_iff_ne.mpr (by omega);have e2:(b==a)=false:=beq_eq_false_iff_ne.mpr (by omega);cases p<;>cases q<;>simp[cd,jW,e1,e2]
theorem Mj:∀ xs ys:List Bool,ub (xs.map (cd (.int a) (.int b))) (ys.map (cd (.int a) (.int b)))=ub (xs.map (cd (.int 0) (.int 1))) (ys.map (cd (.int 0) (.int 1)))
 | [],[]=>rfl
 | [],_::_=>by simp[ub]
 | _::_,[]=>by simp[ub]
 | x::xs,y::ys=>by
  simp only[jB,ub];rw[MN ab x y,Mj xs ys]
theorem Vl (p q:Bool):iX (cd (.int a) (.int b) p) (cd (.int a) (.int b) q)=iX (cd (.int 0) (.int 1) p) (cd (.int 0) (.int 1) q):=by
 have e1:decide (a<b)=true:=Gc ab;have e2:decide (b<a)=false:=Gd (by omega);cases p<;>cases q<;>simp[cd,iX,ab]<;>omega
theorem LH:∀ xs ys:List Bool,mm (xs.map (cd (.int a) (.int b))) (ys.map (cd (.int a) (.int b)))=mm (xs.map (cd (.int 0) (.int 1))) (ys.map (cd (.int 0) (.int 1)))
 | [],[]=>rfl
 | [],_::_=>by simp only[jB,vG,mm]
 | _::_,[]=>by simp only[jB,vG,mm]
 | x::xs,y::ys=>by
  simp only[jB,mm];rw[MN ab x y,LH xs ys,Vl ab x y]
theorem RF (p q:RB):iX (mh (.int a) (.int b) p) (mh (.int a) (.int b) q)=iX (mh (.int 0) (.int 1) p) (mh (.int 0) (.int 1) q):=by
 have e:jW (.tuple (iU (.int a) (.int b) p)) (.tuple (iU (.int a) (.int b) q))=jW (.tuple (iU (.int 0) (.int 1) p)) (.tuple (iU (.int 0) (.int 1) q)):=by
  rw[jW,jW];exact Mj ab _ _
 have e2:iX (.tuple (iU (.int a) (.int b) p)) (.tuple (iU (.int a) (.int b) q))=iX (.tuple (iU (.int 0) (.int 1) p)) (.tuple (iU (.int 0) (.int 1) q)):=by
  rw[iX,iX];exact LH ab _ _
 have s:∀ x y x' y':D,iX (.tuple [x,x']) (.tuple [y,y'])=if jW x y=true then mm [x'] [y'] else iX x y:=λx y x' y'=>by rw[iX,mm]
 unfold mh rd;rw[s,s,e,e2]
theorem NK:∀ l:List RB,oU (l.map (mh (.int a) (.int b)))=oU (l.map (mh (.int 0) (.int 1)))
 | []=>rfl
 | [x]=>rfl
 | x::y::r=>by
  have ih:=NK (y::r);simp only[jB] at ih ⊢;rw[oU,oU,RF ab y x,ih]
end
theorem AN {n bd R:Nat}(h:Cm n bd R):oU ((Wl n bd R).map (mh (.int 0) (.int 1)))=true/\2<=(Wl n bd R).length/\(Wl n bd R).length<=200:=by
 obtain⟨h1,h2⟩:=h;rcases h1 with ⟨rfl,rfl|rfl⟩|⟨rfl,rfl⟩<;>rcases h2 with rfl|rfl|rfl<;>decide +kernel
theorem Aw (a b:Int)(l:List Bool):∀ d∈l.map (cd (.int a) (.int b)),∃ i:Int,d=.int i:=λd hd=>by
 obtain⟨x,_,rfl⟩:=jq.mp hd;cases x
 .exact⟨a,rfl⟩
 .exact⟨b,rfl⟩
theorem Um {a b:Int}(ab:a<b){n bd R:Nat}(h:Cm n bd R):sN ((Wl n bd R).map (mh (.int a) (.int b)))=true:=by
 obtain⟨h1,h2,h3⟩:=AN h;unfold sN;rw[jo,jo,decide_eq_true_eq,jd,NK ab];refine⟨⟨h2,by omega⟩,jO.mpr λd hd=>?_,h1⟩;obtain⟨p,_,rfl⟩:=jq.mp hd;obtain⟨l1,l2⟩:=RI (iU (.int a) (.int b) p) p.2 (Aw a b p.1);unfold BI;rw[jo,jo,decide_eq_true_eq];exact⟨rfl,l1,by unfold mh;omega⟩
theorem Xi (f:FL)(ψ:En):BE f ψ=(f ψ).bind λds=>if sN ds=true then Ga ds else Gb:=(rfl)
theorem Rg (Af An:List D->Option D)(N n bd R:D)(FS NS W:List D)(x6:Sl)(h1:yE [n,bd,R]=Ga (.list FS))(h2:yY [N,n]=Ga (.list NS))(h3:fY (gj 6) (CH 5 (gR (fQ (lv (gv 4)) (λ_=>Ga true) (tw (eX (gv 1) (eX (gv 0) fH))) [6]))) NS [.val N,.val n,.val bd,.val R,.val (.list FS),.own [],.no]=Ga (.nx [.val N,.val n,.val bd,.val R,.val (.list FS),.own W,x6]))(ok:sN W=true):sP [N,n,bd,R]=Ga (.list W):=by
 have hs:toS (.list NS)=Ga NS:=rfl;rw[RZ];unfold GV;generalize (CH 5 (gR (fQ (lv (gv 4)) (λ_=>Ga true) (tw (eX (gv 1) (eX (gv 0) fH))) [6])))=Bd at *;generalize yE=A1 at *;generalize yY=A2 at *;generalize vB NS=NL at *;simp_arith[h1,h2,hs,h3,Xi,Ge ok]
theorem ZK {a b:Int}(ab:a<b){n bd R:Nat}(h:Cm n bd R):sP [.list [.int a,.int b],.int (n:Int),.int (bd:Int),.int (R:Int)]=Ga (.list ((Wl n bd R).map (mh (.int a) (.int b)))):=by
 have ok:=Um ab h;have h1:yE [.int (n:Int),.int (bd:Int),.int (R:Int)]=Ga (.list ((Cg n bd R).map λfs=>.tuple (fs.map fd))):=by
  obtain⟨h1,h2⟩:=h;rcases h1 with ⟨rfl,rfl|rfl⟩|⟨rfl,rfl⟩<;>rcases h2 with rfl|rfl|rfl<;>kernel_rfl
 have h2:yY [.list [.int a,.int b],.int (n:Int)]=Ga (.list ((wW n).map λp=>.tuple (p.map (cd (.int a) (.int b))))):=by
  clear h1 ok;obtain⟨h1,h2⟩:=h;rcases h1 with ⟨rfl,_⟩|⟨rfl,_⟩<;>kernel_rfl
 have h3:∃ x6,fY (gj 6) (CH 5 (gR (fQ (lv (gv 4)) (λ_=>Ga true) (tw (eX (gv 1) (eX (gv 0) fH))) [6]))) ((wW n).map λp=>.tuple (p.map (cd (.int a) (.int b)))) [.val (.list [.int a,.int b]),.val (.int (n:Int)),.val (.int (bd:Int)),.val (.int (R:Int)),.val (.list ((Cg n bd R).map λfs=>.tuple (fs.map fd))),.own [],.no]=Ga (.nx [.val (.list [.int a,.int b]),.val (.int (n:Int)),.val (.int (bd:Int)),.val (.int (R:Int)),.val (.list ((Cg n bd R).map λfs=>.tuple (fs.map fd))),.own ((Wl n bd R).map (mh (.int a) (.int b))),x6]):=by
  clear h1 h2 ok;obtain⟨h1,h2⟩:=h;refine⟨.val (.tuple ((jP n true).map (cd (.int a) (.int b)))),?_⟩;rcases h1 with ⟨rfl,rfl|rfl⟩|⟨rfl,rfl⟩<;>rcases h2 with rfl|rfl|rfl<;>kernel_rfl
 obtain⟨x6,h3⟩:=h3;exact Rg yE yY _ _ _ _ _ _ _ x6 h1 h2 h3 ok
def Pu:Nat->Nat->Nat->List (Nat×Nat)
 | 3,1,0=>[(1,0),(2,0),(3,0),(4,0),(5,0),(6,0),(7,1)]
 | 3,1,1=>[(2,0),(3,0),(4,0),(6,0),(7,0),(8,0),(10,0),(11,0),(12,0),(1,2),(53,2),(54,2),(55,3),(5,6),(31,6),(32,6),(33,7),(9,10),(22,10),(23,10),(24,11),(52,54),(56,54),(63,54),(64,54),(59,55),(60,55),(26,32),(34,32),(36,32),(38,32),(29,33),(30,33),(13,23),(19,23),(21,23),(25,23),(15,24),(17,24),(58,52),(62,52),(61,63),(74,63),(76,63),(57,59),(83,59),(85,59),(28,26),(37,26),(35,36),(48,36),(49,36),(27,29),(79,29),(81,29),(16,13),(20,13),(18,19),(44,19),(45,19),(14,15),(66,15),(67,15),(84,58),(75,62),(65,76),(69,76),(77,76),(78,85),(82,85),(86,85),(80,28),(50,37),(39,49),(47,49),(51,49),(68,16),(46,20),(88,84),(90,84),(71,75),(73,75),(72,65),(89,78),(41,50),(43,50),(42,39),(87,88),(100,88),(101,88),(70,71),(96,71),(97,71),(98,72),(102,89),(40,41),(92,41),(93,41),(94,42),(91,101),(99,101),(103,101),(95,98)]
 | 3,0,0=>[(1,0),(2,0),(3,0),(4,0),(5,0),(6,0),(7,1)]
 | 2,0,0=>[(1,0),(2,0),(3,1)]
 | _,_,_=>[]
abbrev yq (p:RB):List D:=iU (.int 0) (.int 1) p
def Gq (n bd R:Nat)(fs:List Fl):Bool:=decide ((R:Int)<(bd:Int)+1-nh (ik n fs))
def Bg (n R:Nat)(p q:RB):Bool:=(jb n).any λh=>up p.2 h (R:Int)&&(up q.2 h (R:Int)&&jW (vw (yq p) p.2 R h) (vw (yq q) q.2 R h))
def ii (W:List RB)(i:Nat):RB:=W.getD i ([],[])
def wX (W:List RB)(n R:Nat):List (Nat×Nat)->List Nat->Option (List Nat)
 | [],vis=>Ga vis
 | (c,p)::r,vis=>if (decide (c<W.length)&&(vis.contains p&&Bg n R (ii W c) (ii W p)))=true then wX W n R r (c::vis) else Gb
def Om (n bd R:Nat):Bool:=match wX (Wl n bd R) n R (Pu n bd R) [0] with
 | some vis=>(jb (Wl n bd R).length).all λi=>!Gq n bd R (ii (Wl n bd R) i).2||vis.contains i
 | none=>false
def AS (n bd:Nat)(p:RB):Bool:=p.1.length==n&&match p.2 with
 | []=>true
 | [f]=>decide (f.h<n/\1<=f.a/\f.a<=5/\f.m<32)&&bd==1
 | _=>false
theorem Oo {n bd R:Nat}(h:Cm n bd R):Om n bd R=true/\(Wl n bd R).all (AS n bd)=true:=by
 obtain⟨h1,h2⟩:=h;rcases h1 with ⟨rfl,rfl|rfl⟩|⟨rfl,rfl⟩<;>rcases h2 with rfl|rfl|rfl<;>decide +kernel
theorem zM {n bd R:Nat}(h:Cm n bd R):2<=n/\n<=5/\bd+2<=n/\R<=2:=by
 obtain⟨h1,h2⟩:=h;omega
theorem Bj {n bd R:Nat}(h:Cm n bd R){p:RB}(hp:p∈Wl n bd R):p.1.length=n/\gu n p.2/\p.2.length<=bd:=by
 have c:=jO.mp (Oo h).2 p hp;obtain⟨n2,n5,_,_⟩:=zM h;obtain⟨bs,fs⟩:=p;unfold AS at c;rw[jo,beq_iff_eq] at c;refine⟨c.1,?_⟩;have c2:=c.2;dsimp only at c2 ⊢;split at c2
 .exact⟨⟨n2,n5,λf hf=>(by cases hf),λf hf=>(by cases hf),j7,λf hf=>(by cases hf),λf hf=>(by cases hf)⟩,jX _⟩
 .rename_i f;rw[jo,decide_eq_true_eq,beq_iff_eq] at c2;obtain⟨⟨a1,a2,a3,a4⟩,a5⟩:=c2;refine⟨⟨n2,n5,λg hg=>?_,λg hg=>?_,jJ.mpr ⟨(by simp),j7⟩,λg hg=>?_,λg hg=>?_⟩,by rw[a5];exact jr _⟩<;>rw[jp.mp hg]<;>assumption
 .cases c2
theorem Dn (x y:D)(p:RB){h:Nat}(hh:h<p.1.length):(iU x y p).getD h .none=cd x y (p.1.getD h false):=by
 unfold iU;rw[jl,jw,jl,jh hh];rfl
theorem yt (x y:D)(p:RB):(iU x y p).length=p.1.length:=jd _
theorem TW {p q:Bool}(h:cd (.int 0) (.int 1) p=cd (.int 0) (.int 1) q):p=q:=by
 cases p<;>cases q<;>first|rfl|(unfold cd at h;simp at h)
theorem NZ (x y:D){p q:RB}{n:Nat}(lp:p.1.length=n)(lq:q.1.length=n):∀ (R h:Nat),h<n->vw (yq p) p.2 R h=vw (yq q) q.2 R h->vw (iU x y p) p.2 R h=vw (iU x y q) q.2 R h
 | 0,h,hh,e=>by
  unfold vw at e ⊢;rw[Dn _ _ p (by omega),Dn _ _ q (by omega)] at e;rw[Dn _ _ p (by omega),Dn _ _ q (by omega)]
  injection e with e
  injection e with _ e
  injection e with e
  rw[TW e]
 | R+1,h,hh,e=>by
  unfold vw at e ⊢
  injection e with e
  injection e with _ e
  injection e with e
  injection e with e
  rw[yt,yt,lp,lq] at e ⊢;have e:=List.map_inj_left.mp e;refine congrArg (λl=>kW [.int (h:Int),.tuple l]) (ka λo ho=>?_);have eo:=e o ho;obtain⟨d1,t1⟩:=Dk (yq p) p.2 R o;obtain⟨d2,t2⟩:=Dk (yq q) q.2 R o;by_cases c1:o=h\/cm p.2 o h ((R+1:Nat):Int)=true
  .rw[Ge c1] at eo ⊢;by_cases c2:o=h\/cm q.2 o h ((R+1:Nat):Int)=true
   .rw[Ge c2] at eo ⊢;exact NZ x y lp lq R o (jm.mp ho) eo
   .rw[Gf c2,t1] at eo;cases eo
  .rw[Gf c1] at eo ⊢;by_cases c2:o=h\/cm q.2 o h ((R+1:Nat):Int)=true
   .rw[Ge c2,t2] at eo;cases eo
   .rw[Gf c2]
theorem UA {n R:Nat}(hR:R<=2){p q:RB}(lp:p.1.length=n)(lq:q.1.length=n)(m:Bg n R p q=true)(x y:D):∃ h,h<n/\up p.2 h (R:Int)=true/\up q.2 h (R:Int)=true/\vw (iU x y p) p.2 R h=vw (iU x y q) q.2 R h:=by
 obtain⟨h,hh,m⟩:=uK.mp m;rw[jo,jo] at m;refine⟨h,jm.mp hh,m.1,m.2.1,NZ x y lp lq R h (jm.mp hh) ?_⟩;exact HJ _ _ 8 8 (Ab _ _ (Aw 0 1 p.1) R h 8 (by omega)) (Ab _ _ (Aw 0 1 q.1) R h 8 (by omega)) m.2.2
theorem OQ {W:List RB}{n R:Nat}(I:Nat->Prop)(st:∀ c p,c<W.length->p<W.length->I p->Bg n R (ii W c) (ii W p)=true->I c):∀ (t:List (Nat×Nat)) (vis vis':List Nat),(∀ v∈vis,v<W.length/\I v)->wX W n R t vis=Ga vis'->∀ v∈vis',v<W.length/\I v
 | [],vis,vis',h,e=>by cases e;exact h
 | (c,p)::r,vis,vis',h,e=>by
  unfold wX at e;split at e;rotate_left
  .cases e
  rename_i q;rw[jo,jo,decide_eq_true_eq,kr] at q;obtain⟨q1,q2,q3⟩:=q;obtain⟨p1,p2⟩:=h p q2;exact OQ I st r (c::vis) vis' (λv hv=>by
   rcases jx.mp hv with rfl|hv
   .exact⟨q1,st _ _ q1 p1 p2 q3⟩
   .exact h v hv) e
theorem zy5 {n bd R:Nat}(h:Cm n bd R)(I:Nat->Prop)(i0:I 0)(st:∀ c p,c<(Wl n bd R).length->p<(Wl n bd R).length->I p->Bg n R (ii (Wl n bd R) c) (ii (Wl n bd R) p)=true->I c){i:Nat}(hi:i<(Wl n bd R).length)(o:Gq n bd R (ii (Wl n bd R) i).2=true):I i:=by
 have c:=(Oo h).1;unfold Om at c;split at c
 .rename_i vis e;have z:=jO.mp c i (jm.mpr hi);rw[o,ql,Jh,kr] at z;have l0:=(AN h).2.1;exact(OQ I st _ [0] vis (λv hv=>by rw[jp.mp hv];exact⟨by omega,i0⟩) e i z).2
 .cases c
def rX (h R:Nat)(f:Fl):Bool:=decide ((f.h:Int)=(h:Int))&&decide (f.a<=(R:Int))
theorem Ey (h R:Nat)(f:Fl):(iO (fS gz (dE eY (gv 0) (eW (.int 0))) (gv 1)) (fS lI (dE eY (gv 0) (eW (.int 1))) (gv 2))) [.val (fd f),.val (.int (h:Int)),.val (.int (R:Int))]=Ga (rX h R f):=by
 have i0:eY (fd f) (.int 0)=Ga (.int (f.h:Int)):=rfl;have i1:eY (fd f) (.int 1)=Ga (.int f.a):=rfl;unfold rX;generalize fd f=d at *;by_cases c1:(f.h:Int)=(h:Int)
 .by_cases c2:f.a<=(R:Int)
  .simp_arith[i0,i1,Gc c1,Gc c2,Bool.and_self]
  .simp_arith[i0,i1,Gc c1,Gd c2,uy]
 .simp_arith[i0,i1,Gd c1,qU]
theorem KS {n:Nat}{fs:List Fl}(G:gu n fs)(h R:Nat):gz (.list ((fs.filter (rX h R)).map fd)) (.list [])=Ga (.bool (up fs h (R:Int))):=by
 cases u:up fs h (R:Int) with
 | true =>
  have z:fs.filter (rX h R)=[]:=vK.mpr λf hf z=>by
   unfold rX at z;rw[jo,decide_eq_true_eq,decide_eq_true_eq] at z;have:=(nD G h _).mp u f hf (by omega);omega
  rw[z];rfl
 | false =>
  obtain⟨f,hf,e1,e2⟩:∃ f∈fs,f.h=h/\f.a<=(R:Int):=by
   refine kP λno=>?_;rw[(nD G h _).mpr λf hf e=>kP λz=>no ⟨f,hf,e,by omega⟩] at u;cases u
  have hm:f∈fs.filter (rX h R):=jA.mpr ⟨hf,by unfold rX;rw[Gc (by omega),Gc e2];rfl⟩;generalize fs.filter (rX h R)=l at hm;obtain⟨l1,l2⟩:=my (xs:=l.map fd) (n:=3) λx hx=>by
   obtain⟨g,_,rfl⟩:=jq.mp hx;exact⟨rfl,by unfold fd;simp[qD,jF]⟩
  cases l with
  | nil=>cases hm
  | cons g r =>
   unfold gz;have ok:oY (.list ((g::r).map fd)) (.list [])=true:=by
    unfold oY;rw[show(vB ((g::r).map fd)).canLay0=true from l1,Gc (j6 (JC _ _) (by decide))];rfl
   rw[Ge ok];simp only[jB,jW,ub]
theorem GL (x0 x1 x2 x5 x11:Sl)(R:Nat)(Rn Fd X:D)(L m:Int)(h:Nat)(fs:List D)(cl ms ms':List D)(u:Bool)(y8 y9 y10:Sl)(r1:eY Rn (.int 1)=Ga Fd)(hs:toS Fd=Ga fs)(hl:fs.length<=1000000)(hc:iq (iO (fS gz (dE eY (gv 0) (eW (.int 0))) (gv 1)) (fS lI (dE eY (gv 0) (eW (.int 1))) (gv 2))) (gv 0) [.val (.int (h:Int)),.val (.int (R:Int))] fs=Ga cl)(he:gz (.list cl) (.list [])=Ga (.bool u))
  (q:(u=false/\ms'=ms)\/(u=true/\X=.tuple [.int L,.int m]/\ms'=[.int m]/\(ms=[]\/ms=[.int m]))) :
  lD (λψ=>∃ y8 y9 y10,ψ=[x0,x1,x2,.val (.int (R:Int)),.own ms',x5,.val Rn,.val (.int L),y8,y9,y10,x11]) (((oQ (mT (gj 8) (mT (gj 9) rS))) (.tuple [.int (h:Int),X]) [x0,x1,x2,.val (.int (R:Int)),.own ms,x5,.val Rn,.val (.int L),y8,y9,y10,x11]).bind (fE (gn 10 (dE gz (gR (fQ (lv (dE eY (gv 6) (eW (.int 1)))) (iO (fS gz (dE eY (gv 0) (eW (.int 0))) (gv 1)) (fS lI (dE eY (gv 0) (eW (.int 1))) (gv 2))) (gv 0) [8,3])) (gR fH))) (fE (gB (iO (iR (gv 10)) (nl (fS iP (gv 9) (eW .none)) (fS ia (dE eY (gv 9) (eW (.int 0))) (gv 7)))) (hV (eW .none)) gG) (gB (iO (iR (gv 10)) (fS lM (dE eY (gv 9) (eW (.int 1))) (gv 4))) (se 4 (dE eY (gv 9) (eW (.int 1)))) gG)))):=by
 have nn:ia (.int L) (.int L)=Ga (.bool false):=by rw[MF,Gd (λw=>w rfl)]
 have is0:iP (.tuple [.int L,.int m]) .none=Ga (.bool false):=rfl;have n0:lM (.int m) (.list [])=Ga (.bool true):=rfl;have n1:lM (.int m) (.list [.int m])=Ga (.bool false):=UJ m [m] jf;rcases q with ⟨rfl,rfl⟩|⟨rfl,rfl,rfl,rfl|rfl⟩
 .simp_arith[r1,hs,xE,Ge hl,hc,he];exact xr ⟨_,_,_,rfl⟩
 .simp_arith[r1,hs,xE,Ge hl,hc,he,is0,nn,n0];exact xr ⟨_,_,_,rfl⟩
 .simp_arith[r1,hs,xE,Ge hl,hc,he,is0,nn,n1];exact xr ⟨_,_,_,rfl⟩
theorem PN (Lc:FV)(Bi K:FS)(RS G B R i Rn C:D)(L:Int)(ms Ks:List D)(Pt:Gj)(y5 y6 y7 y8 y9 y10:Sl)(eB:Bi=(fE (gn 10 (dE gz (gR (fQ (lv (dE eY (gv 6) (eW (.int 1)))) (iO (fS gz (dE eY (gv 0) (eW (.int 0))) (gv 1)) (fS lI (dE eY (gv 0) (eW (.int 1))) (gv 2))) (gv 0) [8,3])) (gR fH))) (fE (gB (iO (iR (gv 10)) (nl (fS iP (gv 9) (eW .none)) (fS ia (dE eY (gv 9) (eW (.int 0))) (gv 7)))) (hV (eW .none)) gG) (gB (iO (iR (gv 10)) (fS lM (dE eY (gv 9) (eW (.int 1))) (gv 4))) (se 4 (dE eY (gv 9) (eW (.int 1)))) gG))))(h1:eY RS i=Ga Rn)(h2:lZ [Rn,B]=Ga (.int L))(h3:∀ y7 y8 y9 y10,Lc [.val RS,.val G,.val B,.val R,.own ms,.val i,.val Rn,y7,y8,y9,y10,.tab Pt]=Ga C)(h4:on C=Ga Ks) :
  (gj 5 i [.val RS,.val G,.val B,.val R,.own ms,y5,y6,y7,y8,y9,y10,.tab Pt]).bind (fE (gn 6 (dE eY (gv 0) (gv 5))) (fE (gn 7 (gc lZ (eX (gv 6) (eX (gv 2) fH)))) (lT (lU on Lc) (oQ (mT (gj 8) (mT (gj 9) rS))) (fE (gn 10 (dE gz (gR (fQ (lv (dE eY (gv 6) (eW (.int 1)))) (iO (fS gz (dE eY (gv 0) (eW (.int 0))) (gv 1)) (fS lI (dE eY (gv 0) (eW (.int 1))) (gv 2))) (gv 0) [8,3])) (gR fH))) (fE (gB (iO (iR (gv 10)) (nl (fS iP (gv 9) (eW .none)) (fS ia (dE eY (gv 9) (eW (.int 0))) (gv 7)))) (hV (eW .none)) gG) (gB (iO (iR (gv 10)) (fS lM (dE eY (gv 9) (eW (.int 1))) (gv 4))) (se 4 (dE eY (gv 9) (eW (.int 1)))) gG))))))=fY (oQ (mT (gj 8) (mT (gj 9) rS))) Bi Ks [.val RS,.val G,.val B,.val R,.own ms,.val i,.val Rn,.val (.int L),y8,y9,y10,.tab Pt]:=by
 rw[<- eB];generalize lZ=A1 at *;simp_arith[h1,h2,h3,h4]
theorem Wh (Lc:FV)(RS G B i:D)(R bd L:Nat)(m:Int)(ns:List D)(fs:List Fl)(hGo:gu ns.length fs)(Fd:Nat->D)(T:TR ns fs bd R L m Fd)(hf:fs.length+2<=ns.length)(hL:L<=R)(ms:List D)(hms:ms=[]\/ms=[.int m])(Pt:Gj)(y5 y6 y7 y8 y9 y10:Sl)(eB:B=.int (bd:Int))(h1:eY RS i=Ga (rd ns fs))(h3:∀ y7 y8 y9 y10,Lc [.val RS,.val G,.val B,.val (.int (R:Int)),.own ms,.val i,.val (rd ns fs),y7,y8,y9,y10,.tab Pt]=Ga (.list ((jb ns.length).map Fd))) :
  lD (λψ=>∃ y5 y6 y7 y8 y9 y10,ψ=[.val RS,.val G,.val B,.val (.int (R:Int)),.own [.int m],y5,y6,y7,y8,y9,y10,.tab Pt]) ((gj 5 i [.val RS,.val G,.val B,.val (.int (R:Int)),.own ms,y5,y6,y7,y8,y9,y10,.tab Pt]).bind (fE (gn 6 (dE eY (gv 0) (gv 5))) (fE (gn 7 (gc lZ (eX (gv 6) (eX (gv 2) fH)))) (lT (lU on Lc) (oQ (mT (gj 8) (mT (gj 9) rS))) (fE (gn 10 (dE gz (gR (fQ (lv (dE eY (gv 6) (eW (.int 1)))) (iO (fS gz (dE eY (gv 0) (eW (.int 0))) (gv 1)) (fS lI (dE eY (gv 0) (eW (.int 1))) (gv 2))) (gv 0) [8,3])) (gR fH))) (fE (gB (iO (iR (gv 10)) (nl (fS iP (gv 9) (eW .none)) (fS ia (dE eY (gv 9) (eW (.int 0))) (gv 7)))) (hV (eW .none)) gG) (gB (iO (iR (gv 10)) (fS lM (dE eY (gv 9) (eW (.int 1))) (gv 4))) (se 4 (dE eY (gv 9) (eW (.int 1)))) gG))))))):=by
 subst eB;have n5:=hGo.n5;have en:on (.list ((jb ns.length).map Fd))=Ga ((jb ns.length).map λ(h:Nat)=>kW [.int (h:Int),Fd h]):=by
  unfold on;dsimp only;rw[jd,jK];refine congrArg Ga (ka λh hh=>?_);rw[jl,jw,kX (jm.mp hh)];rfl
 rw[PN Lc _ gG RS G _ _ i (rd ns fs) _ (L:Int) ms _ Pt y5 y6 y7 y8 y9 y10 rfl h1 T.cl h3 en];have st:=Gx (t:=(oQ (mT (gj 8) (mT (gj 9) rS)))) (g:=(fE (gn 10 (dE gz (gR (fQ (lv (dE eY (gv 6) (eW (.int 1)))) (iO (fS gz (dE eY (gv 0) (eW (.int 0))) (gv 1)) (fS lI (dE eY (gv 0) (eW (.int 1))) (gv 2))) (gv 0) [8,3])) (gR fH))) (fE (gB (iO (iR (gv 10)) (nl (fS iP (gv 9) (eW .none)) (fS ia (dE eY (gv 9) (eW (.int 0))) (gv 7)))) (hV (eW .none)) gG) (gB (iO (iR (gv 10)) (fS lM (dE eY (gv 9) (eW (.int 1))) (gv 4))) (se 4 (dE eY (gv 9) (eW (.int 1)))) gG)))) (ψ:=[.val RS,.val G,.val (.int (bd:Int)),.val (.int (R:Int)),.own ms,.val i,.val (rd ns fs),.val (.int (L:Int)),y8,y9,y10,.tab Pt]) (λ(h:Nat)=>kW [.int (h:Int),Fd h]) (λpre ψ=>∃ ms y8 y9 y10,ψ=[.val RS,.val G,.val (.int (bd:Int)),.val (.int (R:Int)),.own ms,.val i,.val (rd ns fs),.val (.int (L:Int)),y8,y9,y10,.tab Pt]/\(ms=[]\/ms=[.int m])/\((∃ h∈pre,up fs h (R:Int)=true)->ms=[.int m])) (jb ns.length) ⟨ms,y8,y9,y10,rfl,hms,λ⟨h,hh,_⟩=>by cases hh⟩ (λpre h suf ep ψ ⟨ms,y8,y9,y10,he,q1,q2⟩=>by
  subst he;have hh:h<ns.length:=jm.mp (by rw[ep];exact jH _ jf);cases u:up fs h (R:Int) with
  | false =>
   refine yz (GL _ _ _ _ _ R (rd ns fs) (.tuple (fs.map fd)) (Fd h) (L:Int) m h (fs.map fd) _ ms ms false y8 y9 y10 rfl rfl (by rw[jd];have:=LU hGo;omega) (CM fd (rX h R) fd (λf _=>Ey h R f) (λf _ _=>rfl)) (by rw[KS hGo,u]) (.inl ⟨rfl,rfl⟩)) λe ⟨y8,y9,y10,he⟩=>⟨ms,y8,y9,y10,he,q1,λ⟨x,hx,ux⟩=>?_⟩;rcases kc.mp hx with hx|hx
   .exact q2 ⟨x,hx,ux⟩
   .rw[jp.mp hx,u] at ux;cases ux
  | true =>
   exact yz (GL _ _ _ _ _ R (rd ns fs) (.tuple (fs.map fd)) (Fd h) (L:Int) m h (fs.map fd) _ ms [.int m] true y8 y9 y10 rfl rfl (by rw[jd];have:=LU hGo;omega) (CM fd (rX h R) fd (λf _=>Ey h R f) (λf _ _=>rfl)) (by rw[KS hGo,u]) (.inr ⟨rfl,T.yes h hh u hL,rfl,q1⟩)) λe ⟨y8,y9,y10,he⟩=>⟨[.int m],y8,y9,y10,he,.inr rfl,λ_=>rfl⟩)
 refine yz st λe ⟨ms',y8,y9,y10,he,_,q2⟩=>?_;have two:=Hm hGo (R:Int);obtain⟨x,hx⟩:=vZ (show 0<((jb ns.length).filter λh=>up fs h (R:Int)).length by omega);have hx:=jA.mp hx;have em:=q2 ⟨x,hx.1,hx.2⟩;subst em;exact⟨_,_,_,y8,y9,y10,he⟩
theorem Qp (Lc:FV)(RS G B R X:D)(gs:List D)(Pt:Gj)(hs:toS G=Ga gs)(q:fK (iB (fY (gj 5) (fE (gn 6 (dE eY (gv 0) (gv 5))) (fE (gn 7 (gc lZ (eX (gv 6) (eX (gv 2) fH)))) (lT (lU on Lc) (oQ (mT (gj 8) (mT (gj 9) rS))) (fE (gn 10 (dE gz (gR (fQ (lv (dE eY (gv 6) (eW (.int 1)))) (iO (fS gz (dE eY (gv 0) (eW (.int 0))) (gv 1)) (fS lI (dE eY (gv 0) (eW (.int 1))) (gv 2))) (gv 0) [8,3])) (gR fH))) (fE (gB (iO (iR (gv 10)) (nl (fS iP (gv 9) (eW .none)) (fS ia (dE eY (gv 9) (eW (.int 0))) (gv 7)))) (hV (eW .none)) gG) (gB (iO (iR (gv 10)) (fS lM (dE eY (gv 9) (eW (.int 1))) (gv 4))) (se 4 (dE eY (gv 9) (eW (.int 1)))) gG)))))) gs [.val RS,.val G,.val B,.val R,.own [],.no,.no,.no,.no,.no,.no,.tab Pt]) (yU (go 4)))=Ga X):fK ((fE (pU 4 fH) (fE (lT (lv (gv 1)) (gj 5) (fE (gn 6 (dE eY (gv 0) (gv 5))) (fE (gn 7 (gc lZ (eX (gv 6) (eX (gv 2) fH)))) (lT (lU on Lc) (oQ (mT (gj 8) (mT (gj 9) rS))) (fE (gn 10 (dE gz (gR (fQ (lv (dE eY (gv 6) (eW (.int 1)))) (iO (fS gz (dE eY (gv 0) (eW (.int 0))) (gv 1)) (fS lI (dE eY (gv 0) (eW (.int 1))) (gv 2))) (gv 0) [8,3])) (gR fH))) (fE (gB (iO (iR (gv 10)) (nl (fS iP (gv 9) (eW .none)) (fS ia (dE eY (gv 9) (eW (.int 0))) (gv 7)))) (hV (eW .none)) gG) (gB (iO (iR (gv 10)) (fS lM (dE eY (gv 9) (eW (.int 1))) (gv 4))) (se 4 (dE eY (gv 9) (eW (.int 1)))) gG))))))) (yU (go 4)))) [.val RS,.val G,.val B,.val R,.no,.no,.no,.no,.no,.no,.no,.tab Pt])=Ga X:=by
 generalize (fE (gn 6 (dE eY (gv 0) (gv 5))) (fE (gn 7 (gc lZ (eX (gv 6) (eX (gv 2) fH)))) (lT (lU on Lc) (oQ (mT (gj 8) (mT (gj 9) rS))) (fE (gn 10 (dE gz (gR (fQ (lv (dE eY (gv 6) (eW (.int 1)))) (iO (fS gz (dE eY (gv 0) (eW (.int 0))) (gv 1)) (fS lI (dE eY (gv 0) (eW (.int 1))) (gv 2))) (gv 0) [8,3])) (gR fH))) (fE (gB (iO (iR (gv 10)) (nl (fS iP (gv 9) (eW .none)) (fS ia (dE eY (gv 9) (eW (.int 0))) (gv 7)))) (hV (eW .none)) gG) (gB (iO (iR (gv 10)) (fS lM (dE eY (gv 9) (eW (.int 1))) (gv 4))) (se 4 (dE eY (gv 9) (eW (.int 1)))) gG))))))=Bd at *;simp_arith[hs];exact q
structure RW (x y:D)(W:List RB)(n bd R:Nat)(Lf:Nat->Nat)(mf:Nat->Int)(Ff:Nat->Nat->D):Prop where
 ln:∀ i,i<W.length->(iU x y (ii W i)).length=n
 gd:∀ i,i<W.length->gu n (ii W i).2
 le:∀ i,i<W.length->(ii W i).2.length<=bd
 tr:∀ i,i<W.length->TR (iU x y (ii W i)) (ii W i).2 bd R (Lf i) (mf i) (Ff i)
 op:∀ i,i<W.length->(Lf i:Int)=(bd:Int)+1-nh (ik n (ii W i).2)
theorem yu {W:List RB}{i:Nat}(h:i<W.length):ii W i∈W/\W[i]?=Ga (ii W i):=by
 unfold ii;rw[jl,jh h];exact⟨uJ h,rfl⟩
theorem VP (a b:Int){n bd R:Nat}(h:Cm n bd R):∃ Lf mf Ff,RW (.int a) (.int b) (Wl n bd R) n bd R Lf mf Ff:=by
 obtain⟨n2,n5,hb,hR⟩:=zM h;have key:∀ i,i<(Wl n bd R).length->∃ (L:Nat) (m:Int) (Fd:Nat->D),TR (iU (.int a) (.int b) (ii (Wl n bd R) i)) (ii (Wl n bd R) i).2 bd R L m Fd/\(L:Int)=(bd:Int)+1-nh (ik n (ii (Wl n bd R) i).2):=λi hi=>by
  obtain⟨g1,g2,g3⟩:=Bj h (yu hi).1;have ln:(iU (.int a) (.int b) (ii (Wl n bd R) i)).length=n:=(yt _ _ _).trans g1;have:=Rj (iU (.int a) (.int b) (ii (Wl n bd R) i)) (ii (Wl n bd R) i).2 (by rw[ln];exact g2) (Aw a b _) bd (by rw[ln];exact hb) g3 R (by omega);rw[ln] at this;exact this
 refine⟨λi=>if q:i<(Wl n bd R).length then u8 (key i q) else 0,λi=>if q:i<(Wl n bd R).length then u8 (jU (key i q)) else 0,λi=>if q:i<(Wl n bd R).length then u8 (jU (jU (key i q))) else λ_=>.none,⟨λi hi=>?_,λi hi=>?_,λi hi=>?_,λi hi=>?_,λi hi=>?_⟩⟩
 .exact(yt _ _ _).trans (Bj h (yu hi).1).1
 .exact(Bj h (yu hi).1).2.1
 .exact(Bj h (yu hi).1).2.2
 .rw[dif_pos hi,dif_pos hi,dif_pos hi];exact(jU (jU (jU (key i hi)))).1
 .rw[dif_pos hi];exact(jU (jU (jU (key i hi)))).2
theorem BQ {x y:D}{W:List RB}{i:Nat}(h:i<W.length):eY (.list (W.map (mh x y))) (.int (i:Int))=Ga (rd (iU x y (ii W i)) (ii W i).2):=L2.atI_nat (by rw[jw,(yu h).2];rfl)
theorem YX (mk:(D->Option D)->gD)(Pt:Gj){x y:D}{W:List RB}{n bd R:Nat}{Lf:Nat->Nat}{mf:Nat->Int}{Ff:Nat->Nat->D}(A:RW x y W n bd R Lf mf Ff)(hb:bd+2<=n)(g:List Nat)(m:Int)(ne:g≠[])(hg:∀ i∈g,i<W.length/\Lf i<=R/\mf i=m):xh mk Pt [.list (W.map (mh x y)),.list (il g),.int (bd:Int),.int (R:Int)]=Ga (.list [.int m]):=by
 rw[Yb];unfold Lo;refine Qp (pC 11 Pt mk (gc sY (eX (gv 0) (eX (gv 1) fH))) wF [2] (eX (gv 6) (eX (gv 3) fH))) _ _ _ _ _ (il g) Pt rfl ?_;refine(congrArg fK (ZE (R:=Ga (.ro [.int m])) (λ(i:Nat)=>jc (i:Int)) (λpre ψ=>∃ ms y5 y6 y7 y8 y9 y10,ψ=[.val (.list (W.map (mh x y))),.val (.list (il g)),.val (.int (bd:Int)),.val (.int (R:Int)),.own ms,y5,y6,y7,y8,y9,y10,.tab Pt]/\(ms=[]\/ms=[.int m])/\(pre≠[]->ms=[.int m])) g ⟨[],_,_,_,_,_,_,rfl,.inl rfl,λz=>absurd rfl z⟩ (λpre i suf ep ψ ⟨ms,y5,y6,y7,y8,y9,y10,he,q1,_⟩=>?_) (λψ ⟨ms,y5,y6,y7,y8,y9,y10,he,_,q2⟩=>?_))).trans rfl
 .subst he;obtain⟨i1,i2,i3⟩:=hg i (by rw[ep];exact jH _ jf);have T:=A.tr i i1;rw[i3] at T;have ln:=A.ln i i1;refine yz (Wh _ _ _ _ (.int (i:Int)) R bd (Lf i) m _ (ii W i).2 (by rw[ln];exact A.gd i i1) (Ff i) T (by rw[ln];have:=A.le i i1;omega) i2 ms q1 Pt y5 y6 y7 y8 y9 y10 rfl (BQ i1) λy7 y8 y9 y10=>?_) λe ⟨y5,y6,y7,y8,y9,y10,he⟩=>⟨[.int m],y5,y6,y7,y8,y9,y10,he,.inr rfl,λ_=>rfl⟩;exact YY (cs:=[.int (bd:Int)]) (as:=[rd (iU x y (ii W i)) (ii W i).2,.int (R:Int)]) rfl rfl rfl λc=>T.ch c
 .subst he;rw[q2 ne];rfl
theorem za (k:Nat)(hk:k<=1000):rB (.int 10) (.int (k:Int))=Ga (.int ((10:Int)^k)):=by
 show(if (decide ((0:Int)<=(k:Int))&&decide ((k:Int)<=1000000)&&decide ((10:Int).natAbs<2^64))=true then Ga (jc ((10:Int)^(k:Int).toNat)) else Gb)=_;rw[Gc (by omega),Gc (by omega),Ge (by decide),jR]
theorem Le (S:D)(k len a:Int)(hl:fU S=Ga (.int len))(h:(k<len/\eY S (.int k)=Ga (.int a))\/(¬k<len/\a=0)):pz [S,.int k]=Ga (.int a):=by
 rw[ziC];unfold HD;rcases h with ⟨c,d⟩|⟨c,rfl⟩
 .simp_arith[hl,Gc c,d]
 .simp_arith[hl,Gd c]
theorem Es (ns:List Int):fU (.list (ns.map jc))=Ga (.int (ns.length:Int)):=by
 show Ga (jc (((ns.map jc).length:Nat):Int))=_;rw[jd]
theorem Hb (ns:List Int){k:Nat}(hk:k<ns.length):eY (.list (ns.map jc)) (.int (k:Int))=Ga (.int ns[k]):=L2.atI_nat (by rw[jw,jh hk];rfl)
theorem Lh (ns:List Int)(k:Nat):∃ a,pz [.list (ns.map jc),.int (k:Int)]=Ga (.int a):=by
 by_cases c:k<ns.length
 .exact⟨ns[k],Le _ _ (ns.length:Int) _ (Es ns) (.inl ⟨by omega,Hb ns c⟩)⟩
 .exact⟨0,Le _ _ (ns.length:Int) _ (Es ns) (.inr ⟨by omega,rfl⟩)⟩
theorem QJ (pw:D->D->Option D)(S:D)(t k x P:Int)(kk tk:Int)(y2:Sl)(hp:pw (.int 10) (.int 59)=Ga (.int P))(h1:eY S (.int k)=Ga (.int x))(h2:lH (.int k) (.int k)=Ga (.int kk))(h3:lH (.int t) (.int 48271)=Ga (.int tk))(h4:∀ z:Int,iW (.int z) (.int P)=Ga (.int (z%P))) :
  lD (λψ=>∃ t y2,ψ=[.val S,.val (.int t),y2]) ((gj 2 (.int k) [.val S,.val (.int t),y2]).bind (gn 1 (dE iW (dE ge (dE ge (dE lH (gv 1) (eW (.int 48271))) (dE eY (gv 0) (gv 2))) (dE lH (gv 2) (gv 2))) (dE pw (eW (.int 10)) (eW (.int 59)))))):=by
 simp_arith[hp,h1,h2,h3,h4];exact xr ⟨_,_,rfl⟩
theorem Qk (pw:D->D->Option D)(Bd:FS)(S:D)(l m c P40 P58:Int)(Ks:List D)(h1:fU S=Ga (.int l))(h2:(if 63<l then 63 else l)=m)(h3:gf (.int m)=Ga Ks)(h4:pz [S,.int 1]=Ga (.int c))(h5:pw (.int 10) (.int 58)=Ga (.int P58))(h6:pw (.int 10) (.int 40)=Ga (.int P40))(h7:iW (.int c) (.int P40)=Ga (.int (c%P40)))(st:lD (λψ=>∃ t y2,ψ=[.val S,.val (.int t),y2]) (fY (gj 2) Bd Ks [.val S,.val (.int 0),.no])) :
  ∃ t:Int,fK ((fE (gn 1 (eW (.int 0))) (fE (lT (lU gf (dE mI (lK fU (gv 0)) (eW (.int 63)))) (gj 2) Bd) (hV (gR (eX (dE iz (gv 1) (dE pw (eW (.int 10)) (eW (.int 58)))) (eX (dE ge (dE ge (dE iz (gv 1) (dE pw (eW (.int 10)) (eW (.int 58)))) (eW (.int 1))) (dE iW (gc pz (eX (gv 0) (eX (eW (.int 1)) fH))) (dE pw (eW (.int 10)) (eW (.int 40))))) fH)))))) [.val S,.no,.no])=Ga (.list [.int (t-P58),.int (t-P58+1+c%P40)]):=by
 obtain⟨e,e1,t,y2,rfl⟩:=st;refine⟨t,?_⟩;generalize pz=A1 at *;simp_arith[h1,h2,h3,h4,h5,h6,h7,e1]
theorem Uc (ns:List Int)(hn:ns.length<=63):∃ a b:Int,a<b/\wA [.list (ns.map jc)]=Ga (.list [.int a,.int b]):=by
 obtain⟨c,hc⟩:=Lh ns 1;have p0:∀ k:Nat,(0:Int)<10^k:=λk=>Int.pow_pos (by decide);have L:=Qk rB (gn 1 (dE iW (dE ge (dE ge (dE lH (gv 1) (eW (.int 48271))) (dE eY (gv 0) (gv 2))) (dE lH (gv 2) (gv 2))) (dE rB (eW (.int 10)) (eW (.int 59))))) (.list (ns.map jc)) (ns.length:Int) (ns.length:Int) c ((10:Int)^40) ((10:Int)^58) ((jb ns.length).map λ(k:Nat)=>.int (k:Int)) (Es ns) (Gf (by omega)) (by rw[<- mV];exact pL (by omega)) hc (za 58 (by omega)) (za 40 (by omega)) (Bb (p0 40)) ?_
 .obtain⟨t,e⟩:=L;have m0:=Int.emod_nonneg c (show(10:Int)^40≠0 from Int.ne_of_gt (p0 40));refine⟨t-10^58,t-10^58+1+c%10^40,by omega,?_⟩;rw[ziD];unfold Em;exact e
 .refine SQ (λψ=>∃ t y2,ψ=[.val (.list (ns.map jc)),.val (.int t),y2]) ⟨_,_,rfl⟩ λd hd ψ ⟨t,y2,he⟩=>?_;subst he;obtain⟨k,hk,rfl⟩:=jq.mp hd;have hk:=jm.mp hk;exact QJ rB _ t (k:Int) ns[k] _ _ _ y2 (za 59 (by omega)) (Hb ns hk) (OJ (SD (by omega) (by omega))) (OJ (WR (by decide) (by decide))) λ_=>Bb (p0 59)
theorem Pq (B R RS i Rn:D)(L Ri:Int)(hR:R=.int Ri)(h1:eY RS i=Ga Rn)(h2:lZ [Rn,B]=Ga (.int L)):(dE nO (gv 2) (gc lZ (eX (dE eY (gv 3) (gv 0)) (eX (gv 1) fH)))) [.val i,.val B,.val R,.val RS]=Ga (.bool (decide (Ri<L))):=by
 subst hR;generalize lZ=A1 at *;simp_arith[h1,h2]
theorem Qu (Lt:FV)(S c H B R RS F G X:D)(o mn l:Int)(gs bs:List D)(b:Bool)(Pt:Gj)(y9 y10 y11:Sl)(hG:G=.list gs)(hl:(gs.length:Int)=l)(gl:gs.length<=1000000)(hc:iq (λ_=>Ga true) (dE nO (gv 2) (gc lZ (eX (dE eY (gv 3) (gv 0)) (eX (gv 1) fH)))) [.val B,.val R,.val RS] gs=Ga bs)(i0:eY (.list bs) (.int 0)=Ga (.bool b))(hn:fU (.list bs)=Ga (.int l))(hr:rD [.bool b] (.int l)=Ga bs)(ne:ia (.list bs) (.list bs)=Ga (.bool false))
  (q:b=false->(∀ y11,Lt [.val S,.val c,.val H,.val B,.val R,.val RS,.val F,.val (.int o),.val (.int (mn+l)),.val G,.val (.list bs),y11,.tab Pt]=Ga X)/\iP X .none=Ga (.bool false)/\fU X=Ga (.int 1)) :
  lD (λψ=>∃ y9 y10 y11,ψ=[.val S,.val c,.val H,.val B,.val R,.val RS,.val F,.val (.int (if b=true then o+1 else o)),.val (.int (mn+l)),y9,y10,y11,.tab Pt]) ((gj 9 G [.val S,.val c,.val H,.val B,.val R,.val RS,.val F,.val (.int o),.val (.int mn),y9,y10,y11,.tab Pt]).bind (fE (gn 8 (dE ge (gv 8) (lK fU (gv 9)))) (fE (Cp 10 (pU 10 (fQ (lv (gv 9)) (λ_=>Ga true) (dE nO (gv 2) (gc lZ (eX (dE eY (gv 3) (gv 0)) (eX (gv 1) fH)))) [3,4,5]))) (fE (gB (fS ia (gv 10) (gR (Cc (eX (dE eY (gv 10) (eW (.int 0))) fH) (lK fU (gv 10))))) (hV (eW (.bool false))) gG) (gB (iR (dE eY (gv 10) (eW (.int 0)))) (gn 7 (dE ge (gv 7) (eW (.int 1)))) (fE (gn 11 Lt) (gB (nl (fS iP (gv 11) (eW .none)) (fS ia (lK fU (gv 11)) (eW (.int 1)))) (hV (eW (.bool false))) gG))))))):=by
 have hd:fU G=Ga (.int l):=by rw[hG];show Ga (jc ((gs.length:Nat):Int))=_;rw[hl]
 have hs:toS G=Ga gs:=by rw[hG];rfl
 have n1:ia (.int 1) (.int 1)=Ga (.bool false):=rfl;clear hG;generalize lZ=A1 at *;cases b with
 | true =>
  simp_arith[hd,hs,xE,Ge gl,hc,i0,hn,hr,ne,↓reduceIte];exact xr ⟨_,_,_,rfl⟩
 | false =>
  obtain⟨q1,q2,q3⟩:=q rfl;simp_arith[hd,hs,xE,Ge gl,hc,i0,hn,hr,ne,q1,q2,q3,n1];exact xr ⟨_,_,_,rfl⟩
theorem Ub (Bd:FS)(S N RS Fs:D)(gs:List D)(c n bd R t1 t2 t3 i1 mn o l:Int)(Pt:Gj)(y9 y10 y11:Sl)(h0:pz [S,.int 0]=Ga (.int c))(m4:iW (.int c) (.int 4)=Ga (.int t1))(a1:L2.atI [jc 1,.int 1,.int 1,.int 0] t1=Ga (.int i1))(hn:2+i1=n)(d4:oW (.int c) (.int 4)=Ga (.int (c/4)))(m3:iW (.int (c/4)) (.int 3)=Ga (.int t2))(a2:L2.atI [jc (n-2),.int (n-2),.int 0] t2=Ga (.int bd))(d12:oW (.int c) (.int 12)=Ga (.int (c/12)))(m12:iW (.int (c/12)) (.int 4)=Ga (.int t3))(a3:L2.atI [jc 0,.int 1,.int 1,.int 2] t3=Ga (.int R))
  (hN:wA [S]=Ga N) (hW:sP [N,.int n,.int bd,.int R]=Ga RS) (hC:wB [RS,.int R]=Ga Fs) (hs:toS Fs=Ga gs) (hl:fU RS=Ga (.int l))
  (q:fY (gj 9) Bd gs [.val S,.val (.int c),.val (.int n),.val (.int bd),.val (.int R),.val RS,.val Fs,.val (.int 0),.val (.int 0),.no,.no,.no,.tab Pt]=Ga (.nx [.val S,.val (.int c),.val (.int n),.val (.int bd),.val (.int R),.val RS,.val Fs,.val (.int o),.val (.int mn),y9,y10,y11,.tab Pt])) (e1:mn=l) (e2:o<2) :
  fK ((fE (gn 1 (gc pz (eX (gv 0) (eX (eW (.int 0)) fH)))) (fE (gn 2 (dE ge (eW (.int 2)) (dE eY (gR (eX (eW (.int 1)) (eX (eW (.int 1)) (eX (eW (.int 1)) (eX (eW (.int 0)) fH))))) (dE iW (gv 1) (eW (.int 4)))))) (fE (gn 3 (dE eY (gR (eX (dE iz (gv 2) (eW (.int 2))) (eX (dE iz (gv 2) (eW (.int 2))) (eX (eW (.int 0)) fH)))) (dE iW (dE oW (gv 1) (eW (.int 4))) (eW (.int 3))))) (fE (gn 4 (dE eY (gR (eX (eW (.int 0)) (eX (eW (.int 1)) (eX (eW (.int 1)) (eX (eW (.int 2)) fH))))) (dE iW (dE oW (gv 1) (eW (.int 12))) (eW (.int 4))))) (fE (gn 5 (gc sP (eX (gc wA (eX (gv 0) fH)) (eX (gv 2) (eX (gv 3) (eX (gv 4) fH)))))) (fE (gn 6 (gc wB (eX (gv 5) (eX (gv 4) fH)))) (fE (gn 7 (eW (.int 0))) (fE (gn 8 (eW (.int 0))) (fE (lT (lv (gv 6)) (gj 9) Bd) (hV (Gn (dE gz (gv 8) (lK fU (gv 5))) (dE nO (gv 7) (eW (.int 2)))))))))))))) [.val S,.no,.no,.no,.no,.no,.no,.no,.no,.no,.no,.no,.tab Pt])=Ga (.bool true):=by
 generalize pz=A1 at *;generalize wA=A2 at *;generalize sP=A3 at *;generalize wB=A4 at *;simp_arith[h0,m4,a1,hn,d4,m3,a2,d12,m12,a3,hN,hW,hC,hs,q,hl,Gc e1,Gc e2]
theorem FN {ns:List D}{fs:List Fl}{r k:Nat}(h:oI ns fs r k≠.none):up fs k (r:Int)=true/\oI ns fs r k=vw ns fs r k:=by
 unfold oI at h ⊢;split at h
 .rename_i u;exact⟨u,Ge u⟩
 .exact absurd rfl h
theorem Zg {ns ms:List D}{fs gs:List Fl}{r a b:Nat}(h:vw ns fs r a=vw ms gs r b):a=b:=by
 cases r with
 | zero=>have:=qB h;have:=(Jk this).1;have:=uA this;omega
 | succ r=>have:=qB h;have:=(Jk this).1;have:=uA this;omega
theorem Vv (ns:List D)(fs:List Fl)(hi:∀ d∈ns,∃ i:Int,d=.int i)(r:Nat)(hr:r<3):Dq (vL ns fs r):=λv hv=>by
 obtain⟨k,_,rfl⟩:=jq.mp hv;by_cases c:oI ns fs r k=.none
 .exact .inl c
 .obtain⟨_,e⟩:=FN c;rw[e];refine .inr ⟨?_,NT ns fs r k,λz=>by obtain⟨d,e⟩:=Dk ns fs r k;rw[e] at z;cases z⟩;rw[Ab ns fs hi r k 8 (by omega),Op];rfl
theorem Pg {rt:Nat->Nat}{N a i:Nat}:i∈io rt N a↔i<N/\rt i=a:=by unfold io;rw[jA,jm,beq_iff_eq]
theorem Ce {rt:Nat->Nat}{N i:Nat}:i∈oM rt N↔i<N/\rt i=i:=by unfold oM;rw[jA,jm,beq_iff_eq]
theorem LN {x:Nat}:∀ {l:List Nat},l.Nodup->(l.map λa=>if x=a then 1 else 0).sum=if x∈l then 1 else 0
 | [],_=>rfl
 | a::r,h=>by
  obtain⟨h1,h2⟩:=jJ.mp h;rw[jB,Jl,LN h2];by_cases c:x=a
  .subst c;rw[Ge rfl,Gf h1,Ge jf]
  .rw[Gf c,uq];by_cases d:x∈r
   .rw[Ge d,Ge (jj _ d)]
   .rw[Gf d,Gf λz=>(jx.mp z).elim c d]
theorem Nm (f g:Nat->Nat):∀ l:List Nat,(l.map λa=>f a+g a).sum=(l.map f).sum+(l.map g).sum
 | []=>rfl
 | a::r=>by
  simp only[jB,Jl];rw[Nm f g r];omega
theorem KZ:∀ l:List Nat,(l.map λ_=>0).sum=0
 | []=>rfl
 | _::r=>by rw[jB,Jl,KZ r]
theorem Ml {rt:Nat->Nat}{l:List Nat}(nd:l.Nodup):∀ N,(∀ i,i<N->rt i∈l)->(l.map λa=>(io rt N a).length).sum=N
 | 0,_=>by
  have:(l.map λa=>(io rt 0 a).length)=l.map λ_=>0:=rfl;rw[this];exact KZ l
 | N+1,h=>by
  have e:∀ a,(io rt (N+1) a).length=(io rt N a).length+if rt N=a then 1 else 0:=λa=>by
   unfold io;rw[qO,kI,jC];by_cases c:rt N=a
   .rw[Ge c,kg (by rw[c];exact beq_self_eq_true _)];rfl
   .rw[Gf c,kh (by rw[beq_iff_eq];exact c)];rfl
  rw[show(l.map λa=>(io rt (N+1) a).length)=l.map λa=>(io rt N a).length+if rt N=a then 1 else 0 from ka λa _=>e a,Nm,Ml nd N λi hi=>h i (by omega),LN nd,Ge (h N (by omega))]
theorem Rm {l:List Nat}(nd:l.Nodup)(p:Nat->Bool)(h:∀ x∈l,∀ y∈l,p x=true->p y=true->x=y):(l.filter p).length<2:=by
 have nf:(l.filter p).Nodup:=nd.sublist ul;have hf:∀ x∈l.filter p,∀ y∈l.filter p,x=y:=λx hx y hy=>h x (jA.mp hx).1 y (jA.mp hy).1 (jA.mp hx).2 (jA.mp hy).2;generalize l.filter p=f at nf hf
 match f,nf,hf with
 | [],_,_=>exact Nat.zero_lt_succ _
 | [a],_,_=>exact vP _
 | a::b::r,nf,hf =>
  have:=hf a jf b (jj _ jf);exact absurd (by rw[this];exact jf) (jJ.mp nf).1
abbrev Ch (x y:D)(W:List RB)(R i:Nat):List D:=vL (iU x y (ii W i)) (ii W i).2 R
theorem WB {x y:D}{W:List RB}{n bd R:Nat}{Lf:Nat->Nat}{mf:Nat->Int}{Ff:Nat->Nat->D}(A:RW x y W n bd R Lf mf Ff){i j:Nat}(c:Cn (Ch x y W R) W.length i j):(Lf i<=R↔Lf j<=R)/\(Lf i<=R->mf i=mf j):=by
 induction c with
 | refl=>exact⟨Iff.rfl,λ_=>rfl⟩
 | step a hy hz m ih =>
  obtain⟨v,nv,v1,v2⟩:=m;obtain⟨k,hk,e1⟩:=jq.mp v1;obtain⟨k',hk',e2⟩:=jq.mp v2;obtain⟨u1,w1⟩:=FN (by rw[e1];exact nv);obtain⟨u2,w2⟩:=FN (by rw[e2];exact nv);have e:vw _ _ R k=vw _ _ R k':=w1.symm.trans (e1.trans (e2.symm.trans w2));have kk:=Zg e;subst kk;obtain⟨q1,q2⟩:=zsA (A.tr _ hy) (A.tr _ hz) (jm.mp hk) (jm.mp hk') u1 u2 e;exact⟨ih.1.trans q1,λz=>(ih.2 z).trans (q2 (ih.1.mp z))⟩
theorem VI (a b:Int){n bd R:Nat}(h:Cm n bd R):xW rK ((Wl n bd R).map (mh (.int a) (.int b))) (.int (R:Int)) (Ch (.int a) (.int b) (Wl n bd R) R) (Wl n bd R).length:=by
 obtain⟨n2,n5,hb,hR⟩:=zM h;have l200:=(AN h).2.2;have gw:∀ p,p<(Wl n bd R).length->(iU (.int a) (.int b) (ii (Wl n bd R) p)).length=n/\gu n (ii (Wl n bd R) p).2:=λp hp=>by
  obtain⟨g1,g2,_⟩:=Bj h (yu hp).1;exact⟨(yt _ _ _).trans g1,g2⟩
 refine⟨jd _,by omega,λp hp=>⟨_,BQ hp,?_⟩,λp _=>Vv _ _ (Aw a b _) R (by omega),λp hp=>?_⟩
 .exact Nh _ _ (by rw[(gw p hp).1];exact(gw p hp).2) R (by omega)
 .rw[Ih,(gw p hp).1];exact n5
theorem Yi (bs:List Bool):ia (.list (bs.map j3)) (.list (bs.map j3))=Ga (.bool false):=by
 obtain⟨l1,l2⟩:=my (xs:=bs.map j3) (n:=3) λx hx=>by
  obtain⟨g,_,rfl⟩:=jq.mp hx;exact⟨rfl,by simp[qD]⟩
 exact WF l1 (by show jF (bs.map j3)+1<=100;omega)
theorem zBS (b:Bool)(g:List Nat)(hl:g.length<=1000):rD [.bool b] (.int (g.length:Int))=Ga (g.map λ_=>j3 b):=by
 unfold rD;dsimp only;rw[Ge ⟨by omega,by omega,by rw[jR,uW];omega⟩,jR];refine congrArg Ga ?_;clear hl;induction g with
 | nil=>rfl
 | cons x r ih=>rw[jL,kQ,ug,ih];rfl
theorem zu7 {it:Nat}{P:Gj}{fm:List D->Option D}{g:FL}{ψ:En}{as:List D}{X:D}(h1:ψ[it]?=Ga (.tab P))(h2:g ψ=Ga as)(h3:fm as=Ga X):oJ it P fm g ψ=Ga X:=by
 unfold oJ;rw[Ge h1,h2];exact h3
theorem zsI (mk:(D->Option D)->gD)(Pt:Gj)(ns:List Int)(hn:ns.length<=63):zg1 mk Pt [.list (ns.map jc)]=Ga (.bool true):=by
 obtain⟨c,hc⟩:=Lh ns 0;obtain⟨a,b,ab,hN⟩:=Uc ns hn;obtain⟨i1,a1,i1c⟩:∃ i1:Int,L2.atI [jc 1,.int 1,.int 1,.int 0] (c%4)=Ga (.int i1)/\(i1=1\/i1=0):=by
  have:c%4=0\/c%4=1\/c%4=2\/c%4=3:=by omega
  rcases this with z|z|z|z<;>rw[z]
  .exact⟨1,rfl,.inl rfl⟩
  .exact⟨1,rfl,.inl rfl⟩
  .exact⟨1,rfl,.inl rfl⟩
  .exact⟨0,rfl,.inr rfl⟩
 obtain⟨n,en⟩:∃ n:Nat,2+i1=(n:Int):=⟨(2+i1).toNat,by omega⟩;obtain⟨bd,a2,bc⟩:∃ bd:Nat,L2.atI [jc ((n:Int)-2),.int ((n:Int)-2),.int 0] (c/4%3)=Ga (.int (bd:Int))/\(bd=n-2\/bd=0):=by
  have e:(n:Int)-2=((n-2:Nat):Int):=by omega
  rw[e];have:c/4%3=0\/c/4%3=1\/c/4%3=2:=by omega
  rcases this with z|z|z<;>rw[z]
  .exact⟨n-2,rfl,.inl rfl⟩
  .exact⟨n-2,rfl,.inl rfl⟩
  .exact⟨0,rfl,.inr rfl⟩
 obtain⟨R,a3,Rc⟩:∃ R:Nat,L2.atI [jc 0,.int 1,.int 1,.int 2] (c/12%4)=Ga (.int (R:Int))/\(R=0\/R=1\/R=2):=by
  have:c/12%4=0\/c/12%4=1\/c/12%4=2\/c/12%4=3:=by omega
  rcases this with z|z|z|z<;>rw[z]
  .exact⟨0,rfl,.inl rfl⟩
  .exact⟨1,rfl,.inr (.inl rfl)⟩
  .exact⟨1,rfl,.inr (.inl rfl)⟩
  .exact⟨2,rfl,.inr (.inr rfl)⟩
 have C:Cm n bd R:=⟨by omega,Rc⟩;obtain⟨n2,n5,hb,hR⟩:=zM C;have hW:=ZK ab C;obtain⟨Lf,mf,Ff,A⟩:=VP a b C;obtain⟨rt,r1,r2,r3,r4,hC⟩:=TQ (VI a b C);have l200:=(AN C).2.2;have l2:=(AN C).2.1;generalize hWl:Wl n bd R=W at *;have ndR:(oM rt W.length).Nodup:=by unfold oM;exact vS.sublist ul
 have mtR:∀ i j,i<W.length->j<W.length->Bg n R (ii W i) (ii W j)=true->rt i=rt j:=λi j hi hj m=>by
  have ni:=A.ln i hi;have nj:=A.ln j hj;rw[yt] at ni nj;obtain⟨h,hh,u1,u2,e⟩:=UA hR ni nj m (.int a) (.int b);obtain⟨d,ed⟩:=Dk (iU (.int a) (.int b) (ii W i)) (ii W i).2 R h;refine r3 i j hi hj ⟨vw (iU (.int a) (.int b) (ii W i)) (ii W i).2 R h,by rw[ed];exact λz=>(by cases z),?_,?_⟩
  .exact jq.mpr ⟨h,jm.mpr (by rw[A.ln i hi];exact hh),Ge u1⟩
  .rw[e];exact jq.mpr ⟨h,jm.mpr (by rw[A.ln j hj];exact hh),Ge u2⟩
 have op0:∀ i,i<W.length->R<Lf i->rt i=rt 0:=λi hi hl=>by
  have z:=zy5 C (λi=>rt i=rt 0) rfl (λc p hc hp q m=>by
   rw[hWl] at hc hp m;exact(mtR c p hc hp m).trans q) (i:=i) (by rw[hWl];exact hi) (by
   rw[hWl];have:=A.op i hi;unfold Gq;exact Gc (by omega))
  exact z
 have one:((oM rt W.length).filter λr=>decide (R<Lf r)).length<2:=Rm ndR _ λx hx y hy px py=>by
  have hx:=Ce.mp hx;have hy:=Ce.mp hy;rw[<- hx.2,<- hy.2,op0 x hx.1 (of_decide_eq_true px),op0 y hy.1 (of_decide_eq_true py)]
 have sum:=Ml (rt:=rt) ndR W.length λi hi=>Ce.mpr ⟨Jp (r1 i hi) hi,r2 i hi⟩;have grpl:∀ r,(io rt W.length r).length<=200:=λr=>by
  unfold io;have:=k0 (λi=>rt i==r) (jb W.length);rw[jK] at this;omega
 obtain⟨e,h1,y9,y10,y11,rfl⟩:=Gx (t:=gj 9) (g:=(fE (gn 8 (dE ge (gv 8) (lK fU (gv 9)))) (fE (Cp 10 (pU 10 (fQ (lv (gv 9)) (λ_=>Ga true) (dE nO (gv 2) (gc lZ (eX (dE eY (gv 3) (gv 0)) (eX (gv 1) fH)))) [3,4,5]))) (fE (gB (fS ia (gv 10) (gR (Cc (eX (dE eY (gv 10) (eW (.int 0))) fH) (lK fU (gv 10))))) (hV (eW (.bool false))) gG) (gB (iR (dE eY (gv 10) (eW (.int 0)))) (gn 7 (dE ge (gv 7) (eW (.int 1)))) (fE (gn 11 (oJ 12 Pt (xh mk Pt) (eX (gv 5) (eX (gv 9) (eX (gv 3) (eX (gv 4) fH)))))) (gB (nl (fS iP (gv 11) (eW .none)) (fS ia (lK fU (gv 11)) (eW (.int 1)))) (hV (eW (.bool false))) gG))))))) (ψ:=[.val (.list (ns.map jc)),.val (.int c),.val (.int (n:Int)),.val (.int (bd:Int)),.val (.int (R:Int)),.val (.list (W.map (mh (.int a) (.int b)))),.val (.list ((oM rt W.length).map λa=>.list (il (io rt W.length a)))),.val (.int 0),.val (.int 0),.no,.no,.no,.tab Pt]) (λr=>vB (il (io rt W.length r))) (λpre ψ=>∃ y9 y10 y11,ψ=[.val (.list (ns.map jc)),.val (.int c),.val (.int (n:Int)),.val (.int (bd:Int)),.val (.int (R:Int)),.val (.list (W.map (mh (.int a) (.int b)))),.val (.list ((oM rt W.length).map λa=>.list (il (io rt W.length a)))),.val (.int ((pre.filter λr=>decide (R<Lf r)).length:Int)),.val (.int ((pre.map λa=>(io rt W.length a).length).sum:Int)),y9,y10,y11,.tab Pt]) (oM rt W.length) ⟨_,_,_,rfl⟩ (λpre r suf ep ψ ⟨y9,y10,y11,he⟩=>by
  subst he;have hr:=Ce.mp (show r∈oM rt W.length by rw[ep];exact jH _ jf);have gm:∀ i∈io rt W.length r,i<W.length/\(Lf r<=R↔Lf i<=R)/\(Lf r<=R->mf r=mf i):=λi hi=>by
   have hi:=Pg.mp hi;exact⟨hi.1,WB A (r4 r i hr.1 hi.1 (by rw[hr.2,hi.2]))⟩
  have me:r∈io rt W.length r:=Pg.mpr hr;have gl:=grpl r;have S:=Qu (oJ 12 Pt (xh mk Pt) (eX (gv 5) (eX (gv 9) (eX (gv 3) (eX (gv 4) fH))))) (.list (ns.map jc)) (.int c) (.int (n:Int)) (.int (bd:Int)) (.int (R:Int)) (.list (W.map (mh (.int a) (.int b)))) (.list ((oM rt W.length).map λa=>.list (il (io rt W.length a)))) (.list (il (io rt W.length r))) (.list [.int (mf r)]) ((pre.filter λr=>decide (R<Lf r)).length:Int) ((pre.map λa=>(io rt W.length a).length).sum:Int) ((io rt W.length r).length:Int) (il (io rt W.length r)) ((io rt W.length r).map λ_=>j3 (decide (R<Lf r))) (decide (R<Lf r)) Pt y9 y10 y11 rfl (by rw[Cu]) (by rw[Cu];omega)
   (Pa (λ(i:Nat)=>jc (i:Int)) (λ_=>j3 (decide (R<Lf r))) λi hi=>(Pq _ _ _ _ _ _ (R:Int) rfl (BQ (gm i hi).1) (A.tr i (gm i hi).1).cl).trans (by
    have:=(gm i hi).2.1;by_cases z:R<Lf r
    .rw[Gc z,Gc (by omega)]
    .rw[Gd z,Gd (by omega)])) ?_ ?_ (zBS _ _ (by omega)) ?_ λz=>?_
  .have f1:(((pre++[r]).filter λr=>decide (R<Lf r)).length:Int)=if decide (R<Lf r)=true then((pre.filter λr=>decide (R<Lf r)).length:Int)+1 else((pre.filter λr=>decide (R<Lf r)).length:Int):=by
    rw[kI,jC];by_cases z:R<Lf r
    .rw[kg (p:=λr=>decide (R<Lf r)) (Gc z),Ge (Gc z),uk,Int.natCast_add];rfl
    .rw[kh (p:=λr=>decide (R<Lf r)) (λw=>z (of_decide_eq_true w)),Gf (λw=>z (of_decide_eq_true w)),uk];rfl
   have f2:(((pre++[r]).map λa=>(io rt W.length a).length).sum:Int)=((pre.map λa=>(io rt W.length a).length).sum:Int)+((io rt W.length r).length:Int):=by
    rw[kJ,List.sum_append,Int.natCast_add];rfl
   refine yz S λe ⟨y9,y10,y11,he⟩=>⟨y9,y10,y11,?_⟩;rw[he,f1,f2]
  .obtain⟨x,t,eg⟩:∃ x t,io rt W.length r=x::t:=by
    cases q:io rt W.length r with
    | nil=>rw[q] at me;cases me
    | cons x t=>exact⟨x,t,rfl⟩
   rw[eg];exact L2.atI_nat (j:=0) rfl
  .show Ga (jc ((((io rt W.length r).map λ_=>j3 (decide (R<Lf r))).length:Nat):Int))=_;rw[jd]
  .have:=Yi ((io rt W.length r).map λ_=>decide (R<Lf r));rw[jT] at this;exact this
  .have cl:Lf r<=R:=by have:=of_decide_eq_false z;omega
   refine⟨λy11=>?_,rfl,rfl⟩;exact zu7 (as:=[.list (W.map (mh (.int a) (.int b))),.list (il (io rt W.length r)),.int (bd:Int),.int (R:Int)]) rfl rfl <| YX mk Pt A hb (io rt W.length r) (mf r) (λz=>by rw[z] at me;cases me) λi hi=>⟨(gm i hi).1,(gm i hi).2.1.mp cl,((gm i hi).2.2 cl).symm⟩)
 rw[TZ];unfold LK;refine Ub _ _ _ _ _ _ c (n:Int) (bd:Int) (R:Int) (c%4) (c/4%3) (c/12%4) i1 _ _ (W.length:Int) Pt y9 y10 y11 hc (Bb (by decide)) a1 en (KI (by decide) (by decide)) (Bb (by decide)) a2 (KI (by decide) (by decide)) (Bb (by decide)) a3 hN hW hC rfl ?_ h1 (by rw[sum]) (by omega);show Ga (jc (((W.map (mh (.int a) (.int b))).length:Nat):Int))=_;rw[jd]
end Law
end
open PySem PySem.W PyProof.Rows
set_option maxRecDepth 100000 in
set_option maxHeartbeats 0 in
theorem PySem.Challenge.cw_roundfall_k63_whole_open_is_one_class_holds : PySem.Challenge.rw_roundfall_k63_whole_open_is_one_class.Holds := by
 w_on
 refine PySem.W.holds_law Law.ws0 λsaid=>?_;refine PySem.W.holds_open (q:=Law.qv0) (loose:=[]) (Xt:=Law.xt0) (XP:=PySem.W.XL Law.qv0 []) (Yf:=PySem.W.Hook.obs (ud Law.KK Law.KA Law.zk7 [331])) (Ya:=PySem.W.Hook.val (ud Law.KK Law.KA Law.zk7 [331])) (YP:=PySem.W.Hook.says (ud Law.KK Law.KA Law.zk7 [331])) (N:=9000) Law.lf0 (PySem.W.Hook.of (ud Law.KK Law.KA Law.zk7 [331])) (PySem.W.Hook.keeps (ud Law.KK Law.KA Law.zk7 [331])) (λs e=>PySem.W.xl_of s (Jc.mp e).1) PySem.W.XL.keeps (by rfl) (by rfl) (by rfl) (λs e=>PySem.W.recFacts_of (Jc.mp e).2) (by rfl) said (by nofun) ⟨rfl,rfl,rfl,rfl,rfl,by nofun⟩ ?hw ?hc
 case hw=>w_witness2
 k_fill
 refine T3.ztH (l:=PySem.Challenge.rw_roundfall_k63_whole_open_is_one_class) (n:=63) (k:=12) (x:="script") (Pt:=331) (K:=Law.KK) (sp:=λK vs H Q E=>∀ mk,T3.spT K 331 (Law.zg1 mk 331) vs H Q E) rfl (by decide) rfl ⟨rfl,by decide,by decide⟩ (λw h Y=>⟨PySem.W.km_in_of Y,PySem.W.km_tabs_of Y _ jf⟩) (λP=>Law.zBT P) (λw h X=>T3.zlM X (Law.zBd w.params)) ?F ?S
 case F =>
  intro w mg fa h KX G hmg;refine'(λz=>(Law.zAH KX G hmg z:_)) (Law.zAG KX G ?w_q24 ?w_q39 ?w_q28 ?w_q38 ?w_q30 ?w_q14 ?w_q34 ?w_q46 ?w_q22 ?w_q42 ?w_q43 ?w_q11 ?w_q4 ?w_q29 ?w_q32 ?w_q15 ?w_q31 ?w_q25 ?w_q16 ?w_q45 ?w_q9 ?w_q12 ?w_q36 ?w_q26 ?w_q44 ?w_q41 ?w_q35 ?w_q18 ?w_q5 ?w_q17 ?w_q37 ?w_q13 ?w_q0 ?w_q6 ?w_q33 ?w_q20 ?w_q3 ?w_q21 ?w_q23 ?w_q2 ?w_q8 ?w_q1 ?w_q19 ?w_q40 ?w_q10 ?w_q7 ?w_q27 ?w_q47 ?z_all ?z_bool ?z_enumerate ?z_int ?z_isinstance ?z_len ?z_list ?z_max ?z_min ?z_range ?z_reversed ?z_sorted ?z_tuple ?c_LAST_ROUND (c0:=333) (Pt:=331) (bm:=4) ?l_1 (Law.zBd w.params) ?l_3 ?l_4 (by decide) (by decide))
  all_goals first|k_is|exact rfl|(refine'⟨_,_,_,_,_,_,_,_,?x1,?x2,?x3,?x4,?x5⟩;(case x1=>k_is);(case x2=>exact rfl);(case x3=>exact rfl);(case x4=>k_is);(case x5=>k_is))|skip
 case S=>exact λK H a ns hl hT hS mk=>T3.zw9 hT hS (Law.zsI mk 331 ns hl)
