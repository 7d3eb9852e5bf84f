import PyProof.Rows.All
import Wide.All
import OpenK.AllK
import Wide.FinOn
import Lean
import PyProof.EqAt
import PyProof.EqKinds
import PyProof.TupleCall
import PyProof.NeData
import PyProof.P3In
import PyProof.ZipIter
import PyProof.EnumIter
import PyProof.EnumFor
import PyProof.EnumMake
import PyProof.TupleIter
import KE.KRevIter
import PyProof.ListRange
import PyProof.ConsumeWalk
import PyProof.WalkInts
import PyProof.SeqI3
import PyProof.P3Eq
import PyProof.TupleKey
import PyProof.DictRoadsH
import PyProof.FactsAll.NoneType_1
import PyProof.Rows.RowHeap
import PyProof.DictIter
import PyProof.DictWalks
import PyProof.Rows.TupDisplay
import PyProof.DictKinds
import PyProof.TupleOfSeq
import PyProof.Rows.RuleN_abs
import KE.KLam
import KE.KNestM
import PyProof.ListMulRoad
import PyProof.FactsAll.tuple_2
import PyProof.WalksMore
import PySem.Challenge.RW_roundfall_k52_whole_hasty_rules_break
set_option Elab.async false
set_option linter.all false
set_option maxRecDepth 100000
local macro_rules|`(tactic|nofun)=>`(tactic|decide +kernel)
open Option renaming some->Ga,none->Gb
theorem Gc{p:Prop}[Decidable p](h:p):decide p=true:=decide_eq_true h
theorem Gd{p:Prop}[Decidable p](h:¬p):decide p=false:=decide_eq_false h
theorem Ge{c:Prop}{h:Decidable c}(k:c){α}{t e:α}:ite c t e=t:=if_pos k
theorem Gf{c:Prop}{h:Decidable c}(k:¬c){α}{t e:α}:ite c t e=e:=if_neg k
open PySem renaming wpAny_bind->gI,wpAny_pure->gJ
open PySem renaming Value->Gg,Shared->Gh,FuncData->Gi,Addr->Gj
open PySem.W renaming Frag->jb,mg_none_of->j6,nsIn->kb,emptyDict->kR,fnOf->kT,kla_obj->kZ,keepIn->ub,kmHook->ue,kas_sort->uu,instObj->uA,envX->vh,codeIn->vG,mg_of->vU,kas_ask->vZ,codeHd_of_K->v5,kla_fn->qf,methodObj->qk,codeHdIn->qB,cellsFrom_some->qE,KasT->qG,OpenLaw->qP,lookIn->Ja,tabObj->Je,WalkO->Jl,callWith_K->Jo,kitx_dict->JC,plainGet->JM
open PySem.PyData renaming int->jc,bool->jP,tuple->j3,depthAll->kq,canLayAll0->kE,eqv->kL,none->uc,list->uO,eqvAll->qp,str->qN,canLay0->Jd,keyHash->J1
open List renaming length_map->jd,range->je,getD_eq_getElem?_getD->jg,mem_cons_self->jh,getElem?_eq_getElem->ji,mem_singleton->jj,mem_range->jk,size_toArray->jl,getElem?_eq_some_iff->jn,mem_cons_of_mem->jo,length_append->ju,mem_cons->jw,mem_map->jz,getElem?_map->jC,length_range->jD,mem_append_right->jG,mem_append->jI,map_cons->jK,all_eq_true->jL,contains_iff_mem->jM,map_map->jN,mem_filter->jO,map_congr_left->jR,getElem?_set_ne->jS,replicate->jU,getElem?_set_self->jW,length_cons->jX,filterMap_cons_none->jZ,map_append->j0,mem_of_getElem?->j7,length_singleton->j9,getElem?_eq_none->kf,range_succ->kh,filterMap_cons_some->kj,append_nil->km,nodup_cons->ko,length_filter_le->ku,lookup_cons->kw,find?_cons_of_neg->kx,filter_cons_of_pos->ky,find?_cons_of_pos->kz,filter_append->kA,length_reverse->kD,filter_cons_of_neg->kG,mem_of_mem_tail->kI,getElem?_range->kN,getElem?_append_right->kS,append_assoc->kU,replicate_succ->kY,getElem?_append_left->k5,getElem_mem->k9,length_tail->ua,nodup_append->ug,filter_sublist->uj,any_eq_true->uv,nodup_nil->uw,getElem?_eq_none_iff->uy,foldl_cons->uB,mem_append_left->uC,reverse_cons->uD,flatten_cons->uE,range_eq_range'->uF,getLast?_append->uG,getElem?_replicate->uM,not_mem_nil->uN,mem_filterMap->uR,find?_eq_none->uV,filter_eq_nil_iff->uW,find?_cons->uY,filter_map->uZ,filterMap_append->u6,filter_congr->u7,getLast?_map->u8,mem_of_getLast?->vb,foldl_nil->ve,length_take->vg,mem_reverse->vj,getElem_of_mem->vm,any_cons->vp,length_nil->vt,getElem?_cons_succ->vA,length_eq_zero_iff->vC,toArray->vJ,length_pos_of_mem->vK,foldl_append->vM,getLast?_reverse->vO,length_drop->vP,cons_append->vQ,nodup_range->vR,filterMap_cons->v0,mem_map_of_mem->v6,contains_cons->qh,drop_eq_getElem_cons->qi,range'->ql,length_erase_of_mem->qu,range'_succ->qC,getLast?_cons_cons->qD,drop_eq_nil_of_le->qF,take_of_length_le->qL,pairwise_lt_range->qM,of_mem_zip->qO,length_replicate->qT,getElem?_reverse->qW,getElem?_toArray->qX,singleton_append->qZ,tail_cons->Jf,pairwise_append->Ji,Pairwise->Jm,foldl->Jp,head?_reverse->Ju,pairwise_cons->Jv,map_nil->Jz,any_map->JE,map->JH,ext_getElem?->JJ,all_map->JK,getElem_inj->JL,filter_cons->JO,map_reverse->JS,length->JT,forIn_cons->JV,nil_append->JW,filter_nil->JX
open PySem.Heap renaming get?_push_of_some->jf,lt_size->jp,get?_push_size->jy,get?_update_other->kW,get?_update_self->ux,size_push->u9,SameBut->vD
open Nat renaming le_refl->jm,lt_of_lt_of_le->jB,le_trans->jF,ne_of_lt->jH,zero_le->jT,lt_irrefl->jY,lt_succ_self->k7,le_of_lt->uk,pow_le_pow_right->vd,ne_of_gt->vf,lt_succ_of_lt->vI,add_assoc->vT,zero_add->v7,sub_self->v9,not_lt_zero->qR,min_eq_left->qS,add_mul->Jg,mul_le_mul_right->Jh,mul_le_mul->Jj,eq_zero_or_pos->Jt,le_of_eq->Jy,succ->JB,min_self->JD,le_succ_of_le->JF,sub_zero->JI,succ_ne_zero->JQ,le_succ->JU
open Bool renaming false_ne_true->jr,and_eq_true->jA,eq_iff_iff->jV,not_eq_true->ka,or_eq_true->kB,not_eq_true'->kF,false_eq_true->kH,true_or->kX,and_false->ud,false_or->uq,or_false->uI,true_and->vV,false_and->qc,eq_false_iff->qm,not_true->qq,and_eq_true_iff->Jk
open Option renaming bind_some->jv,map_some->vx,bind_eq_some_iff->vB,isSome_iff_exists->qo,map_eq_some_iff->qJ,none->Jc,isSome_map->JA,getD_none->JN
open PySem renaming Spec->jx,mem_of_lookup->kC,call->Jq,Fin->JP,seqSlot_of->JR,getD_mem->JY,mem_getD->JZ
open PySem.Str renaming ofString->jE
open Option.some renaming inj->jJ
open PySem.Builtin.Range renaming rangeSize->jQ,small->v4
open PySem.Builtin.List renaming listExtendWith->j4,listLengthHint->kQ,listSameRef->uJ,listItems->uU,listTooLong->vo,listUpdate->qz
open Int renaming toNat_natCast->j5,le_refl->ur,zero_add->v8,natCast_zero->qy,le_trans->qH,natCast_mul->qQ,emod_lt_of_pos->Jw
open PySem.NameKind renaming free->j8,cell->vq
open PySem.Obj renaming mapSeq->kg,data_mapFields->Js
open Array renaming length_toList->ki,toArray_toList->va,getElem?_toList->vN,mem_toList_iff->vX,append_assoc->Jn,forIn_toList->Jr,size_append->JG
open PySem.Value renaming none->kr,ref->kP,bool->uP,type->uQ,isInt->vW,int->qw,isInt_shape->Jx
open Or renaming inr->kJ,inl->k8
open PySem.Builtin.Tuple renaming tupleHashOf->kK,tupleExact->uH,tupleItemsOf->qe,tupleTooMany->qg
open PySem.Builtin.Int renaming intBits->kM
open Classical renaming byContradiction->k6,propDecidable->uf
open PySem.Heap.SameBut renaming update->ui
open Ne renaming symm->uo
open PySem.Builtin.Slice renaming slicePlaces->uz,sliceAdjust->vk,sliceApplied->qd
open PySem.Builtin renaming bitAnd->uK,bitXor->vE,bitOr->vS
open PySem.Calls renaming spliced_cons->uS,callWith_builtin->uT,evalArgs_plain->uX,spliced_nil->vF,Name_function_global->qa,call_function_entry->qj
open PySem.F renaming slot_dict_get->u5,args_tuple_add_2->vn,entry_tuple_add->vz,slot_tuple_add->vH,slot_list_extend->qr,plainAttrs_list->qx,plainAttrs_dict->qA,entry_dict_get->qK,type_dict_get->qY
open List.Nodup renaming sublist->vy
open PySem.Builtin.Dict_items renaming ownsTuple->vY
open Nat.succ renaming inj->qI
open PySem.Builtin.Dict renaming showsAll->qU
open PySem.W.Looks renaming of_pure->qV
open PySem.Around renaming frames_deeper->Jb
open PySem.PyData.int renaming inj->J0
open List.cons renaming inj->J2
namespace L2
end L2
namespace T3
end T3
namespace L2
open PySem PySem.Spec PyProof.Rows
def nM (s:Stmt):Arguments:=match s with
 | .FunctionDef _ a _ _ _ _ _ _ _ _=>a
 | _=>{ posonlyargs:=[],args:=[],vararg:=Gb,kwonlyargs:=[],kw_defaults:=[],kwarg:=Gb,defaults:=[] }
end L2
namespace L2
open PySem PySem.Spec PyProof.Rows
def lO (s:Stmt):List Stmt:=match s with
 | .FunctionDef _ _ b _ _ _ _ _ _ _=>b
 | _=>[]
end L2
namespace L2
open PySem PySem.Spec PyProof.Rows
def gO (s:Stmt):Scope:=match s with
 | .FunctionDef _ _ _ _ _ _ sc _ _ _=>sc
 | _=>{ kind:=.function,names:=[],isGenerator:=false,isCoroutine:=false }
end L2
namespace Law
noncomputable section
open PySem PySem.Spec PyProof.Rows L2 T3
def iL (i:Nat):Stmt:=PySem.Challenge.pw_roundfall_k52_whole_hasty_rules_break.main.body.getD i (.Pass ⟨0,0,0,0⟩)
noncomputable section
open PySem PySem.W PySem.Spec PyProof.Rows L2
def iu (i:Nat)(x:Str)(d:Gg)(m:Str)(t:Nat)(c:Gj):Obj:=⟨.type "function",Gb,.func (fnOf x x (nM (iL i)) (lO (iL i)) (gO (iL i)) .none .none d (.str m t) Gb (.ref c) .none),#[]⟩
def rV:Nat->Gg
 | 0=>.none
 | n+1=>.ref (n+1)
def ir (x:Str)(t1 t2 t3:Nat)(i1 i2 i3 i4 i5:Int)(r1:Gj)(i6:Int)(r2 r3 r4 r5:Gj)(i7 i8:Int)(t4:Nat):Obj:=⟨.type "code",Gb,.fields #[.str x t1,.str x t2,.str "/claim/cut.py" t3,.int i1 0,.int i2 0,.int i3 0,.int i4 0,.int i5 0,rV r1,.bool true,.int i6 0,rV r2,.none,rV r3,rV r4,rV r5,.int i7 0,.int i8 0,.str "/claim/cut.py" t4],#[]⟩
def eV (P:Params)(x:Str)(t:Nat)(v:Gg):DictEntry:=⟨J1 P x,.str x t,v⟩
def eR (P:Params)(x:Str)(t:Nat)(a:Gj):DictEntry:=⟨J1 P x,.str x t,.ref a⟩
def bO:Obj:=⟨.type "module",Ga 0,.plain,#[]⟩
def YS (P:Params):List DictEntry:=[eV P "__name__" 165 (.str ("law_roundfall_k52_whole_hasty_rules_break") 835),eV P "__doc__" 166 (.none),eV P "__package__" 167 (.none),eV P "__loader__" 168 (.builtin "__main__.__loader__#opaque"),eV P "__spec__" 169 (.none),eR P "__annotations__" 170 6,eR P "__builtins__" 171 4,eV P "__file__" 173 (.str ("/claim/cut.py") 172),eV P "__cached__" 174 (.none),eR P "RoundError" 206 24,eR P "NoBound" 222 37,eR P "NoNumbers" 238 49]
def Zl (P:Params):List DictEntry:=[eR P "Closed" 254 61,eR P "is_whole" 263 70,eR P "bit_of" 272 77,eR P "has_hand" 280 84,eR P "mask_of" 289 91,eR P "hands_in" 295 96,eV P "LEAST_HANDS" 299 (.int 2 298),eV P "MOST_HANDS" 301 (.int 5 300),eV P "LAST_ROUND" 303 (.int 5 302),eR P "is_number" 310 103,eR P "are_numbers" 316 108,eR P "many_hands" 323 115]
def eL2 (P:Params):List DictEntry:=[eR P "fall_of" 332 122,eR P "without_fall" 338 127,eR P "with_fall" 349 134,eR P "with_number" 359 141,eR P "is_up" 369 148,eR P "who_is_up" 375 153,eR P "comes" 386 160,eR P "keeps" 394 167,eR P "with_reach_turned" 406 174,eR P "changed_while_hushed" 417 181,eR P "hushed" 423 186,eR P "all_heard" 431 191]
def eL3 (P:Params):List DictEntry:=[eR P "is_found_out" 440 198,eR P "found_out" 446 203,eR P "waste_of" 452 208,eR P "closing_round" 460 215,eR P "is_open" 469 222,eR P "without_late_falls" 477 227,eR P "heard_falls" 483 232,eR P "fallen_next" 493 239,eR P "with_heard_next" 504 246,eR P "risen" 514 253,eR P "heard_healed" 520 258,eR P "made_heard" 534 265]
def Wq (P:Params):List DictEntry:=[eR P "round_healed" 540 270,eR P "healed" 552 277,eR P "renumbered" 567 284,eR P "are_numbers_for" 575 291,eR P "chain_of" 587 298,eR P "view_behind" 595 303,eR P "views_behind" 601 308,eR P "views_of" 607 313,eR P "own_part" 614 320,eR P "rounds_of" 622 327,eR P "own_past" 631 334,eR P "parts_of" 641 341]
def XA (P:Params):List DictEntry:=[eR P "layers_of" 650 348,eR P "known" 657 355,eR P "least_known" 663 360,eR P "heard_of" 669 365,eR P "missing_in" 675 370,eR P "is_clean" 683 377,eR P "lacking" 694 384,eR P "choice_by" 706 391,eR P "number_by" 717 398,eR P "told_by" 723 403,eR P "all_told" 729 408,eR P "torn_in" 735 413]
def eL6 (P:Params):List DictEntry:=[eR P "strangers" 741 418,eR P "torn_on" 754 425,eR P "broken_from" 760 430,eR P "broken" 772 437,eR P "waste_seen" 780 442,eR P "is_behind_bound" 788 449,eR P "was_clean" 794 454,eR P "least_where" 802 461,eR P "plain" 810 468,eR P "soon" 818 475,eR P "sure" 826 482,eR P "together" 834 489]
def eL7 (P:Params):List DictEntry:=[eR P "_law_cell_at" 844 496,eR P "_law_whole" 851 503,eR P "_law_mixed" 860 510,eR P "_law_numbers" 866 515,eR P "_law_falls" 872 520,eR P "_law_view" 886 527,eR P "_law_views" 892 532,eR P "_law_good" 907 539,eR P "_law_told" 921 546,eR P "_law_breaks" 936 553,eR P "_law_told_rule" 945 560,eR P "law" 961 567]
def mO (P:Params):Obj:=⟨.type "dict",Gb,.dict (vJ (YS P++Zl P++eL2 P++eL3 P++Wq P++XA P++eL6 P++eL7 P)) 96,#[]⟩
def WR:List Obj:=[bO,ir "is_whole" 257 258 259 11 1 0 0 3 64 181 65 66 67 68 261 11 262,iu 6 "is_whole" (.none) "roundfall.masks" 255 69,ir "bit_of" 264 265 266 13 1 0 0 3 71 181 72 73 74 75 270 13 271,iu 7 "bit_of" (.none) "roundfall.masks" 255 76,ir "has_hand" 273 274 275 18 2 0 0 3 78 181 79 80 81 82 278 18 279,iu 8 "has_hand" (.none) "roundfall.masks" 255 83,ir "mask_of" 281 282 283 20 1 0 0 3 85 181 86 87 88 89 287 20 288,iu 9 "mask_of" (.none) "roundfall.masks" 255 90,ir "hands_in" 290 291 292 25 1 0 0 3 92 181 93 0 0 94 293 25 294,iu 10 "hands_in" (.none) "roundfall.masks" 255 95,ir "is_number" 304 305 306 31 1 0 0 3 97 181 98 99 100 101 308 31 309]
def XR:List Obj:=[iu 15 "is_number" (.none) "roundfall.runs" 296 102,ir "are_numbers" 311 312 313 33 1 0 0 3 104 181 105 0 0 106 314 33 315,iu 16 "are_numbers" (.none) "roundfall.runs" 296 107,ir "many_hands" 317 318 319 37 1 0 0 3 109 181 110 111 112 113 321 37 322,iu 17 "many_hands" (.none) "roundfall.runs" 296 114,ir "fall_of" 324 325 326 39 2 0 0 3 116 181 117 118 119 120 330 39 331,iu 18 "fall_of" (.none) "roundfall.runs" 296 121,ir "without_fall" 333 334 335 44 2 0 0 3 123 181 124 0 0 125 336 44 337,iu 19 "without_fall" (.none) "roundfall.runs" 296 126,ir "with_fall" 339 340 341 46 4 0 0 3 128 181 129 130 131 132 347 46 348,iu 20 "with_fall" (.none) "roundfall.runs" 296 133,ir "with_number" 350 351 352 49 3 0 0 3 135 181 136 137 138 139 357 49 358]
def oL2:List Obj:=[iu 21 "with_number" (.none) "roundfall.runs" 296 140,ir "is_up" 360 361 362 52 3 0 0 3 142 181 143 144 145 146 367 52 368,iu 22 "is_up" (.none) "roundfall.runs" 296 147,ir "who_is_up" 370 371 372 55 2 0 0 3 149 181 150 0 0 151 373 55 374,iu 23 "who_is_up" (.none) "roundfall.runs" 296 152,ir "comes" 376 377 378 57 4 0 0 3 154 181 155 156 157 158 384 57 385,iu 24 "comes" (.none) "roundfall.runs" 296 159,ir "keeps" 387 388 389 64 2 0 0 3 161 181 162 163 164 165 392 64 393,iu 25 "keeps" (.none) "roundfall.runs" 296 166,ir "with_reach_turned" 397 398 399 69 3 0 0 3 168 181 169 170 171 172 404 69 405,iu 27 "with_reach_turned" (.none) "roundfall.hushing" 395 173,ir "changed_while_hushed" 407 408 409 72 5 0 0 3 175 181 176 177 178 179 415 72 416]
def Wr:List Obj:=[iu 28 "changed_while_hushed" (.none) "roundfall.hushing" 395 180,ir "hushed" 418 419 420 74 4 0 0 3 182 181 183 0 0 184 421 74 422,iu 29 "hushed" (.none) "roundfall.hushing" 395 185,ir "all_heard" 426 427 428 86 2 0 0 3 187 181 188 0 0 189 429 86 430,iu 31 "all_heard" (.none) "roundfall.waste" 424 190,ir "is_found_out" 432 433 434 88 3 0 0 3 192 181 193 194 195 196 438 88 439,iu 32 "is_found_out" (.none) "roundfall.waste" 424 197,ir "found_out" 441 442 443 90 2 0 0 3 199 181 200 0 0 201 444 90 445,iu 33 "found_out" (.none) "roundfall.waste" 424 202,ir "waste_of" 447 448 449 95 1 0 0 3 204 181 205 0 0 206 450 95 451,iu 34 "waste_of" (.none) "roundfall.waste" 424 207,ir "closing_round" 453 454 455 97 2 0 0 3 209 181 210 211 212 213 458 97 459]
def oL4:List Obj:=[iu 35 "closing_round" (.none) "roundfall.waste" 424 214,ir "is_open" 461 462 463 101 3 0 0 3 216 181 217 218 219 220 467 101 468,iu 36 "is_open" (.none) "roundfall.waste" 424 221,ir "without_late_falls" 472 473 474 104 2 0 0 3 223 181 224 0 0 225 475 104 476,iu 38 "without_late_falls" (.none) "roundfall.healing" 470 226,ir "heard_falls" 478 479 480 106 2 0 0 3 228 181 229 0 0 230 481 106 482,iu 39 "heard_falls" (.none) "roundfall.healing" 470 231,ir "fallen_next" 484 485 486 109 4 0 0 3 233 181 234 235 236 237 491 109 492,iu 40 "fallen_next" (.none) "roundfall.healing" 470 238,ir "with_heard_next" 494 495 496 111 3 0 0 3 240 181 241 242 243 244 502 111 503,iu 41 "with_heard_next" (.none) "roundfall.healing" 470 245,ir "risen" 505 506 507 116 4 0 0 3 247 181 248 249 250 251 512 116 513]
def oL5:List Obj:=[iu 42 "risen" (.none) "roundfall.healing" 470 252,ir "heard_healed" 515 516 517 118 3 0 0 3 254 181 255 0 0 256 518 118 519,iu 43 "heard_healed" (.none) "roundfall.healing" 470 257,ir "made_heard" 521 522 523 126 4 0 0 3 259 181 260 261 262 263 532 126 533,iu 44 "made_heard" (.none) "roundfall.healing" 470 264,ir "round_healed" 535 536 537 134 3 0 0 3 266 181 267 0 0 268 538 134 539,iu 45 "round_healed" (.none) "roundfall.healing" 470 269,ir "healed" 541 542 543 141 3 0 0 3 271 181 272 273 274 275 550 141 551,iu 46 "healed" (.none) "roundfall.healing" 470 276,ir "renumbered" 555 556 557 150 3 0 0 3 278 181 279 280 281 282 565 150 566,iu 48 "renumbered" (.none) "roundfall.chains" 553 283,ir "are_numbers_for" 568 569 570 158 2 0 0 3 285 181 286 287 288 289 573 158 574]
def oL6:List Obj:=[iu 49 "are_numbers_for" (.none) "roundfall.chains" 553 290,ir "chain_of" 576 577 578 160 4 0 0 3 292 181 293 294 295 296 585 160 586,iu 50 "chain_of" (.none) "roundfall.chains" 553 297,ir "view_behind" 590 591 592 169 4 0 0 3 299 181 300 0 0 301 593 169 594,iu 52 "view_behind" (.none) "roundfall.views" 588 302,ir "views_behind" 596 597 598 172 3 0 0 3 304 181 305 0 0 306 599 172 600,iu 53 "views_behind" (.none) "roundfall.views" 588 307,ir "views_of" 602 603 604 175 2 0 0 3 309 181 310 0 0 311 605 175 606,iu 54 "views_of" (.none) "roundfall.views" 588 312,ir "own_part" 608 609 610 180 1 0 0 3 314 181 315 316 317 318 612 180 613,iu 55 "own_part" (.none) "roundfall.views" 588 319,ir "rounds_of" 615 616 617 182 1 0 0 3 321 181 322 323 324 325 620 182 621]
def oL7:List Obj:=[iu 56 "rounds_of" (.none) "roundfall.views" 588 326,ir "own_past" 623 624 625 188 2 0 0 3 328 181 329 330 331 332 629 188 630,iu 57 "own_past" (.none) "roundfall.views" 588 333,ir "parts_of" 632 633 634 192 1 0 0 3 335 181 336 337 338 339 639 192 640,iu 58 "parts_of" (.none) "roundfall.views" 588 340,ir "layers_of" 642 643 644 199 1 0 0 3 342 181 343 344 345 346 648 199 649,iu 59 "layers_of" (.none) "roundfall.views" 588 347,ir "known" 651 652 653 204 1 0 0 3 349 181 350 351 352 353 655 204 656,iu 60 "known" (.none) "roundfall.views" 588 354,ir "least_known" 658 659 660 206 1 0 0 3 356 181 357 0 0 358 661 206 662,iu 61 "least_known" (.none) "roundfall.views" 588 359,ir "heard_of" 664 665 666 208 1 0 0 3 361 181 362 0 0 363 667 208 668]
def oL8:List Obj:=[iu 62 "heard_of" (.none) "roundfall.views" 588 364,ir "missing_in" 670 671 672 211 1 0 0 3 366 181 367 0 0 368 673 211 674,iu 63 "missing_in" (.none) "roundfall.views" 588 369,ir "is_clean" 676 677 678 214 1 0 0 3 371 181 372 373 374 375 681 214 682,iu 64 "is_clean" (.none) "roundfall.views" 588 376,ir "lacking" 684 685 686 221 2 0 0 3 378 181 379 380 381 382 692 221 693,iu 65 "lacking" (.none) "roundfall.views" 588 383,ir "choice_by" 697 698 699 228 2 0 0 3 385 181 386 387 388 389 704 228 705,iu 67 "choice_by" (.none) "roundfall.plays" 695 390,ir "number_by" 709 710 711 235 2 0 0 3 392 181 393 394 395 396 715 235 716,iu 69 "number_by" (.none) "roundfall.breaking" 707 397,ir "told_by" 718 719 720 238 3 0 0 3 399 181 400 0 0 401 721 238 722]
def oL9:List Obj:=[iu 70 "told_by" (.none) "roundfall.breaking" 707 402,ir "all_told" 724 725 726 241 2 0 0 3 404 181 405 0 0 406 727 241 728,iu 71 "all_told" (.none) "roundfall.breaking" 707 407,ir "torn_in" 730 731 732 243 2 0 0 3 409 181 410 0 0 411 733 243 734,iu 72 "torn_in" (.none) "roundfall.breaking" 707 412,ir "strangers" 736 737 738 246 2 0 0 3 414 181 415 0 0 416 739 246 740,iu 73 "strangers" (.none) "roundfall.breaking" 707 417,ir "torn_on" 742 743 744 248 4 0 0 3 419 181 420 421 422 423 752 248 753,iu 74 "torn_on" (.none) "roundfall.breaking" 707 424,ir "broken_from" 755 756 757 258 5 0 0 3 426 181 427 0 0 428 758 258 759,iu 75 "broken_from" (.none) "roundfall.breaking" 707 429,ir "broken" 761 762 763 265 4 0 0 3 431 181 432 433 434 435 770 265 771]
def Ut:List Obj:=[iu 76 "broken" (.none) "roundfall.breaking" 707 436,ir "waste_seen" 775 776 777 276 1 0 0 3 438 181 439 0 0 440 778 276 779,iu 78 "waste_seen" (.none) "roundfall.rules" 773 441,ir "is_behind_bound" 781 782 783 278 2 0 0 3 443 181 444 445 446 447 786 278 787,iu 79 "is_behind_bound" (.none) "roundfall.rules" 773 448,ir "was_clean" 789 790 791 280 1 0 0 3 450 181 451 0 0 452 792 280 793,iu 80 "was_clean" (.none) "roundfall.rules" 773 453,ir "least_where" 795 796 797 282 2 0 0 3 455 181 456 457 458 459 800 282 801,iu 81 "least_where" (.none) "roundfall.rules" 773 460,ir "plain" 803 804 805 284 2 0 0 3 462 181 463 464 465 466 808 284 809,iu 82 "plain" (.none) "roundfall.rules" 773 467,ir "soon" 811 812 813 286 2 0 0 3 469 181 470 471 472 473 816 286 817]
def Vv:List Obj:=[iu 83 "soon" (.none) "roundfall.rules" 773 474,ir "sure" 819 820 821 288 2 0 0 3 476 181 477 478 479 480 824 288 825,iu 84 "sure" (.none) "roundfall.rules" 773 481,ir "together" 827 828 829 290 2 0 0 3 483 181 484 485 486 487 832 290 833,iu 85 "together" (.none) "roundfall.rules" 773 488,ir "_law_cell_at" 837 838 839 293 2 0 0 3 490 181 491 492 493 494 842 293 843,iu 87 "_law_cell_at" (.none) "law_roundfall_k52_whole_hasty_rules_break" 835 495,ir "_law_whole" 845 846 847 297 1 0 0 3 497 181 498 499 500 501 849 297 850,iu 88 "_law_whole" (.none) "law_roundfall_k52_whole_hasty_rules_break" 835 502,ir "_law_mixed" 852 853 854 299 2 0 0 3 504 181 505 506 507 508 858 299 859,iu 89 "_law_mixed" (.none) "law_roundfall_k52_whole_hasty_rules_break" 835 509,ir "_law_view" 873 874 875 322 4 0 0 3 521 181 522 523 524 525 884 322 885]
def Vu:List Obj:=[iu 92 "_law_view" (.none) "law_roundfall_k52_whole_hasty_rules_break" 835 526,ir "_law_views" 887 888 889 333 2 0 0 3 528 181 529 0 0 530 890 333 891,iu 93 "_law_views" (.none) "law_roundfall_k52_whole_hasty_rules_break" 835 531,ir "_law_good" 893 894 895 341 3 0 0 3 533 181 534 535 536 537 905 341 906,iu 94 "_law_good" (.none) "law_roundfall_k52_whole_hasty_rules_break" 835 538,ir "_law_told" 908 909 910 362 3 0 0 3 540 181 541 542 543 544 919 362 920,iu 95 "_law_told" (.none) "law_roundfall_k52_whole_hasty_rules_break" 835 545,ir "_law_breaks" 922 923 924 373 5 0 0 3 547 181 548 549 550 551 934 373 935,iu 96 "_law_breaks" (.none) "law_roundfall_k52_whole_hasty_rules_break" 835 552,ir "_law_told_rule" 937 938 939 388 3 0 0 3 554 181 555 556 557 558 943 388 944,iu 97 "_law_told_rule" (.none) "law_roundfall_k52_whole_hasty_rules_break" 835 559,ir "law" 946 947 948 396 1 0 0 3 561 181 562 563 564 565 959 396 960]
def UN:List Obj:=[iu 98 "law" (.none) "law_roundfall_k52_whole_hasty_rules_break" 835 566]
def oA:List (List Obj):=[WR,XR,oL2,Wr,oL4,oL5,oL6,oL7,oL8,oL9,Ut,Vv,Vu,UN]
def kO (i j:Nat):Obj:=(oA.getD i []).getD j ⟨.none,Gb,.plain,#[]⟩
def KK:Params->Frag:=λP=>(nat_lit 3,mO P)::(nat_lit 4,kO 0 0)::(nat_lit 69,kO 0 1)::(nat_lit 70,kO 0 2)::(nat_lit 76,kO 0 3)::(nat_lit 77,kO 0 4)::(nat_lit 83,kO 0 5)::(nat_lit 84,kO 0 6)::(nat_lit 90,kO 0 7)::(nat_lit 91,kO 0 8)::(nat_lit 95,kO 0 9)::(nat_lit 96,kO 0 10)::(nat_lit 102,kO 0 11)::(nat_lit 103,kO 1 0)::(nat_lit 107,kO 1 1)::(nat_lit 108,kO 1 2)::(nat_lit 114,kO 1 3)::(nat_lit 115,kO 1 4)::(nat_lit 121,kO 1 5)::(nat_lit 122,kO 1 6)::(nat_lit 126,kO 1 7)::(nat_lit 127,kO 1 8)::(nat_lit 133,kO 1 9)::(nat_lit 134,kO 1 10)::(nat_lit 140,kO 1 11)::(nat_lit 141,kO 2 0)::(nat_lit 147,kO 2 1)::(nat_lit 148,kO 2 2)::(nat_lit 152,kO 2 3)::(nat_lit 153,kO 2 4)::(nat_lit 159,kO 2 5)::(nat_lit 160,kO 2 6)::(nat_lit 166,kO 2 7)::(nat_lit 167,kO 2 8)::(nat_lit 173,kO 2 9)::(nat_lit 174,kO 2 10)::(nat_lit 180,kO 2 11)::(nat_lit 181,kO 3 0)::(nat_lit 185,kO 3 1)::(nat_lit 186,kO 3 2)::(nat_lit 190,kO 3 3)::(nat_lit 191,kO 3 4)::(nat_lit 197,kO 3 5)::(nat_lit 198,kO 3 6)::(nat_lit 202,kO 3 7)::(nat_lit 203,kO 3 8)::(nat_lit 207,kO 3 9)::(nat_lit 208,kO 3 10)::(nat_lit 214,kO 3 11)::(nat_lit 215,kO 4 0)::(nat_lit 221,kO 4 1)::(nat_lit 222,kO 4 2)::(nat_lit 226,kO 4 3)::(nat_lit 227,kO 4 4)::(nat_lit 231,kO 4 5)::(nat_lit 232,kO 4 6)::(nat_lit 238,kO 4 7)::(nat_lit 239,kO 4 8)::(nat_lit 245,kO 4 9)::(nat_lit 246,kO 4 10)::(nat_lit 252,kO 4 11)::(nat_lit 253,kO 5 0)::(nat_lit 257,kO 5 1)::(nat_lit 258,kO 5 2)::(nat_lit 264,kO 5 3)::(nat_lit 265,kO 5 4)::(nat_lit 269,kO 5 5)::(nat_lit 270,kO 5 6)::(nat_lit 276,kO 5 7)::(nat_lit 277,kO 5 8)::(nat_lit 283,kO 5 9)::(nat_lit 284,kO 5 10)::(nat_lit 290,kO 5 11)::(nat_lit 291,kO 6 0)::(nat_lit 297,kO 6 1)::(nat_lit 298,kO 6 2)::(nat_lit 302,kO 6 3)::(nat_lit 303,kO 6 4)::(nat_lit 307,kO 6 5)::(nat_lit 308,kO 6 6)::(nat_lit 312,kO 6 7)::(nat_lit 313,kO 6 8)::(nat_lit 319,kO 6 9)::(nat_lit 320,kO 6 10)::(nat_lit 326,kO 6 11)::(nat_lit 327,kO 7 0)::(nat_lit 333,kO 7 1)::(nat_lit 334,kO 7 2)::(nat_lit 340,kO 7 3)::(nat_lit 341,kO 7 4)::(nat_lit 347,kO 7 5)::(nat_lit 348,kO 7 6)::(nat_lit 354,kO 7 7)::(nat_lit 355,kO 7 8)::(nat_lit 359,kO 7 9)::(nat_lit 360,kO 7 10)::(nat_lit 364,kO 7 11)::(nat_lit 365,kO 8 0)::(nat_lit 369,kO 8 1)::(nat_lit 370,kO 8 2)::(nat_lit 376,kO 8 3)::(nat_lit 377,kO 8 4)::(nat_lit 383,kO 8 5)::(nat_lit 384,kO 8 6)::(nat_lit 390,kO 8 7)::(nat_lit 391,kO 8 8)::(nat_lit 397,kO 8 9)::(nat_lit 398,kO 8 10)::(nat_lit 402,kO 8 11)::(nat_lit 403,kO 9 0)::(nat_lit 407,kO 9 1)::(nat_lit 408,kO 9 2)::(nat_lit 412,kO 9 3)::(nat_lit 413,kO 9 4)::(nat_lit 417,kO 9 5)::(nat_lit 418,kO 9 6)::(nat_lit 424,kO 9 7)::(nat_lit 425,kO 9 8)::(nat_lit 429,kO 9 9)::(nat_lit 430,kO 9 10)::(nat_lit 436,kO 9 11)::(nat_lit 437,kO 10 0)::(nat_lit 441,kO 10 1)::(nat_lit 442,kO 10 2)::(nat_lit 448,kO 10 3)::(nat_lit 449,kO 10 4)::(nat_lit 453,kO 10 5)::(nat_lit 454,kO 10 6)::(nat_lit 460,kO 10 7)::(nat_lit 461,kO 10 8)::(nat_lit 467,kO 10 9)::(nat_lit 468,kO 10 10)::(nat_lit 474,kO 10 11)::(nat_lit 475,kO 11 0)::(nat_lit 481,kO 11 1)::(nat_lit 482,kO 11 2)::(nat_lit 488,kO 11 3)::(nat_lit 489,kO 11 4)::(nat_lit 495,kO 11 5)::(nat_lit 496,kO 11 6)::(nat_lit 502,kO 11 7)::(nat_lit 503,kO 11 8)::(nat_lit 509,kO 11 9)::(nat_lit 510,kO 11 10)::(nat_lit 526,kO 11 11)::(nat_lit 527,kO 12 0)::(nat_lit 531,kO 12 1)::(nat_lit 532,kO 12 2)::(nat_lit 538,kO 12 3)::(nat_lit 539,kO 12 4)::(nat_lit 545,kO 12 5)::(nat_lit 546,kO 12 6)::(nat_lit 552,kO 12 7)::(nat_lit 553,kO 12 8)::(nat_lit 559,kO 12 9)::(nat_lit 560,kO 12 10)::(nat_lit 566,kO 12 11)::(nat_lit 567,kO 13 0)::[]
def KA:List Gj:=nat_lit 3::nat_lit 4::nat_lit 69::nat_lit 70::nat_lit 76::nat_lit 77::nat_lit 83::nat_lit 84::nat_lit 90::nat_lit 91::nat_lit 95::nat_lit 96::nat_lit 102::nat_lit 103::nat_lit 107::nat_lit 108::nat_lit 114::nat_lit 115::nat_lit 121::nat_lit 122::nat_lit 126::nat_lit 127::nat_lit 133::nat_lit 134::nat_lit 140::nat_lit 141::nat_lit 147::nat_lit 148::nat_lit 152::nat_lit 153::nat_lit 159::nat_lit 160::nat_lit 166::nat_lit 167::nat_lit 173::nat_lit 174::nat_lit 180::nat_lit 181::nat_lit 185::nat_lit 186::nat_lit 190::nat_lit 191::nat_lit 197::nat_lit 198::nat_lit 202::nat_lit 203::nat_lit 207::nat_lit 208::nat_lit 214::nat_lit 215::nat_lit 221::nat_lit 222::nat_lit 226::nat_lit 227::nat_lit 231::nat_lit 232::nat_lit 238::nat_lit 239::nat_lit 245::nat_lit 246::nat_lit 252::nat_lit 253::nat_lit 257::nat_lit 258::nat_lit 264::nat_lit 265::nat_lit 269::nat_lit 270::nat_lit 276::nat_lit 277::nat_lit 283::nat_lit 284::nat_lit 290::nat_lit 291::nat_lit 297::nat_lit 298::nat_lit 302::nat_lit 303::nat_lit 307::nat_lit 308::nat_lit 312::nat_lit 313::nat_lit 319::nat_lit 320::nat_lit 326::nat_lit 327::nat_lit 333::nat_lit 334::nat_lit 340::nat_lit 341::nat_lit 347::nat_lit 348::nat_lit 354::nat_lit 355::nat_lit 359::nat_lit 360::nat_lit 364::nat_lit 365::nat_lit 369::nat_lit 370::nat_lit 376::nat_lit 377::nat_lit 383::nat_lit 384::nat_lit 390::nat_lit 391::nat_lit 397::nat_lit 398::nat_lit 402::nat_lit 403::nat_lit 407::nat_lit 408::nat_lit 412::nat_lit 413::nat_lit 417::nat_lit 418::nat_lit 424::nat_lit 425::nat_lit 429::nat_lit 430::nat_lit 436::nat_lit 437::nat_lit 441::nat_lit 442::nat_lit 448::nat_lit 449::nat_lit 453::nat_lit 454::nat_lit 460::nat_lit 461::nat_lit 467::nat_lit 468::nat_lit 474::nat_lit 475::nat_lit 481::nat_lit 482::nat_lit 488::nat_lit 489::nat_lit 495::nat_lit 496::nat_lit 502::nat_lit 503::nat_lit 509::nat_lit 510::nat_lit 526::nat_lit 527::nat_lit 531::nat_lit 532::nat_lit 538::nat_lit 539::nat_lit 545::nat_lit 546::nat_lit 552::nat_lit 553::nat_lit 559::nat_lit 560::nat_lit 566::nat_lit 567::[]
theorem zGT (P:Params):(KK P).lookup 562=Gb:=by kernel_rfl
theorem zF7 (P:Params):codeHdIn (KK P) 566 562=true:=by kernel_rfl
end
open PySem PySem.W PySem.Spec PyProof.Rows L2 T3
abbrev pZ:Program:=PySem.Challenge.pw_roundfall_k52_whole_hasty_rules_break
def qv0:Program:=view pZ (je 199)
theorem zrT (P:Params):KA=(KK P).map (·.1):=by kernel_rfl
abbrev xt0 (s:Gh):Bool:=xlAt qv0 [] s&&recOk [] s
abbrev oS (p q:Program)(Xt:Gh->Bool)(s:Gh):=openSeen q [] (importedModules p.main.body) Xt true s
abbrev oE (p:Program)(w:World):=openEnds treeTable p w 9000
theorem VW {p q:Program}{Xt:Gh->Bool}{α:Type}{Yf:Gh->α}{Ya:World->α}
  (h1:∀ w,(oE p w).map (λs=>(oS p q Xt s).1)=Ga (expectedOf q)) (h2:∀ w,(oE p w).map (λs=>((oS p q Xt s).2.1,(oS p q Xt s).2.2.2.2.2.2.2.1))=Ga (bltViewBooted,wideGood q))
  (h3:∀ w,(oE p w).map (λs=>(oS p q Xt s).2.2.1)=Ga true) (h4:∀ w,(oE p w).map (λs=>(oS p q Xt s).2.2.2.2.2.1)=Ga (plainGoodE q (looseW q []))) (h6:∀ w,(oE p w).map (λs=>((oS p q Xt s).2.2.2.1,(oS p q Xt s).2.2.2.2.1,(oS p q Xt s).2.2.2.2.2.2.1,(oS p q Xt s).2.2.2.2.2.2.2.2))=Ga (true,pinGoodD (drecsOf q),plainGoodD q [],clsGoodW q [])) (h5:∀ w,(oE p w).map Yf=Ga (Ya w)):LeftO p q [] Xt Yf Ya 9000:=λw=>by
 have a1:=h1 w;have a2:=h2 w;have a3:=h3 w;have a4:=h4 w;have a5:=h5 w;have a6:=h6 w;clear h1 h2 h3 h4 h5 h6;unfold oE at *;generalize openEnds treeTable p w 9000=E at *;cases E with
 | none=>cases a1
 | some s =>
  obtain⟨b1,b2⟩:=Prod.mk.inj (jJ a2);obtain⟨c1,c2⟩:=Prod.mk.inj (jJ a6);obtain⟨c2,c3⟩:=Prod.mk.inj c2;obtain⟨c3,c4⟩:=Prod.mk.inj c3;have e:oS p q Xt s=openGood q []:=Prod.ext (jJ a1) (Prod.ext b1 (Prod.ext (jJ a3) (Prod.ext c1 (Prod.ext c2 (Prod.ext (jJ a4) (Prod.ext c3 (Prod.ext b2 c4)))))));show Ga (oS p q Xt s,Yf s)=Ga (openGood q [],Ya w);rw[e,show Yf s=Ya w from jJ a5]
set_option maxHeartbeats 0 in
theorem Vx:∀ w:World,(oE pZ w).map (λs=>(oS pZ qv0 xt0 s).1)=Ga (expectedOf qv0):=by
 intro w;unfold oE oS openEnds fencedOpening topFrom;rw[Fast.te14364793385576792824,Fast.te14082659384304107361,Fast.te10274390034422433532,Fast.te4187177175401517315]
 kernel_rfl
set_option maxHeartbeats 0 in
theorem Vt:∀ w:World,(oE pZ w).map (λs=>((oS pZ qv0 xt0 s).2.1,(oS pZ qv0 xt0 s).2.2.2.2.2.2.2.1))=Ga (bltViewBooted,wideGood qv0):=by
 intro w;unfold oE oS openEnds fencedOpening topFrom;rw[Fast.te14364793385576792824,Fast.te14082659384304107361,Fast.te10274390034422433532,Fast.te4187177175401517315]
 kernel_rfl
set_option maxHeartbeats 0 in
theorem UD:∀ w:World,(oE pZ w).map (λs=>(oS pZ qv0 xt0 s).2.2.1)=Ga true:=by
 intro w;unfold oE oS openEnds fencedOpening topFrom;rw[Fast.te14364793385576792824,Fast.te14082659384304107361,Fast.te10274390034422433532,Fast.te4187177175401517315]
 kernel_rfl
set_option maxHeartbeats 0 in
theorem Ux:∀ w:World,(oE pZ w).map (λs=>(oS pZ qv0 xt0 s).2.2.2.2.2.1)=Ga (plainGoodE qv0 (looseW qv0 [])):=by
 intro w;unfold oE oS openEnds fencedOpening topFrom;rw[Fast.te14364793385576792824,Fast.te14082659384304107361,Fast.te10274390034422433532,Fast.te4187177175401517315]
 kernel_rfl
set_option maxHeartbeats 0 in
theorem Uo:∀ w:World,(oE pZ w).map (λs=>((oS pZ qv0 xt0 s).2.2.2.1,(oS pZ qv0 xt0 s).2.2.2.2.1,(oS pZ qv0 xt0 s).2.2.2.2.2.2.1,(oS pZ qv0 xt0 s).2.2.2.2.2.2.2.2))=Ga (true,pinGoodD (drecsOf qv0),plainGoodD qv0 [],clsGoodW qv0 []):=by
 intro w;unfold oE oS openEnds fencedOpening topFrom;rw[Fast.te14364793385576792824,Fast.te14082659384304107361,Fast.te10274390034422433532,Fast.te4187177175401517315]
 kernel_rfl
set_option maxHeartbeats 0 in
theorem Vf:∀ w:World,(oE pZ w).map (Hook.obs (ue Law.KK Law.KA Law.zrT [562]))=Ga (Hook.val (ue Law.KK Law.KA Law.zrT [562]) w):=by
 intro w;unfold oE openEnds fencedOpening topFrom;rw[Fast.te14364793385576792824,Fast.te14082659384304107361,Fast.te10274390034422433532]
 kernel_rfl
theorem lf0:LeftO pZ qv0 [] xt0 (Hook.obs (ue Law.KK Law.KA Law.zrT [562])) (Hook.val (ue Law.KK Law.KA Law.zrT [562])) 9000:=VW Vx Vt UD Ux Uo Vf
set_option maxHeartbeats 0 in
theorem ws0:PySem.Challenge.rw_roundfall_k52_whole_hasty_rules_break.wellSaid=true:=by
 rw[Fast.te9446332074065402090]
 kernel_rfl
end
end Law
noncomputable section
namespace L2
open PySem PySem.Spec PyProof.Rows
abbrev mj:=Sum Int Str
def EH:mj->Gg->Bool
 | .inl k,v=>vW k v
 | .inr x,v=>Value.isStrOf x v
def Vk (w:World):mj->Int
 | .inl k=>hashInt k
 | .inr x=>hashStr w x
theorem mG:∀ {k:mj} {v:Gg},EH k v=true->(∃ i t,k=Sum.inl i/\v=qw i t)\/(∃ x t,k=Sum.inr x/\v=Value.str x t)
 | .inl i,v,h=>by
  obtain⟨t,e⟩:=Jx (k:=i) (v:=v) h;exact .inl ⟨i,t,rfl,e⟩
 | .inr x,v,h=>by
  obtain⟨t,e⟩:=Value.isStrOf_shape (x:=x) (v:=v) h;exact .inr ⟨x,t,rfl,e⟩
theorem Md (a b:Int):decide ((Sum.inl a:mj)=Sum.inl b)=(a==b):=by
 by_cases e:a=b
 .subst e;simp
 .have h:¬(Sum.inl a:mj)=Sum.inl b:=λq=>e (Sum.inl.inj q);rw[Gd h];exact(beq_eq_false_iff_ne.mpr e).symm
theorem LX (a b:Str):decide ((Sum.inr a:mj)=Sum.inr b)=decide (a=b):=by
 by_cases e:a=b
 .subst e;simp
 .have h:¬(Sum.inr a:mj)=Sum.inr b:=λq=>e (Sum.inr.inj q);rw[Gd h,Gd e]
theorem Oc (a:Int)(b:Str):decide ((Sum.inl a:mj)=Sum.inr b)=false:=Gd (λq=>nomatch q)
theorem Kx (a:Str)(b:Int):decide ((Sum.inr a:mj)=Sum.inl b)=false:=Gd (λq=>nomatch q)
def yB (prog:Program)(w:World):PySem.KeyKind prog w mj where
 is:=EH
 hash:=Vk w
 inj:=λv a b ha hb=>by
  rcases mG ha with ⟨i,t,rfl,rfl⟩|⟨x,t,rfl,rfl⟩
  .rcases mG hb with ⟨j,u,rfl,e⟩|⟨y,u,rfl,e⟩
   .injection e with e1 _;rw[e1]
   .exact nomatch e
  .rcases mG hb with ⟨j,u,rfl,e⟩|⟨y,u,rfl,e⟩
   .exact nomatch e
   .injection e with e1 _;rw[e1]
 byValue:=λk v h=>by
  rcases mG h with ⟨i,t,rfl,rfl⟩|⟨x,t,rfl,rfl⟩<;>rfl
 pyHash:=λhv h=>by
  rcases mG hv with ⟨i,t,rfl,rfl⟩|⟨x,t,rfl,rfl⟩
  .exact wpAny_pyHash_int h
  .exact wpAny_pyHash_str h
 eqBool:=λhu hv h=>by
  rcases mG hu with ⟨i,t,rfl,rfl⟩|⟨x,t,rfl,rfl⟩
  .rcases mG hv with ⟨j,u,rfl,rfl⟩|⟨y,u,rfl,rfl⟩
   .rw[Md] at h;exact wpAny_eqBool_int h
   .rw[Oc] at h;exact SeqAt.EqAt.int_str i t y u _ _ _ _ h
  .rcases mG hv with ⟨j,u,rfl,rfl⟩|⟨y,u,rfl,rfl⟩
   .rw[Kx] at h;exact SeqAt.EqAt.str_int x t j u _ _ _ _ h
   .rw[LX] at h;exact wpAny_eqBool_str h
 «strs»:=λk x t v h=>by
  rcases mG h with ⟨i,u,rfl,e⟩|⟨y,u,rfl,e⟩
  .exact nomatch e
  .injection e with e1 _
   subst e1;cases v<;>rfl
inductive V where
 | non|bl (b:Bool)|int (i:Int)|str (x:Str)|byt (b:Array UInt8)|flt (b:UInt64)|ref (a:Gj)|ty (n:String)
 deriving DecidableEq
def iA:V->Gg->Prop
 | .non,u=>u=kr
 | .bl b,u=>u=uP b
 | .int i,u=>∃ t,u=qw i t
 | .str x,u=>∃ t,u=Value.str x t
 | .byt b,u=>∃ t,u=Value.bytes b t
 | .flt b,u=>∃ t,u=Value.float b t
 | .ref a,u=>u=kP a
 | .ty n,u=>u=uQ n
abbrev ip:List V->List Gg->Prop:=Paired iA
theorem ip.length {xs:List V}{us:List Gg}(r:ip xs us):xs.length=us.length:=Paired.length r
theorem ip.get:∀ {xs:List V} {us:List Gg} {i:Nat} {x:V},ip xs us->xs[i]?=Ga x->∃ u,us[i]?=Ga u/\iA x u
 | _,_,_,_,.nil,e=>by simp at e
 | _,_,0,_,.cons r _,e=>by simp at e;subst e;exact⟨_,rfl,r⟩
 | _,_,i+1,x,.cons _ t,e=>by
  obtain⟨u,h1,h2⟩:=ip.get (i:=i) (x:=x) t (by simpa using e);exact⟨u,by simpa using h1,h2⟩
theorem ip.set {x:V}{u:Gg}(r:iA x u):∀ {xs:List V} {us:List Gg} (i:Nat),ip xs us->ip (xs.set i x) (us.set i u)
 | _,_,_,.nil=>.nil
 | _,_,0,.cons _ t=>.cons r t
 | _,_,i+1,.cons q t=>.cons q (ip.set r i t)
theorem ip.append:∀ {xs ys:List V} {us ws:List Gg},ip xs us->ip ys ws->ip (xs++ys) (us++ws)
 | _,_,_,_,.nil,s=>s
 | _,_,_,_,.cons r t,s=>.cons r (ip.append t s)
theorem ip.take:∀ {xs:List V} {us:List Gg} (n:Nat),ip xs us->ip (xs.take n) (us.take n)
 | _,_,0,_=>.nil
 | _,_,_+1,.nil=>.nil
 | _,_,n+1,.cons r t=>.cons r (ip.take n t)
theorem ip.drop:∀ {xs:List V} {us:List Gg} (n:Nat),ip xs us->ip (xs.drop n) (us.drop n)
 | _,_,0,r=>r
 | _,_,_+1,.nil=>.nil
 | _,_,n+1,.cons _ t=>ip.drop n t
theorem ip.none_of:∀ {xs:List V} {us:List Gg} {i:Nat},ip xs us->xs[i]?=Gb->us[i]?=Gb:=λ{xs us i} r e=>by
 have h1:=r.length;have h2:xs.length<=i:=uy.mp e;exact uy.mpr (by omega)
def rX:Option V->Option Gg->Prop
 | some v,Ga u=>iA v u
 | none,Gb=>True
 | _,_=>False
def KV {κ:Type}:List (κ×V)->List (κ×Gg)->Prop:=Paired λ(p:κ×V) (q:κ×Gg)=>p.1=q.1/\iA p.2 q.2
def kV:mj->V
 | .inl i=>.int i
 | .inr x=>.str x
inductive HO where
 | lst (xs:List V)
 | tup (xs:List V)
 | dK (kvs:List (mj×V))|dT (kvs:List (List mj×V))
 | set (S:Int->Bool) (n:Nat)
 | ins (C dx:Gj) (fs:List (Str×V))
 | own (x:Gj)
 | xd (fs:List (Str×V))
 | met (f x:Gj)
 | rng (lo hi:Int)
 | frz (o:Obj) (u:HO)
 | tbl (ps:Array Gg)
 | ext (φ:Heap->Prop)
abbrev Hp:=Gj->Option HO
def upd (H:Hp)(a:Gj)(o:HO):Hp:=λb=>if b=a then Ga o else H b
theorem ij {H:Hp}{a:Gj}{o:HO}:upd H a o a=Ga o:=by unfold upd;rw[Ge rfl]
theorem hE {H:Hp}{a b:Gj}{o:HO}(h:b≠a):upd H a o b=H b:=by unfold upd;rw[Gf h]
theorem lZ {H:Hp}{a b:Gj}{o:HO}(h:H a=Ga o)(h':H b=Gb):a≠b:=by
 intro e;subst e;rw[h] at h';cases h'
section
variable (P:Program)(w:World)
def mR (H:Hp)(h:Heap)(a:Gj):HO->Prop
 | .lst xs=>xs.length<=sizeLine/\∃ (its:List Gg) (n:Nat),ip xs its/\h.get? a=Ga { cls:=.type "list",data:=.seq its.toArray n }
 | .tup xs=>xs.length<=sizeLine/\∃ its:List Gg,ip xs its/\IsTup h a its.toArray
 | .dK kvs=>kvs.length<=sizeLine/\(a==sysModules)=false/\∃ vs,KV kvs vs/\h.DictOf (yB P w) a vs
 | .dT kvs=>kvs.length<=sizeLine/\(a==sysModules)=false/\∃ xs:List (List mj×Gj×Gg),
   Paired (λ(p:List mj×V) (q:List mj×Gj×Gg)=>p.1=q.1/\H q.2.1=Ga (.tup (p.1.map kV))/\iA p.2 q.2.2) kvs xs /\
   ∃ o es ep,h.get? a=Ga o/\o.ExactDict/\o.data=.dict es ep/\es.toList=xs.map (entryOfKey (tupleKind (yB P w)))/\(xs.map (·.1)).Nodup
 | .set S n=>h.SetOf (intKind P w) a S n
 | .ins C dx fs=>H dx=Ga (.own a)/\fs.length<=1000/\dx≠a/\h.get? a=Ga (uA C dx) /\
   ∃ mA,h.Ns1 dx mA/\(∀ f,rX (fs.lookup f) (mA f))/\PySem.Within mA (fs.map (·.1))
 | .own _=>∃ o,h.get? a=Ga o
 | .xd fs=>∃ mA,h.Ns1 a mA/\∀ f,rX (fs.lookup f) (mA f)
 | .rng lo hi=>∃ t u v,h.get? a=Ga { cls:=.type "range",data:=.fields #[.int lo t,.int hi u,.int 1 v] }
 | .frz o u=>h.get? a=Ga o/\mR H h a u
 | .tbl ps=>h.get? a=Ga { cls:=.none,data:=.fields ps }
 | .met f x=>h.get? a=Ga (qk (.ref f) (.ref x))
 | .ext φ=>φ h/\(∃ o,h.get? a=Ga o)/\∀ h1 h2:Heap,φ h1->(∀ o,h1.get? a=Ga o->h2.get? a=Ga o)->φ h2
def HOk (H:Hp)(h:Heap):Prop:=∀ a o,H a=Ga o->mR P w H h a o
end
section
variable {P:Program}{w:World}{H H':Hp}{h h':Heap}{a:Gj}{o:HO}
theorem mR.lt (x:mR P w H h a o):a<h.objs.size:=by
 cases o with
 | lst xs=>obtain⟨_,_,_,_,e⟩:=x;exact jp e
 | tup xs=>obtain⟨_,_,_,p⟩:=x;exact p.lt
 | dK kvs=>obtain⟨_,_,_,_,o,_,_,e,_⟩:=x;exact jp e
 | dT kvs=>obtain⟨_,_,_,_,o,_,_,e,_⟩:=x;exact jp e
 | set S n=>obtain⟨o,_,_,_,e,_⟩:=x;exact jp e
 | ins C dx fs=>obtain⟨_,_,_,e,_⟩:=x;exact jp e
 | own y=>obtain⟨_,e⟩:=x;exact jp e
 | xd fs=>obtain⟨_,⟨_,_,_,e,_⟩,_⟩:=x;exact jp e
 | rng lo hi=>obtain⟨_,_,_,e⟩:=x;exact jp e
 | frz ob u=>obtain⟨e,_⟩:=x;exact jp e
 | tbl ps=>exact jp (show h.get? a=Ga _ from x)
 | met f y=>exact jp (show h.get? a=Ga _ from x)
 | ext φ=>obtain⟨_,⟨_,e⟩,_⟩:=x;exact jp e
theorem Paired.mapP {α β:Type}{F G:α->β->Prop}:∀ {l₁:List α} {l₂:List β},Paired F l₁ l₂->(∀ a b,F a b->G a b)->Paired G l₁ l₂
 | _,_,.nil,_=>.nil
 | _,_,.cons r t,f=>.cons (f _ _ r) (Paired.mapP t f)
theorem mR.stay (x:mR P w H h a o)(k:∀ b u,(b=a\/H b=Ga (.own a))->h.get? b=Ga u->h'.get? b=Ga u)
  (ho:∀ b,H b=Ga (.own a)->H' b=Ga (.own a)) (ht:∀ b xs,H b=Ga (.tup xs)->H' b=Ga (.tup xs)):mR P w H' h' a o:=by
 induction o with
 | lst xs=>obtain⟨z,its,n,r,e⟩:=x;exact⟨z,its,n,r,k _ _ (.inl rfl) e⟩
 | tup xs=>obtain⟨z,its,r,ob,e,c⟩:=x;exact⟨z,its,r,ob,k _ _ (.inl rfl) e,c⟩
 | dK kvs=>obtain⟨z,y,vs,r,ob,es,ep,e,c⟩:=x;exact⟨z,y,vs,r,ob,es,ep,k _ _ (.inl rfl) e,c⟩
 | dT kvs =>
  obtain⟨z,y,xs,r,ob,es,ep,e,c⟩:=x;exact⟨z,y,xs,Paired.mapP r λp q z=>⟨z.1,ht _ _ z.2.1,z.2.2⟩,ob,es,ep,k _ _ (.inl rfl) e,c⟩
 | set S n=>obtain⟨ob,es,ep,t,e,c⟩:=x;exact⟨ob,es,ep,t,k _ _ (.inl rfl) e,c⟩
 | ins C dx fs =>
  obtain⟨d,z,ne,e,mA,⟨od,es,ep,e2,c⟩,r⟩:=x;exact⟨ho _ d,z,ne,k _ _ (.inl rfl) e,mA,⟨od,es,ep,k _ _ (.inr d) e2,c⟩,r⟩
 | own y=>obtain⟨ob,e⟩:=x;exact⟨ob,k _ _ (.inl rfl) e⟩
 | xd fs=>obtain⟨mA,⟨od,es,ep,e,c⟩,r⟩:=x;exact⟨mA,⟨od,es,ep,k _ _ (.inl rfl) e,c⟩,r⟩
 | rng lo hi=>obtain⟨t,u,v,e⟩:=x;exact⟨t,u,v,k _ _ (.inl rfl) e⟩
 | frz ob u ih=>obtain⟨e,q⟩:=x;exact⟨k _ _ (.inl rfl) e,ih q⟩
 | tbl ps =>
  have e:h.get? a=Ga { cls:=.none,data:=.fields ps }:=x;show h'.get? a=Ga { cls:=.none,data:=.fields ps };exact k a _ (.inl rfl) e
 | met f y =>
  have e:h.get? a=Ga (qk (.ref f) (.ref y)):=x;show h'.get? a=Ga (qk (.ref f) (.ref y));exact k a _ (.inl rfl) e
 | ext φ=>obtain⟨p,⟨o,e⟩,st⟩:=x;exact⟨st _ _ p λo q=>k _ _ (.inl rfl) q,⟨o,k _ _ (.inl rfl) e⟩,st⟩
theorem HOk.lt (x:HOk P w H h)(e:H a=Ga o):a<h.objs.size:=(x a o e).lt
theorem HOk.fresh (x:HOk P w H h)(e:h.objs.size<=a):H a=Gb:=by
 cases q:H a with
 | none=>rfl
 | some u=>exact absurd (jB (x.lt q) e) (jY _)
theorem HOk.kept (x:HOk P w H h)(k:∀ b u,h.get? b=Ga u->h'.get? b=Ga u):HOk P w H h':=λa o e =>
 (x a o e).stay (λb u _ q=>k b u q) (λ_ q=>q) λ_ _ q=>q
theorem HOk.laid (x:HOk P w H h)(k:∀ b u,h.get? b=Ga u->h'.get? b=Ga u)(hp:h.objs.size<=a)(new:mR P w (upd H a o) h' a o):HOk P w (upd H a o) h':=λb u e=>by
 have hn:=x.fresh hp;by_cases hb:b=a
 .subst hb;rw[ij] at e;cases e;exact new
 .rw[hE hb] at e;exact(x b u e).stay (λc v _ q=>k c v q) (λc q=>by rw[hE (lZ q hn)];exact q) λc xs q=>by rw[hE (lZ q hn)];exact q
end
def Rd (H:Hp)(a:Gj)(u:HO):Prop:=H a=Ga u\/∃ o,H a=Ga (.frz o u)
theorem Rd.of {H:Hp}{a:Gj}{u:HO}(h:H a=Ga u):Rd H a u:=.inl h
theorem Rd.ok {P:Program}{w:World}{H:Hp}{h:Heap}{a:Gj}{u:HO}(r:Rd H a u)(x:HOk P w H h):mR P w H h a u:=by
 rcases r with r|⟨o,r⟩
 .exact x a u r
 .obtain⟨_,q⟩:=x a _ r;exact q
def CS:Option HO->Prop
 | some (.lst _)=>True
 | some (.dK _)=>True
 | some (.dT _)=>True
 | some (.set _ _)=>True
 | some (.ins _ _ _)=>True
 | some (.ext _)=>True
 | _=>False
section
variable {P:Program}{w:World}{H:Hp}{h h':Heap}{x e:Gj}{o':HO}
theorem HOk.write (ok:HOk P w H h)(mu:CS (H x))(he:e=x\/H e=Ga (.own x))(k:∀ b u,b≠e->h.get? b=Ga u->h'.get? b=Ga u)(heo:∃ u,h'.get? e=Ga u)
  (new:mR P w (upd H x o') h' x o'):HOk P w (upd H x o') h':=λb u q=>by
 have nown:∀ c y,H c=Ga (.own y)->c≠x:=λc y r z=>by subst z;rw[r] at mu;exact mu
 have ntup:∀ c xs,H c=Ga (.tup xs)->c≠x:=λc xs r z=>by subst z;rw[r] at mu;exact mu
 by_cases hb:b=x
 .subst hb;rw[ij] at q;cases q;exact new
 .rw[hE hb] at q;by_cases hbe:b=e
  .have q':H b=Ga (.own x):=by
    rcases he with z|z
    .exact absurd (hbe.trans z) hb
    .rw[hbe];exact z
   rw[q] at q';cases q';obtain⟨v,hv⟩:=heo;exact⟨v,by rw[hbe];exact hv⟩
  .refine(ok b u q).stay (λc v hc r=>k c v ?_ r) (λc r=>by rw[hE (nown c b r)];exact r) λc xs r=>by rw[hE (ntup c xs r)];exact r
   rcases hc with rfl|hc
   .exact hbe
   .rintro rfl;rcases he with z|z
    .exact nown c b hc z
    .rw[hc] at z;cases z;exact hb rfl
end
structure Un (fs ex:List Gj)(H H':Hp)(h h':Heap):Prop where
 keep:∀ b o,h.get? b=Ga o->H b=Gb->b∉fs->b∉ex->h'.get? b=Ga o
 slot:∀ b o,h.get? b=Ga o->H b=Gb->b∈fs->b∉ex->∃ sl,h'.get? b=Ga { o with slots:=sl }
 free:∀ b o,h.get? b=Ga o->H b=Gb->b∉ex->H' b=Gb
 there:∀ b o,h.get? b=Ga o->b∉ex->∃ o',h'.get? b=Ga o'
 tups:∀ b xs,H b=Ga (.tup xs)->H' b=Ga (.tup xs)
 frzs:∀ b o u,H b=Ga (.frz o u)->H' b=Ga (.frz o u)
 tbls:∀ b ps,H b=Ga (.tbl ps)->∃ more,H' b=Ga (.tbl (ps++more))
section
variable {fs fs' ex ex':List Gj}{H H1 H2:Hp}{h h1 h2 h':Heap}{a x e:Gj}{o:HO}
theorem Un.any (u:Un fs ex H H1 h h1){b:Gj}{ob:Obj}(q:h.get? b=Ga ob)(n:H b=Gb)(hx:b∉ex):∃ sl,h1.get? b=Ga { ob with slots:=sl }:=by
 by_cases hb:b∈fs
 .exact u.slot b ob q n hb hx
 .exact⟨ob.slots,u.keep b ob q n hb hx⟩
theorem Un.trans (a:Un fs ex H H1 h h1)(b:Un fs ex H1 H2 h1 h2):Un fs ex H H2 h h2 where
 keep:=λc ob q n hc hx=>b.keep c ob (a.keep c ob q n hc hx) (a.free c ob q n hx) hc hx
 slot:=λc ob q n hc hx=>by
  obtain⟨sl,e1⟩:=a.slot c ob q n hc hx;obtain⟨sl',e2⟩:=b.slot c _ e1 (a.free c ob q n hx) hc hx;exact⟨sl',e2⟩
 free:=λc ob q n hx=>by
  obtain⟨o',e1⟩:=a.there c ob q hx;exact b.free c o' e1 (a.free c ob q n hx) hx
 there:=λc ob q hx=>by
  obtain⟨o',e1⟩:=a.there c ob q hx;exact b.there c o' e1 hx
 tups:=λc xs q=>b.tups c xs (a.tups c xs q)
 frzs:=λc ob xs q=>b.frzs c ob xs (a.frzs c ob xs q)
 tbls:=λc ps q=>by
  obtain⟨m1,e1⟩:=a.tbls c ps q;obtain⟨m2,e2⟩:=b.tbls c _ e1;exact⟨m1++m2,by rw[e2,Jn]⟩
theorem Un.kept (k:∀ b u,h.get? b=Ga u->h'.get? b=Ga u):Un fs ex H H h h' :=
 ⟨λb ob q _ _ _=>k b ob q,λb ob q _ _ _=>⟨ob.slots,k b ob q⟩,λ_ _ _ n _=>n,λb ob q _=>⟨ob,k b ob q⟩,λ_ _ q=>q,λ_ _ _ q=>q,λ_ ps q=>⟨#[],by rw[q];simp⟩⟩
theorem Un.refl:Un fs ex H H h h:=Un.kept λ_ _ q=>q
theorem Un.laid (k:∀ b u,h.get? b=Ga u->h'.get? b=Ga u)(hp:h.objs.size<=a)(hn:H a=Gb):Un fs ex H (upd H a o) h h' where
 keep:=λb u q _ _ _=>k b u q
 slot:=λb u q _ _ _=>⟨u.slots,k b u q⟩
 free:=λb u q n _=>by rw[hE (jH (jB (jp q) hp))];exact n
 there:=λb u q _=>⟨u,k b u q⟩
 tups:=λb xs q=>by rw[hE (lZ q hn)];exact q
 frzs:=λb u xs q=>by rw[hE (lZ q hn)];exact q
 tbls:=λb ps q=>⟨#[],by rw[hE (lZ q hn),q];simp⟩
theorem Un.write (mu:CS (H x))(he:e=x\/H e=Ga (.own x))(k:∀ b u,b≠e->h.get? b=Ga u->h'.get? b=Ga u)(heo:∃ u,h'.get? e=Ga u):Un fs ex H (upd H x o) h h':=by
 have hx:∀ b,H b=Gb->b≠x:=λb n z=>by subst z;rw[n] at mu;exact mu
 have hb:∀ b,H b=Gb->b≠e:=λb n z=>by
  subst z;rcases he with r|r
  .exact hx b n r
  .rw[n] at r;cases r
 have hm:∀ b u,H b=Ga u->¬CS (Ga u)->b≠x:=λb u q nm z=>by subst z;rw[q] at mu;exact nm mu
 refine⟨λb u q n _ _=>k b u (hb b n) q,λb u q n _ _=>⟨u.slots,k b u (hb b n) q⟩,λb u q n _=>by rw[hE (hx b n)];exact n,λb u q _=>?_,
  λb xs q=>by rw[hE (hm b _ q λz=>z)];exact q,λb u xs q=>by rw[hE (hm b _ q λz=>z)];exact q,λb ps q=>⟨#[],by rw[hE (hm b _ q λz=>z),q];simp⟩⟩
 by_cases hbe:b=e
 .subst hbe;exact heo
 .exact⟨u,k b u hbe q⟩
theorem Un.mono (u:Un fs ex H H1 h h1)(hs:∀ b∈fs,b∈fs')(hx:∀ b∈ex,b∈ex'):Un fs' ex' H H1 h h1 :=
 ⟨λb ob q n hb he=>u.keep b ob q n (λz=>hb (hs b z)) λz=>he (hx b z),λ_ _ q n _ he=>u.any q n λz=>he (hx _ z),λb ob q n he=>u.free b ob q n λz=>he (hx b z),λb ob q he=>u.there b ob q λz=>he (hx b z),u.tups,u.frzs,u.tbls⟩
end
def FF (h:Heap)(H:Hp):List Gj:=(je h.objs.size).filter λa=>(H a).isSome
def pA (h:Heap)(H:Hp):Heap:=PySem.W.hideAll h (FF h H)
theorem zh (h:Heap)(H:Hp):(pA h H).objs.size=h.objs.size:=PySem.W.hideAll_size _ _
theorem zR {h:Heap}{H:Hp}{b:Gj}{o:Obj}(e:h.get? b=Ga o)(n:H b=Gb):(pA h H).get? b=Ga o :=
 PySem.W.hideAll_get _ e λhm=>by
  have q:(H b).isSome=true:=(jO.mp hm).2;rw[n] at q;simp at q
theorem BG {h:Heap}{H:Hp}{b:Gj}{o:Obj}(e:(pA h H).get? b=Ga o):h.get? b=Ga o/\H b=Gb:=by
 have e':h.get? b=Ga o:=PySem.W.of_hideAll (FF h H) e;refine⟨e',?_⟩;cases q:H b with
 | none=>rfl
 | some x =>
  have hm:b∈FF h H:=jO.mpr ⟨jk.mpr (jp e'),by simp[q]⟩;have z:(pA h H).get? b=Gb:=PySem.W.hideAll_none (FF h H) hm;rw[z] at e;cases e
def GV (g h:Heap)(L:Gj):List (Gj×Obj):=(je h.objs.size).filterMap λa=>if a=L\/(g.get? a).isSome=true then Gb else(h.get? a).map λo=>(a,o)
def rest (g h:Heap)(L d:Gj):List (Gj×Obj):=(GV g h L).filter λp=>decide (p.1≠d)
structure Mod (K:jb)(mg:Str->Option Gg)(base:Heap):Prop where
 kin:K.In base
 glob:base.Ns mainGlobals mg
 blt:∃ mb,base.Ns builtinsNs mb/\∀ x:Str,x≠"__name__"->mb x=bootBuiltins x
 nolimit:base.NoLimit
structure Cx where
 prog:Program
 w:World
 K:jb
 mg:Str->Option Gg
 base:Heap
 A:Around
 N:List Str
 s₀:Gh
 H₀:Hp
 env:Env
 outer:List Env
 stack:List Env
 ex:List Gj
 fn:Str->Bool
 calm:Bool
 pn:List (Gj×Obj)
 xe:Gg->Gh->Prop
def rF (l:List Env):List Gj:=l.filterMap (·.frame)
abbrev Cx.fs (X:Cx):List Gj:=rF X.outer
def wo (sc:Scope)(x:Str):Prop:=sc.names.lookup x=Ga .local\/sc.names.lookup x=Ga .cell\/sc.names.lookup x=Ga .free
def wS (sc:Scope)(x:Str):Prop:=sc.names.lookup x=Ga .local\/sc.names.lookup x=Ga .cell
def Vl (ψ:Env)(h:Heap)(m:Str->Option Gg)(x:Str)(u:Gg):Prop :=
 (ψ.kindOf x=Ga .local/\m x=Ga u)\/((ψ.kindOf x=Ga .cell\/ψ.kindOf x=Ga .free)/\∃ c,ψ.cells.lookup x=Ga c/\h.IsCell c (Ga u))
structure Cx.Ok (X:Cx):Prop where
 mod:Mod X.K X.mg X.base
 kind:X.env.scope.kind=.function
 glob:X.env.globals=mainGlobals
 blt:X.env.builtins=builtinsNs
 above:X.s₀.heap.objs.size<=X.env.locals
 inj:∀ x y c,X.env.cells.lookup x=Ga c->X.env.cells.lookup y=Ga c->x=y
 has:∀ x,(X.env.kindOf x=Ga .cell\/X.env.kindOf x=Ga .free)->∃ c,X.env.cells.lookup x=Ga c
 cab:∀ x c,X.fn x=true->X.env.cells.lookup x=Ga c->X.s₀.heap.objs.size<=c
 hd:X.calm=true->X.A.handled=Gb
 frames:X.A.frames=Ga X.stack
 stk:X.stack=X.outer\/(X.stack=X.env::X.outer/\X.env.frame=Ga X.env.locals)
 exf:∀ b∈X.ex,b≠X.env.locals/\∀ x c,X.env.cells.lookup x=Ga c->c≠b
 bs:∀ b o,X.base.get? b=Ga o->X.s₀.heap.get? b=Ga o/\X.H₀ b=Gb
 bsz:X.base.objs.size<=X.s₀.heap.objs.size
 noex:∀ b o,X.base.get? b=Ga o->b∉X.ex
 exfs:∀ b∈X.ex,b∉X.fs
 funs:X.s₀.heap.FunFrames X.base X.outer
 frf:∀ b∈X.fs,X.H₀ b=Gb
structure gS (X:Cx)(ω:List (Gj×Obj))(σ:List (Option V))(H:Hp)(s:Gh):Prop where
 ok:X.Ok
 os:s.os=X.s₀.os
 bare:AllBare s.gens
 base:Un X.fs X.ex X.H₀ H X.s₀.heap s.heap
 loc:∃ m,s.heap.Ns X.env.locals m/\∀ (i:Nat) (x:Str) (v:V),X.N[i]?=Ga x->σ[i]?=Ga (Ga v)->wo X.env.scope x->∃ u,iA v u/\Vl X.env s.heap m x u
 cell:∀ x c,X.env.cells.lookup x=Ga c->∃ v,s.heap.IsCell c v
 free:H X.env.locals=Gb
 freeC:∀ x c,X.env.cells.lookup x=Ga c->H c=Gb
 pin:∀ p∈X.pn++ω,s.heap.get? p.1=Ga p.2/\H p.1=Gb/\p.1≠X.env.locals/\p.1∉X.fs/\∀ v,p.2.data≠.cell v
 hok:HOk X.prog X.w H s.heap
 len:σ.length=X.N.length
section
variable {X:Cx}{ω:List (Gj×Obj)}{σ:List (Option V)}{H H':Hp}{s:Gh}{h':Heap}
theorem Cx.Ok.nofr (ok:X.Ok){b:Gj}{o:Obj}(e:X.base.get? b=Ga o):b∉X.fs:=λhb=>by
 have:=(ok.funs.mem hb).1;rw[e] at this;cases this
theorem gS.bs (I:gS X ω σ H s):∀ b o,X.base.get? b=Ga o->s.heap.get? b=Ga o/\H b=Gb:=λb o e =>
 ⟨I.base.keep b o (I.ok.bs b o e).1 (I.ok.bs b o e).2 (I.ok.nofr e) (I.ok.noex b o e),I.base.free b o (I.ok.bs b o e).1 (I.ok.bs b o e).2 (I.ok.noex b o e)⟩
theorem gS.bk (I:gS X ω σ H s):∀ b o,X.base.get? b=Ga o->s.heap.get? b=Ga o:=λb o e=>(I.bs b o e).1
theorem gS.mod (I:gS X ω σ H s):Mod X.K X.mg X.base:=I.ok.mod
theorem gS.kIn (I:gS X ω σ H s):X.K.In s.heap:=I.ok.mod.kin.keeps I.bk
theorem gS.nolimit (I:gS X ω σ H s):s.heap.NoLimit:=I.ok.mod.nolimit.keeps I.bk
theorem gS.fr (I:gS X ω σ H s):∃ m,Fr X.base X.env.locals s.heap m :=
 let ⟨m,hn,_⟩:=I.loc
 ⟨m,hn,I.bk,jF I.ok.bsz I.ok.above⟩
theorem gS.lt (I:gS X ω σ H s):X.env.locals<s.heap.objs.size:=let ⟨_,hn,_⟩:=I.loc;hn.lt
theorem gS.sz (I:gS X ω σ H s):X.s₀.heap.objs.size<=s.heap.objs.size:=jF I.ok.above (uk I.lt)
theorem gS.nofs (I:gS X ω σ H s){a:Gj}(h:s.heap.objs.size<=a):a∉X.fs:=λhb=>by
 obtain⟨_,o,ho,_⟩:=I.ok.funs.mem hb;exact absurd (jB (jp ho) (jF I.sz h)) (jY _)
theorem gS.cne (I:gS X ω σ H s):∀ x c,X.env.cells.lookup x=Ga c->c≠X.env.locals:=λx c e z=>by
 obtain⟨v,o,ho,hd⟩:=I.cell x c e;obtain⟨m,⟨o',es,ep,ho',hd',_⟩,_⟩:=I.loc;rw[z,ho'] at ho;cases ho;rw[hd'] at hd;cases hd
theorem gS.funs (I:gS X ω σ H s):s.heap.FunFrames X.base X.outer:=by
 have all:∀ (l:List Env),(∀ b∈rF l,b∈X.fs)->X.s₀.heap.FunFrames X.base l->s.heap.FunFrames X.base l:=by
  intro l;induction l with
  | nil=>intro _ _;trivial
  | cons ψ r ih =>
   intro hs hl;obtain⟨hk,⟨L,o,hf,hn,ho,hd⟩,hr⟩:=hl;have hL:L∈X.fs:=hs L (by unfold rF;rw[v0,hf];exact jh);obtain⟨sl,e⟩:=I.base.slot L o ho (I.ok.frf L hL) hL λz=>I.ok.exfs L z hL;exact⟨hk,⟨L,_,hf,hn,e,hd⟩,ih (λb hb=>hs b (by unfold rF;rw[v0,hf];exact jo _ hb)) hr⟩
 exact all X.outer (λ_ hb=>hb) I.ok.funs
theorem gS.stack (I:gS X ω σ H s):s.heap.FunFrames X.base X.stack:=by
 rcases I.ok.stk with e|⟨e,hf⟩
 .rw[e];exact I.funs
 .rw[e];obtain⟨m,hn,_⟩:=I.loc;refine .cons (by rw[I.ok.kind];decide) hf hn ?_ I.funs;exact Heap.get?_none_of_le (jF I.ok.bsz I.ok.above)
theorem gS.stkSub (I:gS X ω σ H s):∀ b∈rF X.stack,b∈X.env.locals::X.fs:=λb hb=>by
 rcases I.ok.stk with e|⟨e,hf⟩
 .rw[e] at hb;exact jo _ hb
 .rw[e] at hb;unfold rF at hb;rw[v0,hf] at hb;exact hb
theorem gS.stkFree (I:gS X ω σ H s):∀ b∈rF X.stack,H b=Gb:=λb hb=>by
 rcases jw.mp (I.stkSub b hb) with e|hb
 .rw[e];exact I.free
 .obtain⟨_,o,ho,_⟩:=I.ok.funs.mem hb;exact I.base.free b o ho (I.ok.frf b hb) λz=>I.ok.exfs b z hb
theorem gS.step {g':Array GenState}{t':Nat}{d':Drawn}{ch:List Gj}(I:gS X ω σ H s)
  (hch:∀ b∈ch,(b∈X.ex\/X.s₀.heap.objs.size<=b)/\b≠X.env.locals/\(∀ x c,X.env.cells.lookup x=Ga c->c≠b)/\∀ p∈X.pn++ω,p.1≠b)
  (keep:∀ b o,b≠X.env.locals->b∉X.fs->b∉ch->s.heap.get? b=Ga o->H b=Gb->h'.get? b=Ga o)
  (slot:∀ b o,b≠X.env.locals->b∈X.fs->b∉ch->s.heap.get? b=Ga o->H b=Gb->∃ sl,h'.get? b=Ga { o with slots:=sl }) (free:∀ b o,b∉ch->s.heap.get? b=Ga o->H b=Gb->H' b=Gb)
  (there:∀ b o,b∉ch->s.heap.get? b=Ga o->∃ o',h'.get? b=Ga o')
  (tups:∀ b xs,H b=Ga (.tup xs)->H' b=Ga (.tup xs)) (frzs:∀ b o u,H b=Ga (.frz o u)->H' b=Ga (.frz o u)) (tbls:∀ b ps,H b=Ga (.tbl ps)->∃ more,H' b=Ga (.tbl (ps++more)))
  (ns:∀ m,s.heap.Ns X.env.locals m->h'.Ns X.env.locals m) (hok:HOk X.prog X.w H' h') (hg:AllBare g') :
  gS X ω σ H' { s with heap:=h',gens:=g',drawn:=d',toks:=t' }:=by
 have neL:∀ b o,X.s₀.heap.get? b=Ga o->b≠X.env.locals:=λb o e=>jH (jB (jp e) I.ok.above);have neC:∀ b o,X.s₀.heap.get? b=Ga o->b∉X.ex->b∉ch:=λb o e hx hb=>by
  rcases(hch b hb).1 with z|z
  .exact hx z
  .exact absurd (jB (jp e) z) (jY _)
 have cellK:∀ x c,X.env.cells.lookup x=Ga c->∀ v,s.heap.IsCell c v->h'.IsCell c v:=λx c e v ⟨o,ho,hd⟩=>by
  have nch:c∉ch:=λz=>(hch c z).2.2.1 x c e rfl;by_cases hc:c∈X.fs
  .obtain⟨sl,q⟩:=slot c o (I.cne x c e) hc nch ho (I.freeC x c e);exact⟨_,q,hd⟩
  .exact⟨o,keep c o (I.cne x c e) hc nch ho (I.freeC x c e),hd⟩
 refine⟨I.ok,I.os,hg,⟨λb o e n hb hx=>?_,λb o e n hb hx=>?_,λb o e n hx=>?_,λb o e hx=>?_,λb xs e=>tups b xs (I.base.tups b xs e),λb o xs e=>frzs b o xs (I.base.frzs b o xs e),λb ps e=>?_⟩,?_,λx c e=>?_,?_,λx c e=>?_,λp hp=>?_,hok,I.len⟩
 .exact keep b o (neL b o e) hb (neC b o e hx) (I.base.keep b o e n hb hx) (I.base.free b o e n hx)
 .obtain⟨sl,e1⟩:=I.base.slot b o e n hb hx;obtain⟨sl',e2⟩:=slot b _ (neL b o e) hb (neC b o e hx) e1 (I.base.free b o e n hx);exact⟨sl',e2⟩
 .obtain⟨o',e1⟩:=I.base.there b o e hx;exact free b o' (neC b o e hx) e1 (I.base.free b o e n hx)
 .obtain⟨o',e1⟩:=I.base.there b o e hx;exact there b o' (neC b o e hx) e1
 .obtain⟨m1,e1⟩:=I.base.tbls b ps e;obtain⟨m2,e2⟩:=tbls b _ e1;exact⟨m1++m2,by rw[e2,Jn]⟩
 .obtain⟨m,hn,hl⟩:=I.loc;refine⟨m,ns m hn,λi x v e1 e2 e3=>?_⟩;obtain⟨u,r,l⟩:=hl i x v e1 e2 e3;refine⟨u,r,?_⟩;rcases l with l|⟨k,c,e,z⟩
  .exact .inl l
  .exact .inr ⟨k,c,e,cellK x c e _ z⟩
 .obtain⟨v,z⟩:=I.cell x c e;exact⟨v,cellK x c e v z⟩
 .obtain⟨m,⟨o,_,_,ho,_⟩,_⟩:=I.loc;exact free _ o (λz=>(hch _ z).2.1 rfl) ho I.free
 .obtain⟨v,o,ho,hd⟩:=I.cell x c e;exact free c o (λz=>(hch c z).2.2.1 x c e rfl) ho (I.freeC x c e)
 .obtain⟨e,n,ne,nf,d⟩:=I.pin p hp;have nch:p.1∉ch:=λz=>(hch p.1 z).2.2.2 p hp rfl;exact⟨keep p.1 p.2 ne nf nch e n,free p.1 p.2 nch e n,ne,nf,d⟩
theorem gS.un {t':Nat}(I:gS X ω σ H s)(u:Un X.fs [] H H' s.heap h')(hok:HOk X.prog X.w H' h'):gS X ω σ H' { s with heap:=h',toks:=t' }:=by
 obtain⟨m,⟨o,es,ep,ho,r⟩,_⟩:=id I.loc;obtain⟨sl,hL⟩:=u.any ho I.free (by simp);exact I.step (g':=s.gens) (d':=s.drawn) (ch:=[]) (λ_ z=>nomatch z) (λb o _ hb _ e n=>u.keep b o e n hb (by simp)) (λb o _ hb _ e n=>u.slot b o e n hb (by simp)) (λb o _ e n=>u.free b o e n (by simp)) (λb o _ e=>u.there b o e (by simp)) u.tups u.frzs u.tbls (λm' hm=>by
  obtain⟨o',es',ep',ho',r'⟩:=hm;rw[ho] at ho';cases ho';exact⟨_,es',ep',hL,r'⟩) hok I.bare
theorem gS.call {g':Array GenState}{t':Nat}{d':Drawn}{ch:List Gj}(I:gS X ω σ H s)(u:Un (rF X.stack) ch H H' s.heap h')(hok:HOk X.prog X.w H' h')(hg:AllBare g')
  (hch:∀ b∈ch,(b∈X.ex\/X.s₀.heap.objs.size<=b)/\b≠X.env.locals/\(∀ x c,X.env.cells.lookup x=Ga c->c≠b)/\∀ p∈X.pn++ω,p.1≠b) :
  gS X ω σ H' { s with heap:=h',gens:=g',drawn:=d',toks:=t' }:=by
 obtain⟨m,⟨o,es,ep,ho,r⟩,_⟩:=id I.loc;obtain⟨sl,hL⟩:=u.any ho I.free λz=>(hch _ z).2.1 rfl;exact I.step (ch:=ch) hch (λb o hL hb hc e n=>u.keep b o e n (λz=>(jw.mp (I.stkSub b z)).elim hL hb) hc) (λb o _ _ hc e n=>u.any e n hc) (λb o hc e n=>u.free b o e n hc) (λb o hc e=>u.there b o e hc) u.tups u.frzs u.tbls (λm' hm=>by
  obtain⟨o',es',ep',ho',r'⟩:=hm;rw[ho] at ho';cases ho';exact⟨_,es',ep',hL,r'⟩) hok hg
theorem gS.turned {t':Nat}{it:Gj}(I:gS X ω σ H s)(k:∀ b o,b≠it->s.heap.get? b=Ga o->h'.get? b=Ga o)(hn:H it=Gb)(hL:it≠X.env.locals)
  (h1:it∈X.ex\/X.s₀.heap.objs.size<=it) (h2:∀ x c,X.env.cells.lookup x=Ga c->c≠it) (h3:∀ p∈X.pn++ω,p.1≠it):gS X ω σ H { s with heap:=h',toks:=t' }:=by
 have nit:∀ b u,H b=Ga u->b≠it:=λb u e z=>by rw[z,hn] at e;cases e
 refine I.step (g':=s.gens) (d':=s.drawn) (ch:=[it]) (λb hb=>?_) (λb o _ _ hc e _=>k b o (λz=>hc (by simp[z])) e) (λb o _ _ hc e _=>⟨o.slots,k b o (λz=>hc (by simp[z])) e⟩) (λ_ _ _ _ n=>n)
  (λb o hc e=>⟨o,k b o (λz=>hc (by simp[z])) e⟩) (λ_ _ e=>e) (λ_ _ _ e=>e) (λb ps e=>⟨#[],by rw[e];simp⟩) (λm hm=>?_) (λb u e=>?_) I.bare
 .have e:b=it:=by simpa using hb
  subst e;exact⟨h1,hL,h2,h3⟩
 .obtain⟨o,es,ep,ho,r⟩:=hm;exact⟨o,es,ep,k _ o (uo hL) ho,r⟩
 .refine(I.hok b u e).stay (λc v hc q=>k c v ?_ q) (λ_ q=>q) λ_ _ q=>q;rcases hc with z|z
  .rw[z];exact nit b u e
  .exact nit c _ z
theorem gS.tok (I:gS X ω σ H s)(t:Nat):gS X ω σ H { s with toks:=t }:=I.un (h':=s.heap) (t':=t) Un.refl I.hok
theorem gS.kept {t':Nat}(I:gS X ω σ H s)(k:∀ b u,s.heap.get? b=Ga u->h'.get? b=Ga u):gS X ω σ H { s with heap:=h',toks:=t' }:=I.un (Un.kept k) (I.hok.kept k)
theorem gS.laid {a:Gj}{o:HO}{t':Nat}(I:gS X ω σ H s)(k:∀ b u,s.heap.get? b=Ga u->h'.get? b=Ga u)(hp:s.heap.objs.size<=a)(new:mR X.prog X.w (upd H a o) h' a o) :
  gS X ω σ (upd H a o) { s with heap:=h',toks:=t' }:=I.un (Un.laid k hp (I.hok.fresh hp)) (I.hok.laid k hp new)
theorem gS.write {x e:Gj}{o:HO}{t':Nat}(I:gS X ω σ H s)(mu:CS (H x))(he:e=x\/H e=Ga (.own x))(k:∀ b u,b≠e->s.heap.get? b=Ga u->h'.get? b=Ga u)(heo:∃ u,h'.get? e=Ga u)
  (new:mR X.prog X.w (upd H x o) h' x o):gS X ω σ (upd H x o) { s with heap:=h',toks:=t' }:=I.un (Un.write mu he k heo) (I.hok.write mu he k heo new)
theorem gS.pins_of {pins':List (Gj×Obj)}(I:gS X ω σ H s)(h:∀ p∈pins',s.heap.get? p.1=Ga p.2/\H p.1=Gb/\p.1≠X.env.locals/\p.1∉X.fs/\∀ v,p.2.data≠.cell v):gS X pins' σ H s :=
 ⟨I.ok,I.os,I.bare,I.base,I.loc,I.cell,I.free,I.freeC,λp hp=>(jI.mp hp).elim (λz=>I.pin p (uC _ z)) (h p),I.hok,I.len⟩
theorem zY {N:List Str}(hN:N.Nodup){i j:Nat}{x:Str}(a:N[i]?=Ga x)(b:N[j]?=Ga x):i=j:=by
 obtain⟨h1,e1⟩:=jn.mp a;obtain⟨h2,e2⟩:=jn.mp b;exact(JL hN).mp (e1.trans e2.symm)
theorem zw {M:Model}{A:Around}{E:Gg->Gh->Prop}{i:Nat}{x:Str}{v:V}{u:Gg}{Q:Unit->Gh->Prop}(I:gS X ω σ H s)(hN:X.N.Nodup)(hi:X.N[i]?=Ga x)(hx:wS X.env.scope x)(r:iA v u)
  (h:∀ s',gS X ω (σ.set i (Ga v)) H s'->(∃ a,vD a s.heap s'.heap/\(a=X.env.locals\/X.env.cells.lookup x=Ga a))->Q () s') (hf:X.fn x=true\/X.env.scope.names.lookup x=Ga .local:=by first|exact .inl rfl|exact .inr rfl|assumption):wpAny M A (storeName X.env x u) Q E s:=by
 obtain⟨m,hn,hl⟩:=id I.loc;have hcls:(X.env.scope.kind==.class||(X.env.scope.kind==.module&&X.env.locals !=X.env.globals))=false:=by rw[I.ok.kind];rfl
 have hiσ:i<σ.length:=by rw[I.len];exact(jn.mp hi).1
 have cne:=I.cne;have tracked:∀ {a:Gj} {h':Heap},(∃ o,s.heap.get? a=Ga o/\H a=Gb)->vD a s.heap h'->HOk X.prog X.w H h':=λ{a h'} ha hs b ob e=>by
  obtain⟨_,_,hfree⟩:=ha;refine(I.hok b ob e).stay (λc w' hc q=>(hs.2 c ?_).trans q) (λ_ q=>q) λ_ _ q=>q;rintro rfl;rcases hc with rfl|hc
  .rw[hfree] at e;cases e
  .rw[hfree] at hc;cases hc
 rcases hx with hk|hk
 .refine wpAny_storeName_local hk hn (λh' hn' hs=>?_) hcls;obtain⟨oL,_,_,hoL,_⟩:=id hn;refine h _ ⟨I.ok,I.os,I.bare,⟨λb o e n hb hx=>?_,λb o e n hb hx=>?_,I.base.free,λb o e hx=>?_,I.base.tups,I.base.frzs,I.base.tbls⟩,⟨_,hn',λj y v' e1 e2 e3=>?_⟩,λy c e=>?_,I.free,I.freeC,λp hp=>?_,tracked ⟨oL,hoL,I.free⟩ hs,by simpa using I.len⟩ ⟨_,hs,.inl rfl⟩
  .exact(hs.2 b (jH (jB (jp e) I.ok.above))).trans (I.base.keep b o e n hb hx)
  .obtain⟨sl,e1⟩:=I.base.slot b o e n hb hx;exact⟨sl,(hs.2 b (jH (jB (jp e) I.ok.above))).trans e1⟩
  .obtain⟨o',e1⟩:=I.base.there b o e hx;exact⟨o',(hs.2 b (jH (jB (jp e) I.ok.above))).trans e1⟩
  .by_cases hj:j=i
   .subst hj;rw[hi] at e1;cases e1;rw[jW hiσ] at e2;cases e2;exact⟨u,r,.inl ⟨hk,by simp⟩⟩
   .rw[jS (uo hj)] at e2;obtain⟨u',r',q⟩:=hl j y v' e1 e2 e3;refine⟨u',r',?_⟩;rcases q with ⟨k,e⟩|⟨k,c,e,z⟩
    .refine .inl ⟨k,?_⟩;have:y≠x:=λe=>hj (zY hN e1 (e▸hi));simp[this,e]
    .exact .inr ⟨k,c,e,z.sameBut hs (cne y c e)⟩
  .obtain⟨w',z⟩:=I.cell y c e;exact⟨w',z.sameBut hs (cne y c e)⟩
  .obtain⟨e,n,ne,nf,d⟩:=I.pin p hp;exact⟨(hs.2 p.1 ne).trans e,n,ne,nf,d⟩
 .have hfn:X.fn x=true:=by
   rcases hf with z|z
   .exact z
   .rw[z] at hk;cases hk
  obtain⟨c,hc⟩:=I.ok.has x (.inl hk);obtain⟨w',z⟩:=I.cell x c hc;refine wpAny_storeName_cell I.ok.kind hk hc z (λh' hc' hs=>?_);obtain⟨oc,hoc,hocd⟩:=id z;refine h { s with heap:=h' } ⟨I.ok,I.os,I.bare,⟨λb o e n hb hx=>?_,λb o e n hb hx=>?_,I.base.free,λb o e hx=>?_,I.base.tups,I.base.frzs,I.base.tbls⟩,⟨m,hn.sameBut hs (uo (cne x c hc)),λj y v' e1 e2 e3=>?_⟩,λy c' e=>?_,I.free,I.freeC,λp hp=>?_,tracked ⟨oc,hoc,I.freeC x c hc⟩ hs,by simpa using I.len⟩ ⟨c,hs,.inr hc⟩
  .exact(hs.2 b (jH (jB (jp e) (I.ok.cab x c hfn hc)))).trans (I.base.keep b o e n hb hx)
  .obtain⟨sl,e1⟩:=I.base.slot b o e n hb hx;exact⟨sl,(hs.2 b (jH (jB (jp e) (I.ok.cab x c hfn hc)))).trans e1⟩
  .obtain⟨o',e1⟩:=I.base.there b o e hx;exact⟨o',(hs.2 b (jH (jB (jp e) (I.ok.cab x c hfn hc)))).trans e1⟩
  .by_cases hj:j=i
   .subst hj;rw[hi] at e1;cases e1;rw[jW hiσ] at e2;cases e2;exact⟨u,r,.inr ⟨.inl hk,c,hc,hc'⟩⟩
   .rw[jS (uo hj)] at e2;obtain⟨u',r',q⟩:=hl j y v' e1 e2 e3;refine⟨u',r',?_⟩;rcases q with q|⟨k,c',e,z'⟩
    .exact .inl q
    .refine .inr ⟨k,c',e,z'.sameBut hs ?_⟩;rintro rfl;exact hj (zY hN e1 (I.ok.inj _ _ _ e hc▸hi))
  .by_cases hcc:c'=c
   .subst hcc;exact⟨_,hc'⟩
   .obtain⟨w2,z2⟩:=I.cell y c' e;exact⟨w2,z2.sameBut hs hcc⟩
  .obtain⟨e,n,ne,nf,d⟩:=I.pin p hp;refine⟨(hs.2 p.1 ?_).trans e,n,ne,nf,d⟩;intro q;rw[q,hoc] at e;have q':oc=p.2:=jJ e;exact d w' (by rw[<- q'];exact hocd)
theorem Ad {M:Model}{A:Around}{E:Gg->Gh->Prop}{i:Nat}{x:Str}{v:V}{u:Gg}{Q:Unit->Gh->Prop}(I:gS X ω σ H s)(hN:X.N.Nodup)(hi:X.N[i]?=Ga x)(hx:wS X.env.scope x)(r:iA v u)
  (h:∀ s',gS X ω (σ.set i (Ga v)) H s'->Q () s') (hf:X.fn x=true\/X.env.scope.names.lookup x=Ga .local:=by first|exact .inl rfl|exact .inr rfl|assumption):wpAny M A (storeName X.env x u) Q E s :=
 zw I hN hi hx r (λs' I' _=>h s' I') hf
theorem gS.call' {s':Gh}{ch:List Gj}(I:gS X ω σ H s)(ho:s'.os=s.os)(u:Un (rF X.stack) ch H H' s.heap s'.heap)(hok:HOk X.prog X.w H' s'.heap)(hg:AllBare s'.gens)
  (hch:∀ b∈ch,(b∈X.ex\/X.s₀.heap.objs.size<=b)/\b≠X.env.locals/\(∀ x c,X.env.cells.lookup x=Ga c->c≠b)/\∀ p∈X.pn++ω,p.1≠b):gS X ω σ H' s':=by
 obtain⟨h',g',d',t',o'⟩:=s';have e:o'=s.os:=ho;subst e;exact I.call (g':=g') (t':=t') (d':=d') u hok hg hch
end
abbrev XK:=Gg->Option Gj->Hp->Prop
abbrev St:=List (Option V)
abbrev VK:=V->Hp->Prop
abbrev TE:=St->Hp->VK->Prop
abbrev TT:=St->Hp->(Bool->Hp->Prop)->Prop
abbrev TA:=St->Hp->(List V->Hp->Prop)->Prop
structure xp where
 nx:St->Hp->Prop
 rt:VK
 bk:St->Hp->Prop:=λ_ _=>False
 ct:St->Hp->Prop:=λ_ _=>False
abbrev TS:=xp->St->Hp->Prop
def EP (X:Cx)(ω:List (Gj×Obj))(σ:St)(Q:VK)(u:Gg)(s':Gh):Prop:=∃ v H',gS X ω σ H' s'/\iA v u/\Q v H'
def TP (X:Cx)(ω:List (Gj×Obj))(σ:St)(Q:Bool->Hp->Prop)(b:Bool)(s':Gh):Prop:=∃ H',gS X ω σ H' s'/\Q b H'
def AP (X:Cx)(ω:List (Gj×Obj))(σ:St)(Q:List V->Hp->Prop)(us:List Gg)(s':Gh):Prop:=∃ vs H',gS X ω σ H' s'/\ip vs us/\Q vs H'
def SP (X:Cx)(ω:List (Gj×Obj))(D:xp)(f:Flow)(s':Gh):Prop :=
 match f with
 | .next=>∃ σ' H',gS X ω σ' H' s'/\D.nx σ' H'
 | .brk=>∃ σ' H',gS X ω σ' H' s'/\D.bk σ' H'
 | .cont=>∃ σ' H',gS X ω σ' H' s'/\D.ct σ' H'
 | .ret u=>∃ v σ' H',gS X ω σ' H' s'/\iA v u/\D.rt v H'
def PE (X:Cx)(e:Expr)(t:TE):Prop :=
 ∀ (ω:List (Gj×Obj)) (s:Gh) (σ:St) (H:Hp) (Q:VK),gS X ω σ H s->t σ H Q->wpAny (model X.prog X.w) X.A (eval e X.env) (EP X ω σ Q) X.xe s
def PT (X:Cx)(e:Expr)(t:TT):Prop :=
 ∀ (ω:List (Gj×Obj)) (s:Gh) (σ:St) (H:Hp) (Q:Bool->Hp->Prop),gS X ω σ H s->t σ H Q->wpAny (model X.prog X.w) X.A (isTrue e X.env (eval e X.env)) (TP X ω σ Q) X.xe s
def PW (X:Cx)(e:Expr)(t:TT):Prop :=
 ∀ (whole:Sem Gg) (ω:List (Gj×Obj)) (s:Gh) (σ:St) (H:Hp) (Q:Bool->Hp->Prop),gS X ω σ H s->t σ H Q->wpAny (model X.prog X.w) X.A (isTrue e X.env whole) (TP X ω σ Q) X.xe s
theorem PW.pt {X:Cx}{e:Expr}{t:TT}(h:PW X e t):PT X e t:=h _
def PA (X:Cx)(es:List Expr)(t:TA):Prop :=
 ∀ (pos:Pos) (ω:List (Gj×Obj)) (s:Gh) (σ:St) (H:Hp) (Q:List V->Hp->Prop),gS X ω σ H s->t σ H Q->wpAny (model X.prog X.w) X.A (spliced (backTo pos (starEach es X.env))) (AP X ω σ Q) X.xe s
def PS (X:Cx)(st:Stmt)(t:TS):Prop :=
 ∀ (ω:List (Gj×Obj)) (s:Gh) (σ:St) (H:Hp) (D:xp),gS X ω σ H s->t D σ H->wpAny (model X.prog X.w) X.A (exec st X.env) (SP X ω D) X.xe s
def rG (X:Cx)(st:List Stmt)(t:TS):Prop :=
 ∀ (ω:List (Gj×Obj)) (s:Gh) (σ:St) (H:Hp) (D:xp),gS X ω σ H s->t D σ H->wpAny (model X.prog X.w) X.A (execs st X.env) (SP X ω D) X.xe s
theorem iR {α:Type}{t:Sem α}{Q Q':α->Gh->Prop}{M:Model}{A:Around}{E:Gg->Gh->Prop}{s:Gh}(h:wpAny M A t Q E s)(hQ:∀ a s,Q a s->Q' a s):wpAny M A t Q' E s:=wpAny_mono h hQ λ_ _ x=>x
section
variable {X:Cx}
theorem ib {a b:Expr}{ta tb:TE}(ha:PE X a ta)(hb:PE X b tb){ω:List (Gj×Obj)}{s:Gh}{σ:St}{H:Hp}{R:V->V->Hp->Prop}(I:gS X ω σ H s)(h:ta σ H λx H1=>tb σ H1 λy H2=>R x y H2)
  {α:Type} {Q:α->Gh->Prop} {f:Gg->Gg->Sem α}
  (hf:∀ v u s2 x y H2,gS X ω σ H2 s2->iA x v->iA y u->R x y H2->wpAny (model X.prog X.w) X.A (f v u) Q X.xe s2) :
  wpAny (model X.prog X.w) X.A (eval a X.env) (λv s₁=>wpAny (model X.prog X.w) X.A (eval b X.env) (λu s₂=>wpAny (model X.prog X.w) X.A (f v u) Q X.xe s₂) X.xe s₁) X.xe s:=by
 refine iR (ha ω s σ H _ I h) λv s1 ⟨x,H1,I1,r1,q1⟩=>?_;refine iR (hb ω s1 σ H1 _ I1 q1) λu s2 ⟨y,H2,I2,r2,q2⟩=>?_;exact hf v u s2 x y H2 I2 r1 r2 q2
def US (i:Nat):TE:=λσ H Q=>∃ v,σ[i]?=Ga (Ga v)/\Q v H
def tC (v:V):TE:=λ_ H Q=>Q v H
theorem ph {i:Nat}{x:Str}{pos:Pos}(hN:X.N[i]?=Ga x)(hv:wo X.env.scope x)(hd:(x==("__debug__":Str))=false:=by decide)(hcd:(x==("__classdict__":Str))=false:=by decide):PE X (.Name x pos) (US i):=by
 intro ω s σ H Q I h;obtain⟨v,e,h⟩:=h;obtain⟨m,hn,hl⟩:=I.loc;obtain⟨u,r,l⟩:=hl i x v hN e hv;have fin:EP X ω σ Q u s:=⟨v,H,I,r,h⟩;rcases l with ⟨hk,hm⟩|⟨hk,c,hc,hcell⟩
 .exact wpAny_Name (wpAny_loadName_local I.ok.kind hk hn hm fin) hd
 .rcases hk with hk|hk
  .exact wpAny_Name (wpAny_loadName_cell I.ok.kind hk hc hcell fin) hd
  .exact wpAny_Name (wpAny_loadName_free I.ok.kind hk hc hcell fin hcd) hd
theorem Kc {i j pos}:PE X (.Constant (.int i) j pos) (tC (.int i)):=λ_ _ _ H _ I h=>wpAny_Constant_int ⟨.int i,H,I.tok _,⟨_,rfl⟩,h⟩
theorem Ey {b j pos}:PE X (.Constant (.bool b) j pos) (tC (.bl b)):=λ_ _ _ H _ I h=>Constant_bool ⟨.bl b,H,I,rfl,h⟩
theorem HC {j pos}:PE X (.Constant .none j pos) (tC .non):=λ_ _ _ H _ I h=>Constant_none ⟨.non,H,I,rfl,h⟩
theorem Og {x j pos}:PE X (.Constant (.str x) j pos) (tC (.str x)):=λ_ _ _ H _ I h=>Calls.Constant_str ⟨.str x,H,I.tok _,⟨_,rfl⟩,h⟩
def Gl (X:Cx)(x:Str):Prop:=X.env.kindOf x=Ga .globalImplicit
theorem yx {E:Gg->Gh->Prop}{ω:List (Gj×Obj)}{s:Gh}{σ:St}{H:Hp}{x:Str}{u:Gg}{pos:Pos}{Q:Gg->Gh->Prop}(I:gS X ω σ H s)(hg:Gl X x)(hm:X.mg x=Ga u)(h:Q u s)
  (hd:(x==("__debug__":Str))=false:=by decide):wpAny (model X.prog X.w) X.A (eval (.Name x pos) X.env) Q E s :=
 qa I.ok.kind hg (Calls.loadGlobal_global (by rw[I.ok.glob];exact I.mod.glob.keeps I.bk) hm h) hd
theorem re {E:Gg->Gh->Prop}{ω:List (Gj×Obj)}{s:Gh}{σ:St}{H:Hp}{x:Str}{u:Gg}{pos:Pos}{Q:Gg->Gh->Prop}(I:gS X ω σ H s)(hg:Gl X x)(hm:X.mg x=Gb)(hv:bootBuiltins x=Ga u)(h:Q u s)
  (hn:x≠"__name__":=by decide) (hd:(x==("__debug__":Str))=false:=by decide):wpAny (model X.prog X.w) X.A (eval (.Name x pos) X.env) Q E s:=by
 obtain⟨mb,h1,h2⟩:=I.mod.blt;exact qa I.ok.kind hg (Calls.loadGlobal_builtin (by rw[I.ok.glob];exact I.mod.glob.keeps I.bk) hm (by rw[I.ok.blt];exact h1.keeps I.bk) ((h2 x hn).trans hv) h) hd
theorem GS {x:Str}{v:V}{u:Gg}{pos:Pos}(hg:Gl X x)(hm:X.mg x=Ga u)(r:iA v u)(hd:(x==("__debug__":Str))=false:=by decide):PE X (.Name x pos) (tC v) :=
 λ_ _ _ H _ I h=>yx I hg hm ⟨v,H,I,r,h⟩ hd
variable {a b:Expr}{ta tb:TE}{pos:Pos}
variable {tA tB':TT}{rest:List Expr}
def UL (t u:TT):TT:=λσ H Q=>t σ H λc H1=>if c=true then u σ H1 Q else Q false H1
def tOr (t u:TT):TT:=λσ H Q=>t σ H λc H1=>if c=true then Q true H1 else u σ H1 Q
def UT (t:TT):TT:=λσ H Q=>t σ H λc H1=>Q (!c) H1
theorem GZ (ha:PT X a tA):PW X (.BoolOp .And [a] pos) tA:=by
 intro wh ω s σ H Q I h;refine isTrue_and (iR (ha ω s σ H Q I h) λc s1 e=>?_);cases c with
 | true=>exact isTrue_and_nil e
 | false=>exact e
theorem Nj (ha:PT X a tA):PW X (.BoolOp .Or [a] pos) tA:=by
 intro wh ω s σ H Q I h;refine isTrue_or (iR (ha ω s σ H Q I h) λc s1 e=>?_);cases c with
 | false=>exact isTrue_or_nil e
 | true=>exact e
theorem KI (ha:PT X a tA)(hb:PW X (.BoolOp .And (b::rest) pos) tB'):PW X (.BoolOp .And (a::b::rest) pos) (UL tA tB'):=by
 intro wh ω s σ H Q I h;refine isTrue_and (iR (ha ω s σ H _ I h) λc s1 ⟨H1,I1,q1⟩=>?_);cases c with
 | true=>exact hb wh ω s1 σ H1 Q I1 q1
 | false=>exact⟨H1,I1,q1⟩
theorem OV (ha:PT X a tA)(hb:PW X (.BoolOp .Or (b::rest) pos) tB'):PW X (.BoolOp .Or (a::b::rest) pos) (tOr tA tB'):=by
 intro wh ω s σ H Q I h;refine isTrue_or (iR (ha ω s σ H _ I h) λc s1 ⟨H1,I1,q1⟩=>?_);cases c with
 | true=>exact⟨H1,I1,q1⟩
 | false=>exact hb wh ω s1 σ H1 Q I1 q1
theorem Oq (ha:PT X a tA):PT X (.UnaryOp .Not a pos) (UT tA):=by
 intro ω s σ H Q I h;exact isTrue_not (ha ω s σ H (λc H1=>Q (!c) H1) I h)
def OQ (ta tb:TE):TE:=λσ H Q=>ta σ H λx H1=>∃ c,x=.bl c/\if c=true then tb σ H1 Q else Q (.bl false) H1
def Um (ta tb:TE):TE:=λσ H Q=>ta σ H λx H1=>∃ c,x=.bl c/\if c=true then Q (.bl true) H1 else tb σ H1 Q
def OK (ta:TE):TE:=λσ H Q=>ta σ H λx H1=>∃ c,x=.bl c/\Q (.bl (!c)) H1
theorem LS {op}{t:TE}(h:PE X a t):PE X (.BoolOp op [a] pos) t:=λω s σ H Q I hw=>BoolOp_one (h ω s σ H Q I hw)
theorem On (ha:PE X a ta)(hb:PE X (.BoolOp .And (b::rest) pos) tb):PE X (.BoolOp .And (a::b::rest) pos) (OQ ta tb):=by
 intro ω s σ H Q I h;refine BoolOp_and (iR (ha ω s σ H _ I h) λv s1 ⟨x,H1,I1,r1,q1⟩=>?_);obtain⟨c,rfl,q1⟩:=q1;cases r1;refine wpAny_truthy_bool ?_;cases c with
 | true=>exact hb ω s1 σ H1 Q I1 q1
 | false=>exact⟨.bl false,H1,I1,rfl,q1⟩
theorem OB (ha:PE X a ta)(hb:PE X (.BoolOp .Or (b::rest) pos) tb):PE X (.BoolOp .Or (a::b::rest) pos) (Um ta tb):=by
 intro ω s σ H Q I h;refine BoolOp_or (iR (ha ω s σ H _ I h) λv s1 ⟨x,H1,I1,r1,q1⟩=>?_);obtain⟨c,rfl,q1⟩:=q1;cases r1;refine wpAny_truthy_bool ?_;cases c with
 | false=>exact hb ω s1 σ H1 Q I1 q1
 | true=>exact⟨.bl true,H1,I1,rfl,q1⟩
theorem Hn (ha:PE X a ta):PE X (.UnaryOp .Not a pos) (OK ta):=by
 intro ω s σ H Q I h;refine UnaryOp_ (iR (ha ω s σ H _ I h) λv s1 ⟨x,H1,I1,r1,q1⟩=>?_);obtain⟨c,rfl,q1⟩:=q1;cases r1;exact not_of (wpAny_truthy_bool ⟨.bl (!c),H1,I1,rfl,q1⟩)
def tIf (t:TT)(ta tb:TE):TE:=λσ H Q=>t σ H λc H1=>if c=true then ta σ H1 Q else tb σ H1 Q
theorem DT {c:Expr}(hc:PT X c tA)(ha:PE X a ta)(hb:PE X b tb):PE X (.IfExp c a b pos) (tIf tA ta tb):=by
 intro ω s σ H Q I h;refine wpAny_IfExp (iR (hc ω s σ H _ I h) λd s1 ⟨H1,I1,q1⟩=>?_);cases d with
 | true=>exact ha ω s1 σ H1 Q I1 q1
 | false=>exact hb ω s1 σ H1 Q I1 q1
end
def lH (K:jb)(H:Hp)(a:Gj)(xs:List V):Prop :=
 Rd H a (.lst xs) \/
  ∃ (o:Obj) (its:Array Gg) (n:Nat),K.lookup a=Ga o/\o.cls=.type "list"/\o.dict=Gb/\o.data=.seq its n/\its.size<=sizeLine/\ip xs its.toList
def mU (K:jb)(H:Hp)(a:Gj)(xs:List V):Prop :=
 Rd H a (.tup xs) \/
  ∃ (o:Obj) (its:Array Gg) (n:Nat),K.lookup a=Ga o/\o.cls=.type "tuple"/\o.data=.seq its n/\its.size<=sizeLine/\ip xs its.toList
def Uv:Gg->Option V
 | .none=>Ga .non
 | .bool b=>Ga (.bl b)
 | .int i _=>Ga (.int i)
 | .str x _=>Ga (.str x)
 | .bytes b _=>Ga (.byt b)
 | .float b _=>Ga (.flt b)
 | .ref a=>Ga (.ref a)
 | .type n=>Ga (.ty n)
 | _=>Gb
theorem iA.abs {x:V}{u:Gg}(r:iA x u):Uv u=Ga x:=by
 cases x with
 | non=>cases r;rfl
 | bl _=>cases r;rfl
 | int _=>obtain⟨t,rfl⟩:=r;rfl
 | str _=>obtain⟨t,rfl⟩:=r;rfl
 | byt _=>obtain⟨t,rfl⟩:=r;rfl
 | flt _=>obtain⟨t,rfl⟩:=r;rfl
 | ref _=>cases r;rfl
 | ty _=>cases r;rfl
theorem iA.inj {x y:V}{u:Gg}(r:iA x u)(q:iA y u):x=y:=jJ (r.abs.symm.trans q.abs)
theorem ip.inj:∀ {xs ys:List V} {us:List Gg},ip xs us->ip ys us->xs=ys
 | _,_,_,.nil,.nil=>rfl
 | _,_,_,.cons r t,.cons r' t'=>by rw[r.inj r',ip.inj t t']
section
variable {X:Cx}{ω:List (Gj×Obj)}{σ:St}{H:Hp}{s:Gh}{a:Gj}{xs ys:List V}
theorem lH.of {K:jb}(h:H a=Ga (.lst xs)):lH K H a xs:=.inl (.inl h)
theorem mU.of {K:jb}(h:H a=Ga (.tup xs)):mU K H a xs:=.inl (.inl h)
theorem gS.list (I:gS X ω σ H s)(h:lH X.K H a xs):∃ its:List Gg,ip xs its/\PlainL s.heap a its.toArray/\xs.length<=sizeLine:=by
 rcases h with h|⟨o,its,n,hk,hc,hd,hs,hz,r⟩
 .obtain⟨z,its,n,r,e⟩:=h.ok I.hok;exact⟨its,r,⟨_,n,e,rfl,rfl,rfl⟩,z⟩
 .refine⟨its.toList,r,⟨o,n,I.kIn a o hk,hc,hd,by simpa using hs⟩,?_⟩;have e:=r.length;simp only[ki] at e;omega
theorem gS.tuple (I:gS X ω σ H s)(h:mU X.K H a xs):∃ its:List Gg,ip xs its/\IsTup s.heap a its.toArray/\xs.length<=sizeLine:=by
 rcases h with h|⟨o,its,n,hk,hc,hs,hz,r⟩
 .obtain⟨z,its,r,p⟩:=h.ok I.hok;exact⟨its,r,p,z⟩
 .refine⟨its.toList,r,⟨o,I.kIn a o hk,hc,n,by simpa using hs⟩,?_⟩;have e:=r.length;simp only[ki] at e;omega
theorem gS.list_inj (I:gS X ω σ H s)(h:lH X.K H a xs)(h':lH X.K H a ys):xs=ys:=by
 obtain⟨its,r,⟨o,n,e,_,_,d⟩,_⟩:=I.list h;obtain⟨its',r',⟨o',n',e',_,_,d'⟩,_⟩:=I.list h';rw[e] at e';cases e';rw[d] at d'
 injection d' with d1 _
 have:its=its':=by simpa using congrArg Array.toList d1
 subst this;exact r.inj r'
theorem gS.tuple_inj (I:gS X ω σ H s)(h:mU X.K H a xs)(h':mU X.K H a ys):xs=ys:=by
 obtain⟨its,r,⟨o,e,_,n,d⟩,_⟩:=I.tuple h;obtain⟨its',r',⟨o',e',_,n',d'⟩,_⟩:=I.tuple h';rw[e] at e';cases e';rw[d] at d'
 injection d' with d1 _
 have:its=its':=by simpa using congrArg Array.toList d1
 subst this;exact r.inj r'
end
abbrev Cx.wish (X:Cx)(E:Gg->Gh->Prop):Cx:={ X with xe:=E }
abbrev Cx.nox (X:Cx):Cx:=X.wish λ_ _=>False
theorem Cx.Ok.wish {X:Cx}(ok:X.Ok)(E:Gg->Gh->Prop):(X.wish E).Ok :=
 ⟨ok.mod,ok.kind,ok.glob,ok.blt,ok.above,ok.inj,ok.has,ok.cab,ok.hd,ok.frames,ok.stk,ok.exf,ok.bs,ok.bsz,ok.noex,ok.exfs,ok.funs,ok.frf⟩
theorem Cx.Ok.unwish {X:Cx}{E:Gg->Gh->Prop}(ok:(X.wish E).Ok):X.Ok :=
 ⟨ok.mod,ok.kind,ok.glob,ok.blt,ok.above,ok.inj,ok.has,ok.cab,ok.hd,ok.frames,ok.stk,ok.exf,ok.bs,ok.bsz,ok.noex,ok.exfs,ok.funs,ok.frf⟩
section
variable {X:Cx}{ω:List (Gj×Obj)}{σ:St}{H:Hp}{s:Gh}{E:Gg->Gh->Prop}
theorem gS.wish (I:gS X ω σ H s)(E:Gg->Gh->Prop):gS (X.wish E) ω σ H s:=⟨I.ok.wish E,I.os,I.bare,I.base,I.loc,I.cell,I.free,I.freeC,I.pin,I.hok,I.len⟩
theorem gS.unwish (I:gS (X.wish E) ω σ H s):gS X ω σ H s:=⟨I.ok.unwish,I.os,I.bare,I.base,I.loc,I.cell,I.free,I.freeC,I.pin,I.hok,I.len⟩
theorem SP.unwish {D:xp}{f:Flow}{s':Gh}(h:SP (X.wish E) ω D f s'):SP X ω D f s':=by
 cases f with
 | next=>obtain⟨σ',H',I,q⟩:=h;exact⟨σ',H',I.unwish,q⟩
 | brk=>obtain⟨σ',H',I,q⟩:=h;exact⟨σ',H',I.unwish,q⟩
 | cont=>obtain⟨σ',H',I,q⟩:=h;exact⟨σ',H',I.unwish,q⟩
 | ret u=>obtain⟨v,σ',H',I,r,q⟩:=h;exact⟨v,σ',H',I.unwish,r,q⟩
theorem PE.nox {e:Expr}{t:TE}(h:PE X.nox e t):PE X e t:=λω s σ H Q I hw =>
 wpAny_mono (h ω s σ H Q (I.wish _) hw) (λ_ _ ⟨v,H',I',r,q⟩=>⟨v,H',I'.unwish,r,q⟩) λ_ _ z=>False.elim z
theorem PT.nox {e:Expr}{t:TT}(h:PT X.nox e t):PT X e t:=λω s σ H Q I hw =>
 wpAny_mono (h ω s σ H Q (I.wish _) hw) (λ_ _ ⟨H',I',q⟩=>⟨H',I'.unwish,q⟩) λ_ _ z=>False.elim z
theorem rG.nox {st:List Stmt}{t:TS}(h:rG X.nox st t):rG X st t:=λω s σ H D I hw =>
 wpAny_mono (h ω s σ H D (I.wish _) hw) (λ_ _ q=>q.unwish) λ_ _ z=>False.elim z
end
section
variable {X:Cx}{st:Stmt}{rest:List Stmt}{t u:TS}{e:Expr}{te:TE}{pos:Pos}
def OA:TS:=λD σ H=>D.nx σ H
def UC (t u:TS):TS:=λD σ H=>t { D with nx:=u D } σ H
theorem Hb:rG X [] OA:=λ_ _ σ H _ I h=>wpAny_execs_nil ⟨σ,H,I,h⟩
theorem Ei (h1:PS X st t)(h2:rG X rest u):rG X (st::rest) (UC t u):=by
 intro ω s σ H D I h;refine wpAny_execs_cons (iR (h1 ω s σ H { D with nx:=u D } I h) λf s1 q=>?_);cases f with
 | next =>
  obtain⟨σ',H',I',q⟩:=q;exact h2 ω s1 σ' H' D I' q
 | ret v=>exact q
 | brk=>exact q
 | cont=>exact q
theorem GN (h1:PS X st t):rG X [st] t:=by
 intro ω s σ H D I h;refine wpAny_execs_cons (iR (h1 ω s σ H D I h) λf s1 q=>?_);cases f with
 | next=>exact wpAny_execs_nil q
 | ret v=>exact q
 | brk=>exact q
 | cont=>exact q
theorem gS.quiet {ω:List (Gj×Obj)}{σ:St}{H:Hp}{s:Gh}(I:gS X ω σ H s):interactive X.env=false:=by simp[interactive,I.ok.kind]
def OI (te:TE):TS:=λD σ H=>te σ H λ_ H1=>D.nx σ H1
theorem BA (he:PE X e te)(hs:swapsWith e Gb pos.line X.env=pure false:=by rfl):PS X (.Expr e pos) (OI te):=by
 intro ω s σ H D I h;exact wpAny_Expr_any (iR (he ω s σ H _ I h) λv s1 ⟨x,H1,I1,r1,q1⟩=>⟨σ,H1,I1,q1⟩) I.quiet hs
def UR (te:TE):TS:=λD σ H=>te σ H D.rt
theorem Ak (he:PE X e te):PS X (.Return (Ga e) pos) (UR te):=by
 intro ω s σ H D I h;exact wpAny_Return_some (iR (he ω s σ H _ I h) λv s1 ⟨x,H1,I1,r1,q1⟩=>⟨x,σ,H1,I1,r1,q1⟩)
def Vc (c:TT)(t u:TS):TS:=λD σ H=>c σ H λb H1=>if b=true then t D σ H1 else u D σ H1
theorem OL {c:Expr}{a b:List Stmt}{tc:TT}(hc:PT X c tc)(ha:rG X a t)(hb:rG X b u):PS X (.If c a b pos) (Vc tc t u):=by
 intro ω s σ H D I h;refine wpAny_If (iR (hc ω s σ H _ I h) λd s1 ⟨H1,I1,q1⟩=>?_);cases d with
 | true=>exact ha ω s1 σ H1 D I1 q1
 | false=>exact hb ω s1 σ H1 D I1 q1
end
abbrev TG:=V->St->Hp->(St->Hp->Prop)->Prop
abbrev xL:=List V->St->Hp->(St->Hp->Prop)->Prop
def PG (X:Cx)(target:Expr)(t:TG):Prop :=
 ∀ (ω:List (Gj×Obj)) (s:Gh) (σ:St) (H:Hp) (v:V) (u:Gg) (Q:St->Hp->Prop),gS X ω σ H s->iA v u->t v σ H Q ->
  wpAny (model X.prog X.w) X.A (assign target X.env u) (λ_ s'=>∃ σ' H',gS X ω σ' H' s'/\Q σ' H') X.xe s
def zW (X:Cx)(ts:List Expr)(t:xL):Prop :=
 ∀ (ω:List (Gj×Obj)) (s:Gh) (σ:St) (H:Hp) (vs:List V) (us:List Gg) (Q:St->Hp->Prop),gS X ω σ H s->ip vs us->t vs σ H Q ->
  wpAny (model X.prog X.w) X.A (assignInOrder ((assignEach ts X.env).map (·.2)) us) (λ_ s'=>∃ σ' H',gS X ω σ' H' s'/\Q σ' H') X.xe s
abbrev BR:=V->V->V->Hp->(Hp->Prop)->Prop
def Mw (X:Cx)(t:BR):Prop :=
 ∀ (ω:List (Gj×Obj)) (s:Gh) (σ:St) (H:Hp) (o i v:V) (ov iv u:Gg) (Q:Hp->Prop),gS X ω σ H s->iA o ov->iA i iv->iA v u->t o i v H Q ->
  wpAny (model X.prog X.w) X.A (setItem ov iv u) (λ_ s'=>∃ H',gS X ω σ H' s'/\Q H') X.xe s
section
variable {X:Cx}{pos:Pos}
def Ew (i:Nat):TG:=λv σ H Q=>Q (σ.set i (Ga v)) H
theorem GM {i:Nat}{x:Str}(hN:X.N.Nodup)(hi:X.N[i]?=Ga x)(hx:wS X.env.scope x)(hf:X.fn x=true\/X.env.scope.names.lookup x=Ga .local:=by first|exact .inl rfl|exact .inr rfl|assumption):PG X (.Name x pos) (Ew i):=by
 intro ω s σ H v u Q I r h;exact wpAny_assign_Name (Ad I hN hi hx r (λs' I'=>⟨_,H,I',h⟩) hf)
def UE:xL:=λvs σ H Q=>vs=[]/\Q σ H
def OH (t:TG)(u:xL):xL:=λvs σ H Q=>∃ v r,vs=v::r/\t v σ H λσ' H'=>u r σ' H' Q
theorem GT:zW X [] UE:=by
 intro ω s σ H vs us Q I r h;obtain⟨e,h⟩:=h;subst e;cases r;exact assignInOrder_nil ⟨σ,H,I,h⟩
theorem DX {e:Expr}{es:List Expr}{t:TG}{u:xL}(h1:PG X e t)(h2:zW X es u)
  (hs:(assignEach (e::es) X.env).map (·.2)=assign e X.env::(assignEach es X.env).map (·.2):=by rfl):zW X (e::es) (OH t u):=by
 intro ω s σ H vs us Q I r h;obtain⟨v,vr,e1,h⟩:=h;subst e1;cases r with
 | cons r rr =>
  rw[hs];refine assignInOrder_cons (iR (h1 ω s σ H _ _ _ I r h) λ_ s1 ⟨σ1,H1,I1,q1⟩=>?_);exact h2 ω s1 σ1 H1 _ _ Q I1 rr q1
def Vq (K:jb)(n:Nat)(t:xL):TG:=λv σ H Q=>∃ a xs,v=.ref a/\mU K H a xs/\xs.length=n/\t xs σ H Q
theorem Iz {es:List Expr}{k:Nat}{t:xL}{n:Nat}(hc:X.calm=true)(h:zW X es t)
  (hn:(assignEach es X.env).length=n:=by rfl) (hst:(assignEach es X.env).findIdx? (·.1)=Gb:=by rfl):PG X (.Tuple es k pos) (Vq X.K n t):=by
 intro ω s σ H v u Q I r hw;obtain⟨a,xs,e1,hq,hl,hw⟩:=hw;subst e1;cases r;obtain⟨its,rv,ht,hz⟩:=I.tuple hq;refine assign_Tuple_tuple (I.ok.hd hc) ht (by simp[hn,<- hl,rv.length]) hst λh' hx=>?_;have I1:gS X ω σ H { s with heap:=h' }:=I.kept (t':=s.toks) λb o e=>hx b o (jH (jp e)) e;exact h ω _ σ H xs _ Q I1 (by simpa using rv) hw
def UH (to ti:TE)(t:BR):TG:=λv σ H Q=>to σ H λo H1=>ti σ H1 λi H2=>t o i v H2 λH3=>Q σ H3
theorem Ln {o i:Expr}{to ti:TE}{t:BR}(ho:PE X o to)(hi:PE X i ti)(hs:Mw X t)
  (ha:∀ v,assign (.Subscript o i pos) X.env v=(do
   let ov <- holding [v] (eval o X.env)
   let iv <- holding [v,ov] (eval i X.env)
   standAt pos
   holding [v,ov,iv] (setItem ov iv v)
   release [v,ov,iv] []):=by intro _;rfl):PG X (.Subscript o i pos) (UH to ti t):=by
 intro ω s σ H v u Q I r h;rw[ha];refine gI (wpAny_holding (iR (ho ω s σ H _ I h) λov s1 ⟨x,H1,I1,r1,q1⟩=>?_));refine gI (wpAny_holding (iR (hi ω s1 σ H1 _ I1 q1) λiv s2 ⟨y,H2,I2,r2,q2⟩=>?_));refine gI (wpAny_standAt (gI (wpAny_holding (iR (hs ω s2 σ H2 x y v ov iv u _ I2 r1 r2 r q2) λ_ s3 ⟨H3,I3,q3⟩=>?_))));exact wpAny_release ⟨σ,H3,I3,q3⟩
def La (te:TE)(g:TG):TS:=λD σ H=>te σ H λx H1=>g x σ H1 D.nx
theorem Dz {tg e:Expr}{te:TE}{g:TG}(he:PE X e te)(hg:PG X tg g)(hs:swapsWithSole [tg] e pos.line X.env=pure false:=by rfl)(hw:swappedStores [tg] e X.env=pure Gb:=by rfl)
  (h1:(assignEach [tg] X.env).map (·.2)=[assign tg X.env]:=by rfl):PS X (.Assign [tg] e pos) (La te g):=by
 intro ω s σ H D I h;refine wpAny_Assign_stores (iR (he ω s σ H _ I h) λv s1 ⟨x,H1,I1,r1,q1⟩=>?_) hs hw;rw[h1];exact iR (hg ω s1 σ H1 x v _ I1 r1 q1) λ_ s2 q=>q
theorem yp {i:Nat}{x:Str}{e:Expr}{te:TE}{pos':Pos}(hN:X.N.Nodup)(hi:X.N[i]?=Ga x)(hx:wS X.env.scope x)(he:PE X e te)(hs:swapsWith e (Ga (.Name x pos')) pos.line X.env=pure false:=by rfl)(hf:X.fn x=true\/X.env.scope.names.lookup x=Ga .local:=by first|exact .inl rfl|exact .inr rfl|assumption) :
  PS X (.Assign [.Name x pos'] e pos) (La te (Ew i)):=by
 intro ω s σ H D I h;refine wpAny_Assign_Name (iR (he ω s σ H _ I h) λv s1 ⟨y,H1,I1,r1,q1⟩=>?_) hs;exact Ad I1 hN hi hx r1 (λs2 I2=>⟨_,H1,I2,q1⟩) hf
end
section
variable {X:Cx}{pos:Pos}
def Oi (c:TT)(tb:TS):TS:=λD σ H=>∃ W:Nat->St->Hp->Prop,(∃ m,W m σ H)/\∀ m σ H,W m σ H ->
 c σ H λb H1=>if b=true then ∃ N:St->Hp->Prop,(∀ σ' H',N σ' H'->∃ m',m'<m/\W m' σ' H')/\tb { D with nx:=N,ct:=N,bk:=D.nx } σ H1 else D.nx σ H1
theorem DU {c:Expr}{body:List Stmt}{tc:TT}{tb:TS}(hp:PassesOwn (model X.prog X.w) X.A X.env X.xe)(hc:PT X c tc)(hb:rG X body tb):PS X (.While c body [] pos) (Oi tc tb):=by
 intro ω s σ H D I h;obtain⟨W,⟨m0,w0⟩,turn⟩:=h;refine wpAny_While (codeAny_whileLoop (λn s'=>∃ σ' H',gS X ω σ' H' s'/\W n σ' H') ?_ m0 ⟨σ,H,I,w0⟩);rintro n s1 ⟨σ1,H1,I1,w1⟩;refine wpAny_passesOwn hp (iR (hc ω s1 σ1 H1 _ I1 (turn n σ1 H1 w1)) λb s2 ⟨H2,I2,q2⟩=>?_);cases b with
 | true =>
  obtain⟨N,hN,q2⟩:=q2;rw[Ge rfl];refine wpAny_passesOwn hp (iR (hb ω s2 σ1 H2 _ I2 q2) λf s3 q3=>?_);cases f with
  | next =>
   obtain⟨σ3,H3,I3,n3⟩:=q3;obtain⟨m',hm,w3⟩:=hN σ3 H3 n3;exact⟨m',hm,σ3,H3,I3,w3⟩
  | cont =>
   obtain⟨σ3,H3,I3,n3⟩:=q3;obtain⟨m',hm,w3⟩:=hN σ3 H3 n3;exact⟨m',hm,σ3,H3,I3,w3⟩
  | brk=>exact q3
  | ret v=>exact q3
 | false =>
  rw[Gf jr];exact wpAny_execs_nil ⟨σ1,H2,I2,q2⟩
end
structure It where
 go:Nat->Hp->Prop
 yld:Nat->Hp->V->Hp->Prop
 stop:Nat->Hp->Prop
def tW (X:Cx)(ω:List (Gj×Obj))(H:Hp)(b:Gj):Prop :=
 H b=Gb/\b≠X.env.locals/\b∉X.fs/\(b∈X.ex\/X.s₀.heap.objs.size<=b)/\(∀ x c,X.env.cells.lookup x=Ga c->c≠b)/\∀ p∈X.pn++ω,p.1≠b
theorem gS.fpOk {X:Cx}{ω:List (Gj×Obj)}{σ:St}{H H':Hp}{s:Gh}{b:Gj}(I:gS X ω σ H s)(hb:s.heap.objs.size<=b)(hn:H' b=Gb):tW X ω H' b:=by
 refine⟨hn,vf (jB I.lt hb),I.nofs hb,.inr (jF I.sz hb),λx c e z=>?_,λp hp z=>?_⟩
 .obtain⟨v,q⟩:=I.cell x c e;exact absurd (jB q.lt (by rw[z];exact hb)) (jY _)
 .exact absurd (jB (jp (I.pin p hp).1) (by rw[z];exact hb)) (jY _)
structure yG (P:Program)(w:World)(K:jb)(tg:Expr)(J:It)(fp:List Gj)(it:Gj)(tn:Nat->Heap->Prop):Prop where
 mem:it∈fp
 obj:∀ i h,tn i h->∀ b∈fp,∃ o,h.get? b=Ga o/\∀ v,o.data≠.cell v
 keep:∀ i h h',tn i h->(∀ b∈fp,∀ o,h.get? b=Ga o->h'.get? b=Ga o)->tn i h'
 item:∀ (X:Cx),X.prog=P->X.w=w->X.K=K->X.calm=true->∀ (i:Nat) (ω:List (Gj×Obj)) (s:Gh) (σ:St) (H:Hp) (E:Gg->Gh->Prop),gS X ω σ H s->(∀ b∈fp,tW X ω H b)->tn i s.heap->J.go i H ->
  wpAny (model P w) X.A (pyNext (.ref it)) (λr s1=>∃ u,r=Ga u /\
   wpAny (model P w) X.A (letOwnedTupleGo tg (.ref it) u) (λ_ s2=>∃ x H',gS X ω σ H' s2/\iA x u/\J.yld i H x H'/\tn (i+1) s2.heap/\∀ b∈fp,H' b=Gb) E s1) E s
 done:∀ (X:Cx),X.prog=P->X.w=w->X.K=K->X.calm=true->∀ (i:Nat) (ω:List (Gj×Obj)) (s:Gh) (σ:St) (H:Hp) (E:Gg->Gh->Prop),gS X ω σ H s->(∀ b∈fp,tW X ω H b)->tn i s.heap->J.stop i H ->
  wpAny (model P w) X.A (pyNext (.ref it)) (λr s1=>r=Gb/\gS X ω σ H s1) E s
 self:∀ (A:Around) (i:Nat) (s:Gh) (Q:Gg->Gh->Prop) (E:Gg->Gh->Prop),tn i s.heap->Q (.ref it) s->wpAny (model P w) A (pyIter (.ref it)) Q E s
abbrev TI:=St->Hp->(It->Hp->Prop)->Prop
def Uf (X:Cx)(ω:List (Gj×Obj))(σ:St)(tg:Expr)(R:It->Hp->Prop)(itv:Gg)(s2:Gh):Prop :=
 ∃ (it:Gj) (fp:List Gj) (tn:Nat->Heap->Prop) (J:It) (H':Hp),itv=.ref it/\gS X ω σ H' s2/\yG X.prog X.w X.K tg J fp it tn/\tn 0 s2.heap/\(∀ b∈fp,tW X ω H' b)/\R J H'
def PI (X:Cx)(tg iter:Expr)(wi:TI):Prop :=
 ∀ (ω:List (Gj×Obj)) (s:Gh) (σ:St) (H:Hp) (R:It->Hp->Prop),gS X ω σ H s->wi σ H R ->
  wpAny (model X.prog X.w) X.A (eval iter X.env) (λv s1=>wpAny (model X.prog X.w) X.A (pyIter v) (Uf X ω σ tg R) X.xe s1) X.xe s
theorem zG {M:Model}{A:Around}{E:Gg->Gh->Prop}{s:Gh}{tg:Expr}{it:Gj}{u:Gg}{o:Obj}{n:String}{vs:Array Gg}{Q:Unit->Gh->Prop}(ho:s.heap.get? it=Ga o)(hc:o.cls=.type n)(hd:o.data=.fields vs)
  (hn:["enumerate","zip","dict_itemiterator","dict_reverseitemiterator","odict_iterator","itertools.zip_longest","itertools.pairwise"].contains n=false) (hQ:Q () s):wpAny M A (letOwnedTupleGo tg (.ref it) u) Q E s:=by
 unfold letOwnedTupleGo;cases tg<;>first
  | exact gJ hQ
  | (cases u<;>first
    | exact gJ hQ
    | (refine gI (wpAny_load ho ?_)
       rw[hc,hd];show wpAny M A (if (["enumerate","zip","dict_itemiterator","dict_reverseitemiterator","odict_iterator","itertools.zip_longest","itertools.pairwise"].contains n&&vs[0]?==Ga (rawInt _))=true then _ else _) Q E s;rw[Gf (by intro h;rw[hn,qc] at h;cases h)];exact gJ hQ))
def Hk (K:jb)(a:Gj):It :=
 ⟨λi H=>∃ xs x,lH K H a xs/\xs[i]?=Ga x,λi H x H'=>H'=H/\∀ xs,lH K H a xs->xs[i]?=Ga x,λi H=>∃ xs,lH K H a xs/\xs.length<=i⟩
def IP (K:jb)(a:Gj):It :=
 ⟨λi H=>∃ xs x,mU K H a xs/\xs[i]?=Ga x,λi H x H'=>H'=H/\∀ xs,mU K H a xs->xs[i]?=Ga x,λi H=>∃ xs,mU K H a xs/\xs.length<=i⟩
def DS (lo:Int)(n:Nat):It:=⟨λi _=>i<n,λi H x H'=>H'=H/\x=.int (lo+i),λi _=>n<=i⟩
theorem CI {P:Program}{w:World}{K:jb}{tg:Expr}(a it:Gj):yG P w K tg (Hk K a) [it] it (λi h=>h.IsListIter it a i) where
 mem:=by simp
 obj:=λi h st b hb=>by
  have e:b=it:=by simpa using hb
  subst e;obtain⟨o,e,c,d⟩:=st;exact⟨o,e,λv z=>by rw[d] at z;cases z⟩
 keep:=λi h h' st k=>st.at λo e=>k it (by simp) o e
 item:=by
  intro X hP hw hK hc i ω s σ H E I hf st hg;subst hP hw hK;obtain⟨xs,x,hq,hx⟩:=hg;obtain⟨its,rv,p,hz⟩:=I.list hq;obtain⟨u,hu,ru⟩:=rv.get hx;obtain⟨f0,f1,f2,f3,f4,f5⟩:=hf it (by simp);refine wpAny_pyNext_list_item st p.isList (x:=u) (by simpa using hu) λh' st' sb=>?_;have I1:gS X ω σ H { s with heap:=h' }:=I.turned (t':=s.toks) (λb o hb e=>(sb.2 b hb).trans e) f0 f1 f3 f4 f5;obtain⟨o,e,c,d⟩:=id st';exact⟨u,rfl,zG (s:={ s with heap:=h' }) e c d (by decide) ⟨x,H,I1,ru,⟨rfl,λys hy=>by rw[I.list_inj hy hq];exact hx⟩,st',λb hb=>(hf b hb).1⟩⟩
 done:=by
  intro X hP hw hK hc i ω s σ H E I hf st hg;subst hP hw hK;obtain⟨xs,hq,hx⟩:=hg;obtain⟨its,rv,p,hz⟩:=I.list hq;obtain⟨f0,f1,f2,f3,f4,f5⟩:=hf it (by simp);have hl:=rv.length;exact wpAny_pyNext_list_end (I.ok.hd hc) st p.isList (by simp;omega) λh' eb=>⟨rfl,I.turned (t':=s.toks) (λb o hb e=>eb b o hb e) f0 f1 f3 f4 f5⟩
 self:=λ_ _ _ _ _ st h=>wpAny_pyIter_listiter st h
theorem Cf {P:Program}{w:World}{K:jb}{tg:Expr}(a it:Gj):yG P w K tg (IP K a) [it] it (λi h=>h.IsTupleIter it a i) where
 mem:=by simp
 obj:=λi h st b hb=>by
  have e:b=it:=by simpa using hb
  subst e;obtain⟨o,e,c,d⟩:=st;exact⟨o,e,λv z=>by rw[d] at z;cases z⟩
 keep:=λi h h' st k=>st.at λo e=>k it (by simp) o e
 item:=by
  intro X hP hw hK hc i ω s σ H E I hf st hg;subst hP hw hK;obtain⟨xs,x,hq,hx⟩:=hg;obtain⟨its,rv,p,hz⟩:=I.tuple hq;obtain⟨u,hu,ru⟩:=rv.get hx;obtain⟨f0,f1,f2,f3,f4,f5⟩:=hf it (by simp);refine wpAny_pyNext_tuple_item st (show s.heap.IsTuple a its.toArray from p) (x:=u) (by simpa using hu) λh' st' sb=>?_;have I1:gS X ω σ H { s with heap:=h' }:=I.turned (t':=s.toks) (λb o hb e=>(sb.2 b hb).trans e) f0 f1 f3 f4 f5;obtain⟨o,e,c,d⟩:=id st';exact⟨u,rfl,zG (s:={ s with heap:=h' }) e c d (by decide) ⟨x,H,I1,ru,⟨rfl,λys hy=>by rw[I.tuple_inj hy hq];exact hx⟩,st',λb hb=>(hf b hb).1⟩⟩
 done:=by
  intro X hP hw hK hc i ω s σ H E I hf st hg;subst hP hw hK;obtain⟨xs,hq,hx⟩:=hg;obtain⟨its,rv,p,hz⟩:=I.tuple hq;obtain⟨f0,f1,f2,f3,f4,f5⟩:=hf it (by simp);have hl:=rv.length;exact wpAny_pyNext_tuple_end (I.ok.hd hc) st (show s.heap.IsTuple a its.toArray from p) (by simp;omega) λh' eb=>⟨rfl,I.turned (t':=s.toks) (λb o hb e=>eb b o hb e) f0 f1 f3 f4 f5⟩
 self:=λ_ _ _ _ _ st h=>wpAny_pyIter_tupleiter st h
theorem BP {P:Program}{w:World}{K:jb}{tg:Expr}(it:Gj)(lo:Int)(n:Nat):yG P w K tg (DS lo n) [it] it (λi h=>IsRangeIter h it (lo+(i:Nat)*1) ((n:Int)-(i:Nat)) 1) where
 mem:=by simp
 obj:=λi h st b hb=>by
  have e:b=it:=by simpa using hb
  subst e;exact⟨_,st,λv z=>by
   have z':Data.fields _=Data.cell v:=z;cases z'⟩
 keep:=λi h h' st k=>k it (by simp) _ st
 item:=by
  intro X hP hw hK hc i ω s σ H E I hf st hg;subst hP hw hK;obtain⟨f0,f1,f2,f3,f4,f5⟩:=hf it (by simp);have W:=Walks.range (prog:=X.prog) (w:=X.w) (I.ok.hd hc) it lo 1 n;refine W.item i s _ _ hg st λv h' tk hv st' kk=>?_;obtain⟨t,rfl⟩:=hv;have I1:gS X ω σ H { s with heap:=h',toks:=tk }:=I.turned (λb o hb e=>kk b o (by simpa using hb) e) f0 f1 f3 f4 f5;refine⟨_,rfl,zG (s:={ s with heap:=h',toks:=tk }) (n:="range_iterator") st' rfl rfl (by decide) ⟨.int (lo+i),H,I1,⟨t,?_⟩,⟨rfl,rfl⟩,st',λb hb=>(hf b hb).1⟩⟩;rw[Int.mul_one]
 done:=by
  intro X hP hw hK hc i ω s σ H E I hf st hg;subst hP hw hK;obtain⟨f0,f1,f2,f3,f4,f5⟩:=hf it (by simp);exact wpAny_pyNext_range_end (I.ok.hd hc) st (by have:n<=i:=hg;omega) λh' eb=>⟨rfl,I.turned (t':=s.toks) (λb o hb e=>eb b o hb e) f0 f1 f3 f4 f5⟩
 self:=λ_ _ _ _ _ st h=>wpAny_pyIter_rangeiter st h
section
variable {X:Cx}{tg:Expr}
theorem Am {ω:List (Gj×Obj)}{σ:St}{H:Hp}{s:Gh}{R:It->Hp->Prop}{E:Gg->Gh->Prop}{lo hi:Int}{t u v:Tok}{tk:Nat}(I:gS X ω σ H s)(h1:-(2^62)<=lo)(h2:lo<2^62)(h3:-(2^62)<=hi)(h4:hi<2^62)
  (q:R (DS lo (hi-lo).toNat) H):wpAny (model X.prog X.w) X.A (pyIter (.ref s.heap.objs.size)) (Uf X ω σ tg R) E { s with heap:=s.heap.push { cls:=.type "range",data:=.fields #[.int lo t,.int hi u,.int 1 v] },toks:=tk }:=by
 refine wpAny_pyIter_range (IsRange.new ..) (small_one h1 h2 h3 h4) ?_;have I1:gS X ω σ H { s with heap:=s.heap.push { cls:=.type "range",data:=.fields #[.int lo t,.int hi u,.int 1 v] },toks:=tk }:=I.kept λb o e=>jf _ e;refine⟨(s.heap.push { cls:=.type "range",data:=.fields #[.int lo t,.int hi u,.int 1 v] }).objs.size,[(s.heap.push { cls:=.type "range",data:=.fields #[.int lo t,.int hi u,.int 1 v] }).objs.size],_,_,H,rfl,
  I1.kept (t':=tk) λb o e=>jf _ e,BP _ lo (hi-lo).toNat,?_,λb hb=>?_,q⟩
 .have e1:lo+((0:Nat):Int)*1=lo:=by simp
  have e2:(((hi-lo).toNat:Nat):Int)-((0:Nat):Int)=jQ lo hi 1:=by rw[rangeSize_one];split<;>omega
  show IsRangeIter _ _ (lo+((0:Nat):Int)*1) ((((hi-lo).toNat:Nat):Int)-((0:Nat):Int)) 1;rw[e1,e2];exact jy _ rfl
 .have e:b=(s.heap.push { cls:=.type "range",data:=.fields #[.int lo t,.int hi u,.int 1 v] }).objs.size:=by simpa using hb
  subst e;exact I1.fpOk (jm _) (I1.hok.fresh (jm _))
def OE (ta:TA):TI:=λσ H R=>ta σ H λvs H1=>∃ j:Int,vs=[.int j]/\-(2^62)<=j/\j<2^62/\R (DS 0 j.toNat) H1
def Oz (ta:TA):TI:=λσ H R=>ta σ H λvs H1=>∃ i j:Int,vs=[.int i,.int j]/\(-(2^62)<=i/\i<2^62/\-(2^62)<=j/\j<2^62)/\R (DS i (j-i).toNat) H1
theorem Dt {a:Expr}{ta:TA}{p pos:Pos}(hg:Gl X "range")(hm:X.mg "range"=Gb)(ha:PA X [a] ta)(hs:starEach [a] X.env=[(false,eval a X.env)]:=by rfl):PI X tg (.Call (.Name "range" p) [a] [] pos) (OE ta):=by
 intro ω s σ H R I h;refine Call_ (re I hg hm boot_range (PyProof.Rows.callWith_type1 (iR (ha pos ω s σ H _ I h) λus s1 ⟨vs,H1,I1,r1,q1⟩=>?_) hs rfl));obtain⟨j,e,q1,q2,q⟩:=q1;subst e;cases r1 with
 | cons r rr =>
  cases rr;obtain⟨t,rfl⟩:=r;exact call_range_1 (Am I1 (by omega) (by omega) q1 q2 (by simpa using q))
theorem CP {a b:Expr}{ta:TA}{p pos:Pos}(hg:Gl X "range")(hm:X.mg "range"=Gb)(ha:PA X [a,b] ta)(hs:starEach [a,b] X.env=[(false,eval a X.env),(false,eval b X.env)]:=by rfl)(hs2:starEach [b] X.env=[(false,eval b X.env)]:=by rfl) :
  PI X tg (.Call (.Name "range" p) [a,b] [] pos) (Oz ta):=by
 intro ω s σ H R I h;refine Call_ (re I hg hm boot_range (PyProof.Rows.callWith_type1 (iR (ha pos ω s σ H _ I h) λus s1 ⟨vs,H1,I1,r1,q1⟩=>?_) (by rw[hs,hs2]) (by rw[hs2];rfl)));obtain⟨i,j,e,⟨q1,q2,q3,q4⟩,q⟩:=q1;subst e;cases r1 with
 | cons r rr =>
  cases rr with
  | cons r' rr =>
   cases rr;obtain⟨t,rfl⟩:=r;obtain⟨t',rfl⟩:=r';exact call_range_2 (Am I1 q1 q2 q3 q4 q)
def Vd (wi:TI)(g:TG)(tb:TS):TS:=λD σ H=>wi σ H λJ H1=>∃ W:Nat->Nat->St->Hp->Prop,(∃ m,W 0 m σ H1)/\∀ i m σ H,W i m σ H ->
 (J.stop i H/\D.nx σ H)\/(J.go i H/\∃ N:St->Hp->Prop,(∀ σ' H',N σ' H'->∃ m',m'<m/\W (i+1) m' σ' H')/\∀ x H',J.yld i H x H'->g x σ H' λσ2 H2=>tb { D with nx:=N,ct:=N,bk:=D.nx } σ2 H2)
def sU (fp:List Gj)(h:Heap):List (Gj×Obj):=fp.filterMap λb=>(h.get? b).map λo=>(b,o)
theorem rJ {fp:List Gj}{h:Heap}{b:Gj}{o:Obj}(hb:b∈fp)(e:h.get? b=Ga o):(b,o)∈sU fp h:=uR.mpr ⟨b,hb,by rw[e];rfl⟩
theorem DB {fp:List Gj}{h:Heap}{p:Gj×Obj}(hp:p∈sU fp h):p.1∈fp/\h.get? p.1=Ga p.2:=by
 obtain⟨b,hb,e⟩:=uR.mp hp;cases q:h.get? b with
 | none=>rw[q] at e;cases e
 | some o =>
  rw[q] at e;have e':(b,o)=p:=jJ e;subst e';exact⟨hb,q⟩
theorem gS.pinned {ω:List (Gj×Obj)}{σ:St}{H:Hp}{s:Gh}{fp:List Gj}(I:gS X ω σ H s)(hf:∀ b∈fp,tW X ω H b)(ho:∀ b∈fp,∃ o,s.heap.get? b=Ga o/\∀ v,o.data≠.cell v):gS X (ω++sU fp s.heap) σ H s :=
 I.pins_of λp hp=>(jI.mp hp).elim (λz=>I.pin p (jG _ z)) λz=>by
  obtain⟨hb,e⟩:=DB z;obtain⟨f0,f1,f2,_⟩:=hf p.1 hb;obtain⟨o,e',d⟩:=ho p.1 hb;rw[e] at e';cases e';exact⟨e,f0,f1,f2,d⟩
theorem gS.unpinned {ω pl:List (Gj×Obj)}{σ:St}{H:Hp}{s:Gh}(I:gS X (ω++pl) σ H s):gS X ω σ H s:=I.pins_of λp hp=>I.pin p (jG _ (uC _ hp))
theorem LL {iter:Expr}{body:List Stmt}{wi:TI}{g:TG}{tb:TS}{pos:Pos}(hp:PassesOwn (model X.prog X.w) X.A X.env X.xe)(hc:X.calm=true)(hi:PI X tg iter wi)(hg:PG X tg g)(hb:rG X body tb)
  (hs:∀ x,foldedSetIterable iter X.env x=pure x:=by intro _;rfl):PS X (.For tg iter body [] pos) (Vd wi g tb):=by
 intro ω s σ H D I h;refine wpAny_For (iR (hi ω s σ H _ I h) λv s1 h1=>iR h1 λitv s2 h2=>?_) hs;obtain⟨it,fp,tn,J,H2,e,I2,T,st2,f2,W,⟨m0,w0⟩,turn⟩:=h2;subst e;have stat:∀ {H':Hp},(∀ b∈fp,H' b=Gb)->∀ b∈fp,tW X ω H' b:=λhn b hb=>⟨hn b hb,(f2 b hb).2⟩;refine codeAny_forLoop_any (λn s'=>∃ i σ' H',gS X ω σ' H' s'/\tn i s'.heap/\(∀ b∈fp,H' b=Gb)/\W i n σ' H') ?_ m0 ⟨0,σ,H2,I2,st2,λb hb=>(f2 b hb).1,w0⟩;rintro n s3 ⟨i,σ3,H3,I3,st3,fr3,w3⟩;rcases turn i n σ3 H3 w3 with ⟨stop,qn⟩|⟨go,N,hN,step⟩
 .refine wpAny_passesOwn hp (iR (T.done X rfl rfl rfl hc i ω s3 σ3 H3 X.xe I3 (stat fr3) st3 stop) λr s4 ⟨hr,I4⟩=>?_);subst hr;exact wpAny_execs_nil ⟨σ3,H3,I4,qn⟩
 .refine wpAny_passesOwn hp (iR (T.item X rfl rfl rfl hc i ω s3 σ3 H3 X.xe I3 (stat fr3) st3 go) λr s4 ⟨u,hr,h4⟩=>?_);subst hr;refine wpAny_passesOwn hp (iR h4 λ_ s5 ⟨x,H5,I5,r5,y5,st5,fr5⟩=>?_);have I5':=I5.pinned (stat fr5) (T.obj _ _ st5);refine wpAny_passesOwn hp (iR (hg _ s5 σ3 H5 x u _ I5' r5 (step x H5 y5)) λ_ s6 ⟨σ6,H6,I6,q6⟩=>?_);refine wpAny_passesOwn hp (iR (hb _ s6 σ6 H6 _ I6 q6) λf s7 q7=>?_);have again:∀ {σ7:St} {H7:Hp},gS X (ω++sU fp s5.heap) σ7 H7 s7->N σ7 H7->∃ m,m<n/\∃ i σ' H',gS X ω σ' H' s7/\tn i s7.heap/\(∀ b∈fp,H' b=Gb)/\W i m σ' H':=λ{σ7 H7} I7 n7=>by
   obtain⟨m',hm,w7⟩:=hN σ7 H7 n7;refine⟨m',hm,i+1,σ7,H7,I7.unpinned,T.keep _ _ _ st5 λb hb o e=>(I7.pin (b,o) (jG _ (jG _ (rJ hb e)))).1,λb hb=>?_,w7⟩;obtain⟨o,e,d⟩:=T.obj _ _ st5 b hb;exact(I7.pin (b,o) (jG _ (jG _ (rJ hb e)))).2.1
  cases f with
  | next=>obtain⟨σ7,H7,I7,n7⟩:=q7;exact again I7 n7
  | cont=>obtain⟨σ7,H7,I7,n7⟩:=q7;exact again I7 n7
  | brk=>obtain⟨σ7,H7,I7,q7⟩:=q7;exact⟨σ7,H7,I7.unpinned,q7⟩
  | ret v=>obtain⟨x7,σ7,H7,I7,r7,q7⟩:=q7;exact⟨x7,σ7,H7,I7.unpinned,r7,q7⟩
end
abbrev R2:=V->V->Hp->VK->Prop
def lU (X:Cx)(f:Gg->Gg->Sem Gg)(r:R2):Prop :=
 ∀ (ω:List (Gj×Obj)) (s:Gh) (σ:St) (H:Hp) (x y:V) (v u:Gg) (Q:VK),gS X ω σ H s->iA x v->iA y u->r x y H Q ->
  wpAny (model X.prog X.w) X.A (f v u) (EP X ω σ Q) X.xe s
def Lb (X:Cx)(f:Gg->Sem Gg)(r:V->Hp->VK->Prop):Prop :=
 ∀ (ω:List (Gj×Obj)) (s:Gh) (σ:St) (H:Hp) (x:V) (v:Gg) (Q:VK),gS X ω σ H s->iA x v->r x H Q ->
  wpAny (model X.prog X.w) X.A (f v) (EP X ω σ Q) X.xe s
def my (X:Cx)(f:Gg)(r:List V->Hp->VK->Prop):Prop :=
 ∀ (ω:List (Gj×Obj)) (s:Gh) (σ:St) (H:Hp) (xs:List V) (us:List Gg) (Q:VK),gS X ω σ H s->ip xs us->r xs H Q ->
  wpAny (model X.prog X.w) X.A (call f us) (EP X ω σ Q) X.xe s
def UQ (X:Cx)(r:V->Hp->(Bool->Hp->Prop)->Prop):Prop :=
 ∀ (ω:List (Gj×Obj)) (s:Gh) (σ:St) (H:Hp) (x:V) (v:Gg) (Q:Bool->Hp->Prop),gS X ω σ H s->iA x v->r x H Q ->
  wpAny (model X.prog X.w) X.A (truthy v) (TP X ω σ Q) X.xe s
def DF (r:R2)(ta tb:TE):TE:=λσ H Q=>ta σ H λx H1=>tb σ H1 λy H2=>r x y H2 Q
def tUn (r:V->Hp->VK->Prop)(ta:TE):TE:=λσ H Q=>ta σ H λx H1=>r x H1 Q
def rI (C:Int->Int->Prop)(g:Int->Int->V):R2:=λx y H Q=>∃ i j,x=.int i/\y=.int j/\C i j/\Q (g i j) H
def tM (g:Int->Int->V):R2:=λx y H Q=>∃ i j,x=.int i/\y=.int j/\Q (g i j) H
def rU (g:Int->V):V->Hp->VK->Prop:=λx H Q=>∃ i,x=.int i/\Q (g i) H
section
variable {X:Cx}{a b c:Expr}{ta tb tc:TE}{pos:Pos}
theorem Ee (ha:PE X a ta)(hb:PE X b tb){ω:List (Gj×Obj)}{s:Gh}{σ:St}{H:Hp}{R:V->V->Hp->Prop}(I:gS X ω σ H s)
  (h:ta σ H λx H1=>tb σ H1 λy H2=>R x y H2) {Q:Gg->Gh->Prop} {f:Gg->Gg->Sem Gg}
  (hf:∀ v u s2 x y H2,gS X ω σ H2 s2->iA x v->iA y u->R x y H2->wpAny (model X.prog X.w) X.A (f v u) Q X.xe s2) :
  wpAny (model X.prog X.w) X.A (eval a X.env) (λv s₁=>wpAny (model X.prog X.w) X.A (eval b X.env) (λu s₂=>wpAny (model X.prog X.w) X.A (f v u) Q X.xe s₂) X.xe s₁) X.xe s:=by
 refine iR (ha ω s σ H _ I h) λv s1 ⟨x,H1,I1,r1,q1⟩=>?_;refine iR (hb ω s1 σ H1 _ I1 q1) λu s2 ⟨y,H2,I2,r2,q2⟩=>?_;exact hf v u s2 x y H2 I2 r1 r2 q2
theorem Gs {op:Operator}{r:R2}(ho:lU X (binaryOp op) r)(ha:PE X a ta)(hb:PE X b tb):PE X (.BinOp a op b pos) (DF r ta tb):=by
 intro ω s σ H Q I h;exact wpAny_BinOp (Ee ha hb I h λv u s2 x y H2 I2 rx ry q=>ho ω s2 σ H2 x y v u Q I2 rx ry q)
theorem OC {op:UnaryOp}{r:V->Hp->VK->Prop}(ho:Lb X (unaryOp op) r)(ha:PE X a ta):PE X (.UnaryOp op a pos) (tUn r ta):=by
 intro ω s σ H Q I h;exact UnaryOp_ (iR (ha ω s σ H _ I h) λv s1 ⟨x,H1,I1,r1,q1⟩=>ho ω s1 σ H1 x v Q I1 r1 q1)
theorem Gp {f:Gg->Gg->Sem Gg}{C:Int->Int->Prop}{g:Int->Int->Int}
  (rule:∀ (i j:Int) (t u:Tok) (s:Gh) (Q:Gg->Gh->Prop) (E:Gg->Gh->Prop),C i j->Q (.int (g i j) s.toks) { s with toks:=s.toks+1 }->wpAny (model X.prog X.w) X.A (f (.int i t) (.int j u)) Q E s) :
  lU X f (rI C λi j=>.int (g i j)):=by
 intro ω s σ H x y v u Q I rx ry h;obtain⟨i,j,rfl,rfl,hc,q⟩:=h;obtain⟨t,rfl⟩:=rx;obtain⟨t',rfl⟩:=ry;exact rule i j t t' s _ _ hc ⟨.int (g i j),H,I.tok _,⟨_,rfl⟩,q⟩
theorem zK {f:Gg->Gg->Sem Gg}{g:Int->Int->Int}
  (rule:∀ (i j:Int) (t u:Tok) (s:Gh) (Q:Gg->Gh->Prop) (E:Gg->Gh->Prop),Q (.int (g i j) s.toks) { s with toks:=s.toks+1 }->wpAny (model X.prog X.w) X.A (f (.int i t) (.int j u)) Q E s) :
  lU X f (tM λi j=>.int (g i j)):=by
 intro ω s σ H x y v u Q I rx ry h;obtain⟨i,j,rfl,rfl,q⟩:=h;obtain⟨t,rfl⟩:=rx;obtain⟨t',rfl⟩:=ry;exact rule i j t t' s _ _ ⟨.int (g i j),H,I.tok _,⟨_,rfl⟩,q⟩
theorem Ci {f:Gg->Gg->Sem Gg}{g:Int->Int->Bool}
  (rule:∀ (i j:Int) (t u:Tok) (s:Gh) (Q:Gg->Gh->Prop) (E:Gg->Gh->Prop),Q (.bool (g i j)) s->wpAny (model X.prog X.w) X.A (f (.int i t) (.int j u)) Q E s) :
  lU X f (tM λi j=>.bl (g i j)):=by
 intro ω s σ H x y v u Q I rx ry h;obtain⟨i,j,rfl,rfl,q⟩:=h;obtain⟨t,rfl⟩:=rx;obtain⟨t',rfl⟩:=ry;exact rule i j t t' s _ _ ⟨.bl (g i j),H,I,rfl,q⟩
def Le (i j:Int):Prop:=0<j/\j<1073741824
def LH (i j:Int):Prop:=0<=j/\j<=1000000/\i.natAbs<2^64
def BN (i j:Int):Prop:=(-(2^64)<i/\i<2^64)\/(-(2^64)<j/\j<2^64)
theorem BN.ok {i j:Int}(h:BN i j):IntMulOk i j:=by
 rcases h with ⟨h1,h2⟩|⟨h1,h2⟩
 .exact .of_left (intBits_le_64 h1 h2)
 .exact .of_right (intBits_le_64 h1 h2)
theorem Ic:lU X (binaryOp .Add) (tM λi j=>.int (i+j)):=zK λ_ _ _ _ _ _ _ q=>add_int q
theorem Hr:lU X (binaryOp .Sub) (tM λi j=>.int (i-j)):=zK λ_ _ _ _ _ _ _ q=>sub_int q
theorem Lw:lU X (binaryOp .Mult) (rI BN λi j=>.int (i*j)):=Gp λ_ _ _ _ _ _ _ hc q=>mul_int q hc.ok
theorem GP:lU X (binaryOp .FloorDiv) (rI Le λi j=>.int (i/j)):=Gp λi j _ _ _ _ _ hc q=>by
 have h1:(0:Int)<j:=hc.1;have h2:j<1073741824:=hc.2;exact floordiv_int (by omega) (by rw[Int.fdiv_eq_ediv_of_nonneg i (by omega)];exact q) (.inl (PyProof.noPylong_small (by omega)))
theorem LK:lU X (binaryOp .Mod) (rI (λ_ j=>0<j) λi j=>.int (i%j)):=Gp λi j _ _ _ _ _ hc q=>by
 have h1:(0:Int)<j:=hc;exact mod_int' (by omega) (by rw[Int.fmod_eq_emod_of_nonneg i (by omega)];exact q)
theorem Lu:lU X (binaryOp .Pow) (rI LH λi j=>.int (i^j.toNat)):=Gp λ_ _ _ _ _ _ _ hc q=>pow_int_small hc.1 hc.2.1 hc.2.2 q
theorem Mo:lU X (binaryOp .BitAnd) (tM λi j=>.int (uK i j)):=zK λ_ _ _ _ _ _ _ q=>and_int q
theorem OT:lU X (binaryOp .BitOr) (tM λi j=>.int (vS i j)):=zK λ_ _ _ _ _ _ _ q=>or_int q
theorem ME:lU X (binaryOp .BitXor) (tM λi j=>.int (vE i j)):=zK λ_ _ _ _ _ _ _ q=>xor_int q
theorem VF {f:Gg->Sem Gg}{g:Int->Int}
  (rule:∀ (i:Int) (t:Tok) (s:Gh) (Q:Gg->Gh->Prop) (E:Gg->Gh->Prop),Q (.int (g i) s.toks) { s with toks:=s.toks+1 }->wpAny (model X.prog X.w) X.A (f (.int i t)) Q E s) :
  Lb X f (rU λi=>.int (g i)):=by
 intro ω s σ H x v Q I rx h;obtain⟨i,rfl,q⟩:=h;obtain⟨t,rfl⟩:=rx;exact rule i t s _ _ ⟨.int (g i),H,I.tok _,⟨_,rfl⟩,q⟩
theorem No:Lb X (unaryOp .USub) (rU λi=>.int (-i)):=VF λ_ _ _ _ _ q=>neg_int q
end
section
variable {X:Cx}{a b c:Expr}{ta tb tc:TE}{pos:Pos}
theorem zF:lU X (compareOp .Lt) (tM λi j=>.bl (decide (i<j))):=Ci λ_ _ _ _ _ _ _ q=>lt_int q
theorem wI:lU X (compareOp .LtE) (tM λi j=>.bl (decide (i<=j))):=Ci λ_ _ _ _ _ _ _ q=>le_int q
theorem Gk:lU X (compareOp .Gt) (tM λi j=>.bl (decide (j<i))):=Ci λ_ _ _ _ _ _ _ q=>gt_int q
theorem EJ:lU X (compareOp .GtE) (tM λi j=>.bl (decide (j<=i))):=Ci λ_ _ _ _ _ _ _ q=>ge_int q
theorem lU.or {f:Gg->Gg->Sem Gg}{r r':R2}(h:lU X f r)(h':lU X f r'):lU X f (λx y H Q=>r x y H Q\/r' x y H Q):=by
 intro ω s σ H x y v u Q I rx ry q;rcases q with q|q
 .exact h ω s σ H x y v u Q I rx ry q
 .exact h' ω s σ H x y v u Q I rx ry q
theorem CV (b:Expr){op:CmpOp}(h:op≠.In:=by decide)(h2:op≠.NotIn:=by decide):behindInMarks op b=false:=by
 have e1:(op==CmpOp.In)=false:=by cases op<;>first|rfl|exact absurd rfl h
 have e2:(op==CmpOp.NotIn)=false:=by cases op<;>first|rfl|exact absurd rfl h2
 cases b<;>simp[behindInMarks,e1,e2]
theorem Hd {op:CmpOp}{r:R2}(ho:lU X (compareOp op) r)(ha:PE X a ta)(hb:PE X b tb)(hm:behindInMarks op b=false):PE X (.Compare a [op] [b] pos) (DF r ta tb):=by
 intro ω s σ H Q I h;exact wpAny_Compare1 (Ee ha hb I h λv u s2 x y H2 I2 rx ry q=>ho ω s2 σ H2 x y v u Q I2 rx ry q) hm
def Fe (t:TE):TT:=λσ H Q=>t σ H λx H'=>∃ k,x=.bl k/\Q k H'
theorem GR {op:CmpOp}{r:R2}(ho:lU X (compareOp op) r)(ha:PE X a ta)(hb:PE X b tb)(hm:behindInMarks op b=false):PT X (.Compare a [op] [b] pos) (Fe (DF r ta tb)):=by
 intro ω s σ H Q I h;refine wpAny_isTrue_Compare1 (iR (ha ω s σ H _ I h) λv s1 ⟨x,H1,I1,r1,q1⟩=>iR (hb ω s1 σ H1 _ I1 q1) λu s2 ⟨y,H2,I2,r2,q2⟩ =>
  iR (ho ω s2 σ H2 x y v u _ I2 r1 r2 q2) λc s3 ⟨z,H3,I3,r3,k,e,q3⟩=>?_) hm
 subst e;cases r3;exact wpAny_truthy_bool ⟨H3,I3,q3⟩
def CK (r r':R2)(ta tb tc:TE):TE:=λσ H Q=>ta σ H λx H1=>tb σ H1 λy H2=>r x y H2 λz H3=>∃ k,z=.bl k /\
 (if k=true then tc σ H3 λw' H4=>r' y w' H4 Q else Q (.bl false) H3)
theorem El {op op':CmpOp}{r r':R2}(ho:lU X (compareOp op) r)(ho':lU X (compareOp op') r')(ha:PE X a ta)(hb:PE X b tb)(hc:PE X c tc)
  (hm:lastMarks [op,op'] [b,c]=false:=by with_unfolding_all rfl):PE X (.Compare a [op,op'] [b,c] pos) (CK r r' ta tb tc):=by
 intro ω s σ H Q I h;refine Compare_chain (iR (ha ω s σ H _ I h) λv s1 ⟨x,H1,I1,r1,q1⟩=>chain_link (iR (hb ω s1 σ H1 _ I1 q1) λu s2 ⟨y,H2,I2,r2,q2⟩ =>
  iR (ho ω s2 σ H2 x y v u _ I2 r1 r2 q2) λd s3 ⟨z,H3,I3,r3,k,e,q3⟩=>?_)) hm
 subst e;cases r3;refine wpAny_truthy_bool ?_;cases k with
 | false=>exact ite_ff ⟨.bl false,H3,I3,rfl,q3⟩
 | true=>exact ite_tt (chain_last (iR (hc ω s3 σ H3 _ I3 q3) λw' s4 ⟨z',H4,I4,r4,q4⟩=>ho' ω s4 σ H4 y z' u w' Q I4 r2 r4 q4))
theorem Ea {op op':CmpOp}{r r':R2}(ho:lU X (compareOp op) r)(ho':lU X (compareOp op') r')(ha:PE X a ta)(hb:PE X b tb)(hc:PE X c tc)
  (hm:lastMarks [op,op'] [b,c]=false:=by with_unfolding_all rfl):PT X (.Compare a [op,op'] [b,c] pos) (Fe (CK r r' ta tb tc)):=by
 intro ω s σ H Q I h;refine isTrue_chain (iR (ha ω s σ H _ I h) λv s1 ⟨x,H1,I1,r1,q1⟩=>test_link (iR (hb ω s1 σ H1 _ I1 q1) λu s2 ⟨y,H2,I2,r2,q2⟩ =>
  iR (ho ω s2 σ H2 x y v u _ I2 r1 r2 q2) λd s3 ⟨z,H3,I3,r3,k,e,q3⟩=>?_)) hm
 subst e;cases r3;refine wpAny_truthy_bool ?_;cases k with
 | false =>
  obtain⟨k',e',q'⟩:=q3;cases e';exact ite_ff ⟨H3,I3,q'⟩
 | true =>
  refine ite_tt (test_last (iR (hc ω s3 σ H3 _ I3 q3) λw' s4 ⟨z',H4,I4,r4,q4⟩=>iR (ho' ω s4 σ H4 y z' u w' _ I4 r2 r4 q4) λd' s5 ⟨z2,H5,I5,r5,k2,e2,q5⟩=>?_));subst e2;cases r5;exact wpAny_truthy_bool ⟨H5,I5,q5⟩
def Er (K:jb)(x:V)(H:Hp)(k:Bool):Prop :=
 match x with
 | .non=>k=false
 | .bl b=>k=b
 | .int i=>k=(i !=0)
 | .str y=>y.length<=sizeLine/\k=((y.length:Int) !=0)
 | .byt y=>y.size<=sizeLine/\k=((y.size:Int) !=0)
 | .ref p=>(∃ xs,lH K H p xs/\k=!xs.isEmpty)\/(∃ xs,mU K H p xs/\k=!xs.isEmpty)\/∃ kvs,H p=Ga (.dK kvs)/\k=!kvs.isEmpty
 | _=>False
theorem Cj {κ:Type}{kvs:List (κ×V)}{vs:List (κ×Gg)}(r:KV kvs vs):(!vs.isEmpty)=!kvs.isEmpty:=by
 cases r<;>rfl
theorem xN {xs:List V}{its:List Gg}(r:ip xs its):(!its.toArray.isEmpty)=!xs.isEmpty:=by
 cases r<;>simp
theorem wA:(sizeLine:Nat)<2^63:=by rw[sizeLine_eq];decide
theorem LC:UQ X (λx H Q=>∃ k,Er X.K x H k/\Q k H):=by
 intro ω s σ H x v Q I rx h;obtain⟨k,e,q⟩:=h;have hl:=wA;have hs:sizeLine=16777216:=sizeLine_eq;cases x with
 | non =>
  cases rx;have e':k=false:=e;subst e';exact truthy_none ⟨H,I,q⟩
 | bl b =>
  cases rx;have e':k=b:=e;subst e';exact wpAny_truthy_bool ⟨H,I,q⟩
 | int i =>
  obtain⟨t,rfl⟩:=rx;have e':k=(i !=0):=e;subst e';exact PySem.P.truthy_int ⟨H,I,q⟩
 | str y =>
  obtain⟨t,rfl⟩:=rx;obtain⟨hy,e'⟩:y.length<=sizeLine/\k=((y.length:Int) !=0):=e;subst e';exact PySem.P.truthy_str (by omega) ⟨H,I.tok _,q⟩
 | byt y =>
  obtain⟨t,rfl⟩:=rx;obtain⟨hy,e'⟩:y.size<=sizeLine/\k=((y.size:Int) !=0):=e;subst e';exact PySem.W.truthy_bytes (by omega) ⟨H,I.tok _,q⟩
 | ref p =>
  cases rx;have e':(∃ xs,lH X.K H p xs/\k=!xs.isEmpty)\/(∃ xs,mU X.K H p xs/\k=!xs.isEmpty)\/∃ kvs,H p=Ga (.dK kvs)/\k=!kvs.isEmpty:=e;rcases e' with ⟨xs,hx,e'⟩|⟨xs,hx,e'⟩|⟨kvs,hx,e'⟩
  .subst e';obtain⟨its,r,pl,hz⟩:=I.list hx;have hlen:=r.length;exact wpAny_truthy_list pl.isList (by simp only[jl];omega) ⟨H,I.tok _,by rw[xN r];exact q⟩
  .subst e';obtain⟨its,r,pl,hz⟩:=I.tuple hx;have hlen:=r.length;exact truthy_tuple pl (by simp only[jl];omega) ⟨H,I.tok _,by rw[xN r];exact q⟩
  .subst e';obtain⟨hz,hS,vs,r,m⟩:kvs.length<=sizeLine/\(p==sysModules)=false/\∃ vs,KV kvs vs/\s.heap.DictOf (yB X.prog X.w) p vs:=I.hok p _ hx;have hlen:kvs.length=vs.length:=Paired.length r;exact wpAny_truthy_dict hS m (by omega) ⟨H,I.tok _,by rw[Cj r];exact q⟩
 | _=>exact(show False from e).elim
theorem Ev (ha:PE X a ta)(he:∀ whole,isTrue a X.env whole=(do let v <- whole;standAt a.pos;holding [v] (truthy v))) :
  PT X a (λσ H Q=>ta σ H λx H'=>∃ k,Er X.K x H' k/\Q k H'):=by
 intro ω s σ H Q I h;exact isTrue_plain (iR (ha ω s σ H _ I h) λv s1 ⟨x,H1,I1,r1,q1⟩=>LC ω s1 σ H1 x v Q I1 r1 q1) (he _)
theorem BW:lU X (binaryOp .Add) (λx y H Q=>∃ i j,x=.str i/\y=.str j/\i.length+j.length<=sizeLine/\Q (.str (i++j)) H):=by
 intro ω s σ H x y v u Q I rx ry h;obtain⟨i,j,rfl,rfl,hz,q⟩:=h;obtain⟨t,rfl⟩:=rx;obtain⟨t',rfl⟩:=ry;exact add_str (λt' tk=>⟨.str (i++j),H,I.tok _,⟨_,rfl⟩,q⟩) hz
theorem oT {x:V}{us:List Gg}(r:ip [x] us):∃ u,us=[u]/\iA x u:=by
 cases r with
 | cons r1 r2=>cases r2;exact⟨_,rfl,r1⟩
theorem Ex {x y:V}{us:List Gg}(r:ip [x,y] us):∃ u w',us=[u,w']/\iA x u/\iA y w':=by
 cases r with
 | cons r1 r2 =>
  cases r2 with
  | cons r3 r4=>cases r4;exact⟨_,_,rfl,r1,r3⟩
theorem DE (hc:X.calm=true):my X (.builtin "min") (λxs H Q=>∃ i j,xs=[.int i,.int j]/\Q (.int (if j<i then j else i)) H):=by
 intro ω s σ H xs us Q I r h;obtain⟨i,j,rfl,q⟩:=h;obtain⟨u,w',rfl,⟨t,rfl⟩,⟨t',rfl⟩⟩:=Ex r;refine min_two_ints (I.ok.hd hc) λh' tk k=>⟨_,H,I.kept k,?_,q⟩;by_cases hj:j<i
 .rw[Ge hj,Ge hj];exact⟨_,rfl⟩
 .rw[Gf hj,Gf hj];exact⟨_,rfl⟩
end
structure MU (h:Heap)(x dx C:Gj)(mA:Str->Option Gg):Prop where
 obj:h.get? x=Ga (uA C dx)
 ns:h.Ns1 dx mA
 ne:dx≠x
theorem CZ {h:Heap}{dx:Gj}{mA:Str->Option Gg}(n:h.Ns1 dx mA):∃ od,h.get? dx=Ga od/\∀ name,Ja name od=Ga (mA name):=by
 obtain⟨o,es,ep,ho,hd,hk,_,hm⟩:=n;refine⟨o,ho,λname=>?_⟩;have e:=hm name;unfold nsFind findBy at e;rw[<- Array.find?_toList] at e;unfold Ja;rw[hd];dsimp only;split
 .rename_i y q;rw[q] at e;exact congrArg Ga e
 .rename_i q;rw[q] at e;have a:es.toList.any (·.refKey)=false:=by
   rw[List.any_eq_false];intro y hy;obtain⟨z,t,hkey⟩:=hk y (vX.mp hy);simp[DictEntry.refKey,hkey]
  have a':¬es.toList.any (·.refKey)=true:=by rw[a];exact jr
  rw[Gf a'];exact congrArg Ga e
theorem MU.look {h:Heap}{x dx C:Gj}{mA:Str->Option Gg}(I:MU h x dx C mA):∃ od,PySem.W.InstAt h x (uA C dx) C (Ga od)/\∀ name,Ja name od=Ga (mA name) :=
 let ⟨od,ho,hl⟩:=CZ I.ns
 ⟨od,⟨I.obj,rfl,rfl,ho⟩,hl⟩
section
variable {prog:Program}{w:World}{A:Around}{E:Gg->Gh->Prop}{s:Gh}{K:jb}{x dx C f:Gj}{mA:Str->Option Gg}{name:Str}{v:Gg}
end
def yt (f:Str)(v:V):List (Str×V)->List (Str×V)
 | []=>[(f,v)]
 | (g,x)::r=>if g=f then(g,v)::r else(g,x)::yt f v r
theorem rX.some_of {v:V}{o:Option Gg}(r:rX (Ga v) o):∃ u,o=Ga u/\iA v u:=by
 cases o with
 | none=>exact(show False from r).elim
 | some u=>exact⟨u,rfl,r⟩
section
variable {P:Program}{w:World}{H H':Hp}{h h':Heap}{a C dx:Gj}{fs fs':List (Str×V)}
end
structure QU (K:jb)(C:Gj):Prop where
 pg:JM K C Str.empty=true
 hd:PySem.W.hasDictIn K C=true
 po:PySem.W.plainOver K C=true
 sa:PySem.W.findIn K (.ref C) "__setattr__"=Ga (Ga (.builtin "object.__setattr__"))
theorem QU.get {K:jb}{C:Gj}(c:QU K C)(f:Str):JM K C f=true:=c.pg
section
variable {X:Cx}{ω:List (Gj×Obj)}{σ:St}{H:Hp}{s:Gh}{a C dx:Gj}{fs:List (Str×V)}{f:Str}{v:V}{A:Around}{E:Gg->Gh->Prop}
theorem gS.made (I:gS X ω σ H s):gS X ω σ (upd (upd H s.heap.objs.size (.own (s.heap.objs.size+1))) (s.heap.objs.size+1) (.ins C s.heap.objs.size []))
  { s with heap:=(s.heap.push kR).push (uA C s.heap.objs.size) }:=by
 have e1:(s.heap.push kR).get? s.heap.objs.size=Ga kR:=jy s.heap rfl;have e2:((s.heap.push kR).push (uA C s.heap.objs.size)).get? (s.heap.objs.size+1)=Ga (uA C s.heap.objs.size):=by
  have:=jy (s.heap.push kR) (o:=uA C s.heap.objs.size) rfl
  rwa [u9] at this
 have e3:(s.heap.push kR).Ns s.heap.objs.size (λ_=>Gb):=⟨kR,#[],_,e1,rfl,(λe he=>absurd he (by simp)),λ_=>rfl⟩;have I1:=I.laid (a:=s.heap.objs.size) (o:=.own (s.heap.objs.size+1)) (h':=s.heap.push kR) (t':=s.toks) (λb u q=>jf _ q) (jm _) ⟨_,e1⟩;refine I1.laid (a:=s.heap.objs.size+1) (o:=.ins C s.heap.objs.size []) (t':=s.toks) (λb u q=>jf _ q) (Jy (u9 _ _)) ?_;have ne:s.heap.objs.size≠s.heap.objs.size+1:=jH (k7 _);refine⟨by rw[hE ne,ij],jT _,ne,e2,λ_=>Gb,(Heap.Ns1.of_empty e3).at λo q=>jf _ q,λ_=>True.intro,λy hy=>absurd rfl hy⟩
end
section
variable {X:Cx}{o e value:Expr}{f:Str}{pos pos' tpos:Pos}{ta tv:TE}
end
section
variable {X:Cx}{ω:List (Gj×Obj)}{σ:St}{H:Hp}{s:Gh}{A:Around}{E:Gg->Gh->Prop}{Q:Gg->Gh->Prop}{c:Gg}{b:Bool}
end
structure lK (k:Nat)(A:Around):Prop where
 hd:A.handled=Gb
 dp:A.depth+3*k+5<recursionLimit
 un:A.units+16*k+200<cLine
theorem lK.mono {j k:Nat}{A:Around}(r:lK k A)(h:j<=k):lK j A:=⟨r.hd,by have:=r.dp;omega,by have:=r.un;omega⟩
theorem lK.deeper {k:Nat}{A:Around}(r:lK (k+1) A)(ψ:Env):lK k (A.deeper ψ) :=
 ⟨r.hd,by have:=r.dp;show A.depth+1+3*k+5<_;omega,by have:=r.un;show A.units+3+16*k+200<_;omega⟩
theorem lK.depth {k:Nat}{A:Around}(r:lK k A):A.depth<recursionLimit:=by have:=r.dp;omega
def Ke:TA:=λ_ H Q=>Q [] H
def FI (ta:TE)(tr:TA):TA:=λσ H Q=>ta σ H λx H1=>tr σ H1 λxs H2=>Q (x::xs) H2
section
variable {X:Cx}{e:Expr}{es:List Expr}{te:TE}{t:TA}{pos:Pos}
theorem og:PA X [] Ke:=λ_ _ _ _ H Q I h=>vF ⟨[],H,I,.nil,h⟩
theorem lN (ha:PE X e te)(hr:PA X es t)(hs:starEach (e::es) X.env=(false,eval e X.env)::starEach es X.env:=by rfl):PA X (e::es) (FI te t):=by
 intro pos ω s σ H Q I h;rw[hs];show wpAny _ _ (spliced ((false,eval e X.env)::backTo pos (starEach es X.env))) _ _ s;refine uS (iR (ha ω s σ H _ I h) λu s1 ⟨x,H1,I1,r1,q1⟩=>?_);exact iR (hr pos ω s1 σ H1 _ I1 q1) λus s2 ⟨xs,H2,I2,r2,q2⟩=>⟨x::xs,H2,I2,.cons r1 r2,q2⟩
def Va (t:TA):TE:=λσ H Q=>t σ H λxs H1=>xs.length<=sizeLine/\∀ p,H1 p=Gb->Q (.ref p) (upd H1 p (.tup xs))
def Vb (t:TA):TE:=λσ H Q=>t σ H λxs H1=>xs.length<=sizeLine/\∀ p,H1 p=Gb->Q (.ref p) (upd H1 p (.lst xs))
theorem Nq {x1}(h:PA X es t):PE X (.Tuple es x1 pos) (Va t):=by
 intro ω s σ H Q I hq;refine wpAny_Tuple_spliced (iR (h pos ω s σ H _ I hq) λus s1 ⟨xs,H1,I1,r,z,q⟩=>⟨by rw[<- r.length];exact z,?_⟩);have hf:H1 s1.heap.objs.size=Gb:=I1.hok.fresh (jm _);refine⟨.ref s1.heap.objs.size,upd H1 s1.heap.objs.size (.tup xs),I1.laid (t':=s1.toks) (λb u e=>jf _ e) (jm _) ?_,rfl,q _ hf⟩;exact⟨z,us,r,⟨_,jy _ rfl,rfl,_,rfl⟩⟩
theorem MD (h:PA X es t):PE X (.List es pos) (Vb t):=by
 intro ω s σ H Q I hq;refine wpAny_List_spliced (iR (h pos ω s σ H _ I hq) λus s1 ⟨xs,H1,I1,r,z,q⟩=>⟨by rw[<- r.length];exact z,?_⟩);have hf:H1 s1.heap.objs.size=Gb:=I1.hok.fresh (jm _);refine⟨.ref s1.heap.objs.size,upd H1 s1.heap.objs.size (.lst xs),I1.laid (t':=s1.toks) (λb u e=>jf _ e) (jm _) ?_,rfl,q _ hf⟩;exact⟨z,us,0,r,jy _ rfl⟩
end
abbrev Sp:=List V->Hp->VK->XK->Prop
abbrev rY:=List Env->Hp->Gh->XK->Gg->Gh->Prop
structure sD (P:Program)(w:World)(K:jb)(mg:Str->Option Gg)(base:Heap)(A:Around)(outer:List Env)(s:Gh)(H:Hp):Prop where
 frames:A.frames=Ga outer
 mod:Mod K mg base
 bs:∀ b o,base.get? b=Ga o->s.heap.get? b=Ga o/\H b=Gb
 bsz:base.objs.size<=s.heap.objs.size
 funs:s.heap.FunFrames base outer
 frf:∀ b∈rF outer,H b=Gb
 hok:HOk P w H s.heap
 bare:AllBare s.gens
def CE (outer:List Env)(P:Program)(w:World)(H:Hp)(s:Gh)(Q:VK)(u:Gg)(s':Gh):Prop :=
 ∃ v H',s'.os=s.os/\AllBare s'.gens/\Un (rF outer) [] H H' s.heap s'.heap/\HOk P w H' s'.heap/\iA v u/\Q v H'
def CR (CX:rY)(outer:List Env)(P:Program)(w:World)(H:Hp)(s:Gh)(Q:VK)(E:XK)(r:Result)(s':Gh):Prop :=
 match r with
 | .ok (.ret u)=>CE outer P w H s Q u s'
 | .ok _=>False
 | .error e=>CX outer H s E e s'
structure hV (P:Program)(w:World)(K:jb)(mg:Str->Option Gg)(base:Heap)(CX:rY)(k:Nat)(f:Gj)(fd:Gi)(ps:List Str)(sp:Sp):Prop where
 len:∀ vs H Q E,sp vs H Q E->vs.length=ps.length
 run:∀ (A:Around) (outer:List Env) (s:Gh) (H:Hp) (args:Args) (us:List Gg) (vs:List V) (Q:VK) (E:XK),lK k A->sD P w K mg base A outer s H->BindsTo s fd args (ps.zip us)->ip vs us->sp vs H Q E ->
  codeAny (model P w) A (.call (.ref f) args) (CR CX outer P w H s Q E) s
theorem hV.mono {P:Program}{w:World}{K:jb}{mg:Str->Option Gg}{base:Heap}{CX:rY}{j k:Nat}{f:Gj}{fd:Gi}{ps:List Str}{sp:Sp}(F:hV P w K mg base CX j f fd ps sp)(h:j<=k) :
  hV P w K mg base CX k f fd ps sp:=⟨F.len,λA outer s H args us vs Q E hr=>F.run A outer s H args us vs Q E (hr.mono h)⟩
theorem hV.imp {P:Program}{w:World}{K:jb}{mg:Str->Option Gg}{base:Heap}{CX:rY}{k:Nat}{f:Gj}{fd:Gi}{ps:List Str}{sp sp':Sp}(F:hV P w K mg base CX k f fd ps sp)
  (h:∀ vs H Q E,sp' vs H Q E->sp vs H Q E):hV P w K mg base CX k f fd ps sp' :=
 ⟨λvs H Q E q=>F.len vs H Q E (h _ _ _ _ q),λA outer s H args us vs Q E hr he hb hv hs=>F.run A outer s H args us vs Q E hr he hb hv (h _ _ _ _ hs)⟩
section
variable {X:Cx}{ω:List (Gj×Obj)}{σ:St}{H:Hp}{s s':Gh}
theorem gS.env0 (I:gS X ω σ H s):sD X.prog X.w X.K X.mg X.base X.A X.stack s H :=
 ⟨I.ok.frames,I.ok.mod,I.bs,jF I.ok.bsz I.sz,I.stack,I.stkFree,I.hok,I.bare⟩
theorem gS.after {Q:VK}{u:Gg}(I:gS X ω σ H s)(h:CE X.stack X.prog X.w H s Q u s'):EP X ω σ Q u s':=by
 obtain⟨v,H',os,bare,un,hok,r,q⟩:=h;obtain⟨hh,g,d,t,os'⟩:=s';obtain rfl:os'=s.os:=os;exact⟨v,H',I.call (h':=hh) (g':=g) (d':=d) (t':=t) (ch:=[]) un hok bare (λb z=>absurd z (by simp)),r,q⟩
end
def OJ (sp:Sp)(dvs:List V)(E:XK)(t:TA):TE:=λσ H Q=>t σ H λvs H1=>sp (vs++dvs) H1 Q E
def pV (K:jb)(fd:Gi)(ps:List Str)(ds:List Gg):Prop :=
 ∀ (s:Gh) (us:List Gg),K.In s.heap->(us++ds).length=ps.length->BindsTo s fd ⟨us,[]⟩ (ps.zip (us++ds))
theorem pV.all {K:jb}{fd:Gi}{ps:List Str}(h:∀ us:List Gg,us.length=ps.length->bindArgs fd ⟨us,[]⟩=pure (ps.zip us)):pV K fd ps []:=λs us _ hl=>by
 rw[km] at hl ⊢;exact .of_eq (h us hl)
def AC (CX:rY)(X:Cx)(E:XK):Prop:=∀ (ω:List (Gj×Obj)) (σ:St) (H:Hp) (s:Gh) (e:Gg) (s':Gh),gS X ω σ H s->CX X.stack H s E e s'->X.xe e s'
section
variable {X:Cx}{CX:rY}{k:Nat}{f C:Gj}{fd:Gi}{ps:List Str}{sp:Sp}{dvs:List V}{ds:List Gg}{E:XK}{x m:Str}{p pos apos:Pos}{e o:Expr}{es:List Expr}{ta:TE}{t:TA}
theorem NA {ω:List (Gj×Obj)}{σ:St}{H:Hp}{s:Gh}{Q:VK}{us:List Gg}{vs:List V}(F:hV X.prog X.w X.K X.mg X.base CX k f fd ps sp)(hr:lK k X.A)(hb:pV X.K fd ps ds)(hd:ip dvs ds)(hx:AC CX X E)
  (I:gS X ω σ H s) (r:ip vs us) (h:sp (vs++dvs) H Q E):wpAny (model X.prog X.w) X.A (call (.ref f) us) (EP X ω σ Q) X.xe s:=by
 have r2:ip (vs++dvs) (us++ds):=r.append hd;have hl:(us++ds).length=ps.length:=by rw[<- r2.length];exact F.len _ _ _ _ h
 refine wpAny_call (codeAny_mono (F.run X.A X.stack s H ⟨us,[]⟩ (us++ds) (vs++dvs) Q E hr I.env0 (hb s us I.kIn hl) r2 h) λr s' hq=>?_);cases r with
 | error e=>exact hx ω σ H s e s' I hq
 | ok fl =>
  cases fl with
  | ret u=>exact I.after hq
  | next=>exact False.elim hq
  | brk=>exact False.elim hq
  | cont=>exact False.elim hq
theorem yK (F:hV X.prog X.w X.K X.mg X.base CX k f fd ps sp)(hr:lK k X.A)(hg:Gl X x)(hm:X.mg x=Ga (.ref f))(hk:ub X.K (.ref f)=true)(hb:pV X.K fd ps ds)(hd:ip dvs ds)(hx:AC CX X E)
  (ha:PA X (e::es) t) (hdb:(x==("__debug__":Str))=false:=by decide) (he:starEach (e::es) X.env=(false,eval e X.env)::starEach es X.env:=by rfl) (hpl:(backTo pos (starEach es X.env)).any (·.1)=false:=by rfl) :
  PE X (.Call (.Name x p) (e::es) [] pos) (OJ sp dvs E t):=by
 intro ω s σ H Q I h;refine wpAny_Call_Name_kw (yx I hg hm ?_ hdb);refine Jo (h₀:=X.base) I.ok.mod.kin hk (iR (ha pos ω s σ H _ I h) λus s1 ⟨vs,H1,I1,r,q⟩=>⟨I1.kIn,?_⟩) he hpl;exact NA F hr hb hd hx I1 r q
end
section
variable {X:Cx}{CX:rY}{k:Nat}{f C:Gj}{fd:Gi}{ps ks:List Str}{sp:Sp}{E:XK}{x m:Str}{p pos apos kpos:Pos}{e o:Expr}{es:List Expr}{kws:List Keyword}{te ta:TE}{t tk:TA}{nm:Option Str}
variable {g:List Gg->List Gg->List Gg}{gV:List V->List V->List V}
end
structure gR (N P:List Str)(sc:Scope):Prop where
 kind:sc.kind=.function
 co:sc.isCoroutine=false
 gen:sc.isGenerator=false
 nd:N.Nodup
 pre:N.take P.length=P
 par:∀ x∈P,sc.names.lookup x=Ga .local\/sc.names.lookup x=Ga .cell
 nofree:∀ y∈sc.names,y.2≠.free
theorem zt {kindOf:Str->Option NameKind}{x:Str}:∀ {binds:List (Str×Gg)} {m:Str->Option Gg},(∀ v,(x,v)∉binds)->bindL kindOf binds m x=m x
 | [],_,_=>rfl
 | (n,v)::r,m,h=>by
  unfold bindL;rw[zt λw hw=>h w (jo _ hw)];split
  .have:x≠n:=by rintro rfl;exact h v jh
   simp[this]
  .rfl
theorem zr {kindOf:Str->Option NameKind}{x:Str}:∀ {binds:List (Str×Gg)} {m:Str->Option Gg},(∀ v,(x,v)∉binds)->bindC kindOf binds m x=m x
 | [],_,_=>rfl
 | (n,v)::r,m,h=>by
  unfold bindC;rw[zr λw hw=>h w (jo _ hw)];split
  .rfl
  .have:x≠n:=by rintro rfl;exact h v jh
   simp[this]
theorem zo {kindOf:Str->Option NameKind}{x:Str}{v:Gg}:∀ {P:List Str} {vs:List Gg} {i:Nat} {m:Str->Option Gg},P.Nodup->P[i]?=Ga x->vs[i]?=Ga v->kindOf x=Ga .local ->
  bindL kindOf (P.zip vs) m x=Ga v
 | [],_,_,_,_,h,_,_=>by simp at h
 | _::_,[],_,_,_,_,h,_=>by simp at h
 | p::P,w::vs,0,m,nd,h1,h2,hk=>by
  simp at h1 h2;subst h1;subst h2;show bindL kindOf ((p,w)::P.zip vs) m p=_;unfold bindL;rw[zt λv hv=>(ko.mp nd).1 (qO hv).1,Ge hk];simp
 | p::P,w::vs,i+1,m,nd,h1,h2,hk=>by
  show bindL kindOf ((p,w)::P.zip vs) m x=_;unfold bindL;exact zo (i:=i) (ko.mp nd).2 (by simpa using h1) (by simpa using h2) hk
theorem yM {kindOf:Str->Option NameKind}{x:Str}{v:Gg}:∀ {P:List Str} {vs:List Gg} {i:Nat} {m:Str->Option Gg},P.Nodup->P[i]?=Ga x->vs[i]?=Ga v->kindOf x≠Ga .local ->
  bindC kindOf (P.zip vs) m x=Ga v
 | [],_,_,_,_,h,_,_=>by simp at h
 | _::_,[],_,_,_,_,h,_=>by simp at h
 | p::P,w::vs,0,m,nd,h1,h2,hk=>by
  simp at h1 h2;subst h1;subst h2;show bindC kindOf ((p,w)::P.zip vs) m p=_;unfold bindC;rw[zr λv hv=>(ko.mp nd).1 (qO hv).1,Gf hk];simp
 | p::P,w::vs,i+1,m,nd,h1,h2,hk=>by
  show bindC kindOf ((p,w)::P.zip vs) m x=_;unfold bindC;exact yM (i:=i) (ko.mp nd).2 (by simpa using h1) (by simpa using h2) hk
def start (N:List Str)(vs:List V):St:=vs.map Ga++jU (N.length-vs.length) Gb
def pT (CX:rY)(P:Program)(w:World)(K:jb)(mg:Str->Option Gg)(base:Heap)(N:List Str)(qual:Str)(scope:Scope)(f:Gj)(cd:Gg)(A:Around)(outer:List Env)(s:Gh)(H:Hp)(E:XK):Cx where
 prog:=P
 w:=w
 K:=K
 mg:=mg
 base:=base
 A:=A.deeper (envOfC qual scope s.heap.objs.size f cd)
 N:=N
 s₀:=s
 H₀:=H
 env:=envOfC qual scope s.heap.objs.size f cd
 outer:=outer
 stack:=envOfC qual scope s.heap.objs.size f cd::outer
 ex:=[]
 calm:=true
 fn:=λ_=>true
 pn:=[]
 xe:=λe s'=>wpAny (model P w) (A.deeper (envOfC qual scope s.heap.objs.size f cd)) (leaving (envOfC qual scope s.heap.objs.size f cd) e) (λ_ s''=>CX outer H s E e s'') (λe' s''=>CX outer H s E e' s'') s'
theorem Ax {sc:Scope}{n:Nat}{x:Str}(h:sc.names.lookup x=Ga .cell):∃ c,(cellsFrom n sc.names []).lookup x=Ga c:=by
 have q:=qE sc.names n [] (.inl h);exact qo.mp q
theorem Du {CX:rY}{P:Program}{w:World}{K:jb}{mg:Str->Option Gg}{base:Heap}{N ps:List Str}{qual:Str}{scope:Scope}{f:Gj}{cd:Gg}{A:Around}{outer:List Env}{s s1:Gh}{H:Hp}{E:XK}{us:List Gg}{vs:List V}
  (S:gR N ps scope) (hd:A.handled=Gb) (e0:sD P w K mg base A outer s H) (hl:vs.length=ps.length) (r:ip vs us)
  (x:InCallC s s.heap.objs.size (bindL (envOfC qual scope s.heap.objs.size f cd).kindOf (ps.zip us) λ_=>Gb) (cellsFrom (s.heap.objs.size+1) scope.names []) (bindC (envOfC qual scope s.heap.objs.size f cd).kindOf (ps.zip us) λ_=>Gb) s1) :
  gS (pT CX P w K mg base N qual scope f cd A outer s H E) [] (start N vs) H s1:=by
 have hpl:ps.length<=N.length:=by have:=congrArg JT S.pre;rw[vg] at this;omega
 obtain⟨h1,tk,rfl,hk⟩:=x.done;have noA:∀ b:Gj,b∉(pT CX P w K mg base N qual scope f cd A outer s H E).ex:=λb z=>absurd (show b∈([]:List Gj) from z) (by simp);refine⟨⟨e0.mod,S.kind,rfl,rfl,jm _,λy z c h1 h2=>?_,λy hy=>?_,λy c _ h=>?_,λ_=>hd,Jb e0.frames,.inr ⟨rfl,rfl⟩,λb z=>absurd z (noA b),e0.bs,e0.bsz,λb _ _=>noA b,λb z=>absurd z (noA b),e0.funs,e0.frf⟩,
  rfl,e0.bare,Un.kept hk,⟨_,x.toInCall.ns,λi y v h1 h2 h3=>?_⟩,λy c h=>⟨_,x.cell y c h⟩,e0.hok.fresh (jm _),λy c h=>?_,λp hp=>absurd (show p∈([]:List (Gj×Obj)) from hp) (by simp),e0.hok.kept hk,?_⟩
 .exact name_of_addr x.apart (kC h1) (kC h2)
 .have hy:scope.names.lookup y=Ga .cell\/scope.names.lookup y=Ga .free:=hy;rcases hy with hy|hy
  .exact Ax hy
  .exact absurd rfl (S.nofree _ (kC hy))
 .exact uk (x.above y c (kC h))
 .have hi:i<vs.length:=by
   unfold start at h2;by_cases hi:i<vs.length
   .exact hi
   .rw[kS (by simpa using hi)] at h2;rw[uM] at h2;split at h2<;>cases h2
  have ha:vs[i]?=Ga v:=by
   unfold start at h2;rw[k5 (by simpa using hi),jC] at h2;cases e:vs[i]? with
   | none=>rw[e] at h2;cases h2
   | some a=>rw[e] at h2;cases h2;rfl
  obtain⟨u,hu,rv⟩:=r.get ha;have hp:ps[i]?=Ga y:=by
   rw[<- S.pre,List.getElem?_take_of_lt (by omega)];exact h1
  have ndP:ps.Nodup:=by rw[<- S.pre];exact S.nd.sublist (List.take_sublist _ _)
  refine⟨u,rv,?_⟩;rcases S.par y (j7 hp) with k|k
  .exact .inl ⟨k,zo ndP hp hu k⟩
  .obtain⟨c,e⟩:=Ax (n:=s.heap.objs.size+1) k;refine .inr ⟨.inl k,c,e,?_⟩;have q:=x.cell y c e;rw[yM ndP hp hu (by show scope.names.lookup y≠_;rw[k];decide)] at q;exact q
 .exact e0.hok.fresh (uk (x.above y c (kC h)))
 .unfold start;show _=N.length;rw[ju,jd,qT];omega
theorem EM {CX:rY}{P:Program}{w:World}{K:jb}{mg:Str->Option Gg}{base:Heap}{k:Nat}{f:Gj}{name qual:Str}{params:Arguments}{body:List Stmt}{scope:Scope}{dV kV doc pm cdv ct oc:Gg}{an od:Option Gj}
  {osl:Array (Option Gg)} {N ps:List Str} {sp:Sp} (lk:K.lookup f=Ga ⟨oc,od,.func (kT name qual params body scope dV kV doc pm an cdv ct),osl⟩) (hcd:vG K cdv qual=true) (S:gR N ps scope)
  (len:∀ vs H Q E,sp vs H Q E->vs.length=ps.length)
  (hbody:∀ (A:Around) (outer:List Env) (s:Gh) (H:Hp) (vs:List V) (Q:VK) (E:XK),lK k (A.deeper (envOfC qual scope s.heap.objs.size f cdv))->sp vs H Q E ->
   ∃ t,rG (pT CX P w K mg base N qual scope f cdv A outer s H E) body t/\t { nx:=λ_ H'=>Q .non H',rt:=Q } (start N vs) H) :
  hV P w K mg base CX (k+1) f (kT name qual params body scope dV kV doc pm an cdv ct) ps sp:=by
 refine⟨len,λA outer s H args us vs Q E hr e0 hb r hsp=>?_⟩;have hl:=len _ _ _ _ hsp;have KX:K.In s.heap:=e0.mod.kin.keeps λb o e=>(e0.bs b o e).1;have lim:s.heap.NoLimit:=e0.mod.nolimit.keeps λb o e=>(e0.bs b o e).1;have hkind:∀ y∈ps.zip us,scope.names.lookup y.1=Ga .local\/(scope.names.lookup y.1=Ga .cell/\((cellsFrom (s.heap.objs.size+1) scope.names []).lookup y.1).isSome=true):=λ⟨n,v⟩ hy=>by
  rcases S.par n (qO hy).1 with q|q
  .exact .inl q
  .exact .inr ⟨q,qE _ _ _ (.inl q)⟩
 refine codeAny_call_function hr.depth (KX _ _ lk) rfl S.co S.gen rfl (PySem.W.codeRec_of KX hcd) (hb _ _ _ _ ?_);refine wpAny_newFunctionEnv_cells S.kind hkind λψ he s1 x=>?_;subst he;refine⟨lim.keeps x.toInCall.keep,codeAny_func ?_⟩;obtain⟨t,ht,hq⟩:=hbody A outer s H vs Q E (hr.deeper _) hsp;have I:gS (pT CX P w K mg base N qual scope f cdv A outer s H E) [] (start N vs) H s1:=Du S hr.hd e0 hl r x;refine wpAny_mono (ht [] s1 (start N vs) H _ I hq) (λfl s' hs=>?_) λe s' hs=>hs;have fin:∀ {σ':St} {H':Hp} {v:V} {u:Gg},gS (pT CX P w K mg base N qual scope f cdv A outer s H E) [] σ' H' s'->iA v u->Q v H'->CE outer P w H s Q u s' :=
  λ{σ' H' v u} J rv q=>⟨v,H',J.os,J.bare,J.base,J.hok,rv,q⟩
 cases fl with
 | ret u =>
  obtain⟨v,σ',H',J,rv,q⟩:=hs;exact fin J rv q
 | next =>
  obtain⟨σ',H',J,q⟩:=hs;exact fin (v:=V.non) (u:=kr) J rfl q
 | brk =>
  obtain⟨_,_,_,q⟩:=hs;exact False.elim q
 | cont =>
  obtain⟨_,_,_,q⟩:=hs;exact False.elim q
section
variable {X:Cx}{x:Str}{p pos:Pos}{e:Expr}{es:List Expr}{t:TA}{id T:String}{r:List V->Hp->VK->Prop}
def Ue (r:List V->Hp->VK->Prop)(t:TA):TE:=λσ H Q=>t σ H λvs H1=>r vs H1 Q
theorem xy (hc:my X (.builtin id) r)(hg:Gl X x)(hm:X.mg x=Gb)(hv:bootBuiltins x=Ga (.builtin id))(ha:PA X (e::es) t)(hn:x≠"__name__":=by decide)(hdb:(x==("__debug__":Str))=false:=by decide)
  (he:starEach (e::es) X.env=(false,eval e X.env)::starEach es X.env:=by rfl) (hpl:(backTo pos (starEach es X.env)).any (·.1)=false:=by rfl):PE X (.Call (.Name x p) (e::es) [] pos) (Ue r t):=by
 intro ω s σ H Q I h;refine wpAny_Call_Name_kw (re I hg hm hv ?_ hn hdb);exact PyProof.Rows.callWith_builtin1 (iR (ha pos ω s σ H _ I h) λus s1 ⟨vs,H1,I1,r1,q1⟩=>hc ω s1 σ H1 vs us Q I1 r1 q1) he hpl
theorem DM (hc:my X (.type T) r)(hg:Gl X x)(hm:X.mg x=Gb)(hv:bootBuiltins x=Ga (.type T))(ha:PA X (e::es) t)(hn:x≠"__name__":=by decide)(hdb:(x==("__debug__":Str))=false:=by decide)
  (he:starEach (e::es) X.env=(false,eval e X.env)::starEach es X.env:=by rfl) (hpl:(backTo pos (starEach es X.env)).any (·.1)=false:=by rfl):PE X (.Call (.Name x p) (e::es) [] pos) (Ue r t):=by
 intro ω s σ H Q I h;refine wpAny_Call_Name_kw (re I hg hm hv ?_ hn hdb);exact PyProof.Rows.callWith_type1 (iR (ha pos ω s σ H _ I h) λus s1 ⟨vs,H1,I1,r1,q1⟩=>hc ω s1 σ H1 vs us Q I1 r1 q1) he hpl
end
end L2
namespace HT
open PySem PyProof.Rows
section
open PySem.SeqAt
open PySem.AutoSeq1 (wpAny_loadPart')
open PySem.MeetsSeq PySem.MeetsSeq2 PySem.MeetsSeq3
end
section
variable {prog:Program}{w:World}{A:Around}{E:Gg->Gh->Prop}{s:Gh}
theorem cat_tup {t b:Gj}{vs ws:List Gg}{Q:Gg->Gh->Prop}(ht:IsTup s.heap t vs.toArray)(hb:IsTup s.heap b ws.toArray)(hv:vs≠[])
  (h1:ws=[]->Q (.ref t) s) (h2:ws≠[]->Q (.ref s.heap.objs.size) { s with heap:=s.heap.push { cls:=.type "tuple",data:=.seq (vs++ws).toArray } })
  (hsz:vs.length+ws.length<=sizeLine):wpAny (model prog w) A (binaryOp .Add (.ref t) (.ref b)) Q E s:=by
 obtain⟨⟨cls,dd,data,sl⟩,ho,hc,n,hd⟩:=id ht;obtain⟨⟨cls2,dd2,data2,sl2⟩,ho2,hc2,n2,hd2⟩:=id hb;simp only at hc hd hc2 hd2;subst hc hd hc2 hd2;have e:vs.toArray++ws.toArray=(vs++ws).toArray:=by simp
 by_cases hw:ws=[]
 .exact concat_meets ⟨_,ho,rfl⟩ ⟨_,ho2,rfl⟩ noFill_tuple_add seq_tuple_add vH vz (vn _ _)
   (tuple_addW1 t b vs.toArray ws.toArray n n2 dd dd2 sl sl2 (by simpa using hv) (by simp[hw])) ⟨ho,ho2,h1 hw⟩
 .refine concat_meets ⟨_,ho,rfl⟩ ⟨_,ho2,rfl⟩ noFill_tuple_add seq_tuple_add vH vz (vn _ _)
   (tuple_addW2 t b vs.toArray ws.toArray n n2 dd dd2 sl sl2 (by simpa using hv) (by simpa using hw) (by rw[jl,jl];exact hsz)) ⟨ho,ho2,?_⟩
  rw[e];exact h2 hw
def sIx (n d:Nat):Option Int->Nat
 | none=>d
 | some v=>if v<0 then(v+(n:Int)).toNat else min v.toNat n
theorem sIx_none (n d:Nat):sIx n d Gb=d:=rfl
theorem sIx_nat (n d k:Nat):sIx n d (Ga (k:Int))=min k n:=by
 show(if (k:Int)<0 then((k:Int)+(n:Int)).toNat else min (k:Int).toNat n)=min k n;rw[Gf (by omega),j5]
theorem HD (n d:Nat)(hd:d<=n)(o:Option Int):sIx n d o<=n:=by
 cases o with
 | none=>exact hd
 | some v =>
  show(if v<0 then(v+(n:Int)).toNat else min v.toNat n)<=n;by_cases hv:v<0
  .rw[Ge hv];omega
  .rw[Gf hv];exact Nat.min_le_right _ _
theorem Bb (v:Int)(n d:Nat):(if v<0 then max (v+(n:Int)) 0 else min v (n:Int))=((sIx n d (Ga v):Nat):Int):=by
 show(if v<0 then max (v+(n:Int)) 0 else min v (n:Int))=(((if v<0 then(v+(n:Int)).toNat else min v.toNat n):Nat):Int);by_cases hv:v<0
 .simp only[Ge hv];omega
 .simp only[Gf hv];omega
theorem BU (lo hi:Option Int)(n:Nat):vk lo hi 1 (n:Int)=(((sIx n 0 lo:Nat):Int),((sIx n n hi:Nat):Int)):=by
 have h1:¬((1:Int)<0):=by omega
 unfold vk;simp only[h1,if_false];refine Prod.ext ?_ ?_
 .cases lo with
  | none=>rfl
  | some v=>exact Bb v n 0
 .cases hi with
  | none=>rfl
  | some v=>exact Bb v n n
theorem Cu (i j:Nat):uz (i:Int) (j:Int) 1=j-i:=by
 unfold uz;have h1:(1:Int)>0:=by omega
 simp only[h1,if_true,Int.ediv_one];split<;>omega
theorem ye {v:Gg}{o:Option Int}{Q:Option Int->Gh->Prop}(p:IsPart v o)(h:Q o s):wpAny (model prog w) A (Builtin.Slice.slicePartIndex v) Q E s:=by
 cases p with
 | none=>exact slicePart_none h
 | int i t=>exact slicePart_int h
theorem xB {sl:Gj}{vl vu:Gg}{lo hi:Option Int}{n:Nat}{Q:Int×Int×Nat->Gh->Prop}(hs:s.heap.IsSliceOf sl vl vu .none)(pl:IsPart vl lo)(pu:IsPart vu hi)
  (h:Q (((sIx n 0 lo:Nat):Int),1,sIx n n hi-sIx n 0 lo) s):wpAny (model prog w) A (qd (.ref sl) (pure (n:Int))) Q E s:=by
 obtain⟨os,hos,hcs,hds⟩:=id hs;unfold qd Builtin.Slice.sliceFields;refine gI (gI (wpAny_field hos hds (x:=vl) rfl (gI (wpAny_field hos hds (x:=vu) rfl (gI (wpAny_field hos hds (x:=.none) rfl (gJ ?_)))))));refine gI (slicePart_none ?_);show wpAny _ _ (if ((1:Int)==0)=true then _ else _) _ _ s;rw[Gf (by decide)];refine gI (ye pl (gI (ye pu (gI (gJ ?_)))));show wpAny _ _ (match vk lo hi 1 (n:Int) with|(lo,hi)=>pure (lo,(1:Int),uz lo hi 1)) _ _ s;rw[BU lo hi n];show wpAny _ _ (pure (((sIx n 0 lo:Nat):Int),(1:Int),uz ((sIx n 0 lo:Nat):Int) ((sIx n n hi:Nat):Int) 1)) _ _ s;rw[Cu];exact gJ h
theorem DV (xs:Array Gg)(i k:Nat):((je k).filterMap λ(m:Nat)=>xs[((i:Int)+(m:Int)*1).toNat]?).toArray=((xs.toList.drop i).take k).toArray:=by
 have e:(λ(m:Nat)=>xs[((i:Int)+(m:Int)*1).toNat]?)=λm=>xs[i+m]?:=by
  funext m
  have:((i:Int)+(m:Int)*1).toNat=i+m:=by omega
  rw[this]
 rw[e];have:=pick_run xs i k;rw[List.filterMap_map] at this;have e2:((λx=>xs[x]?)∘λx=>i+x)=λm=>xs[i+m]?:=rfl;rw[e2] at this;rw[this]
theorem getItem_tuple_cut {t sl:Gj}{items:Array Gg}{vl vu:Gg}{lo hi:Option Int}{Q:Gg->Gh->Prop}(ht:IsTup s.heap t items)(hs:s.heap.IsSliceOf sl vl vu .none)(pl:IsPart vl lo)(pu:IsPart vu hi)
  (hw:¬(sIx items.size 0 lo=0/\sIx items.size items.size hi=items.size))
  (h:Q (.ref s.heap.objs.size) { s with heap:=s.heap.push { cls:=.type "tuple",data:=.seq ((items.toList.drop (sIx items.size 0 lo)).take (sIx items.size items.size hi-sIx items.size 0 lo)).toArray } })
  (hsz:items.size<=sizeLine):wpAny (model prog w) A (getItem (.ref t) (.ref sl)) Q E s:=by
 have htake:sizeOk (.seq ((items.toList.drop (sIx items.size 0 lo)).take (sIx items.size items.size hi-sIx items.size 0 lo)).toArray):=by
  show((items.toList.drop (sIx items.size 0 lo)).take (sIx items.size items.size hi-sIx items.size 0 lo)).toArray.size<=sizeLine;rw[jl,vg,vP,ki];omega
 have hj:sIx items.size items.size hi<=items.size:=HD _ _ (jm _) hi;obtain⟨os,hos,hcs,hds⟩:=id hs;have hTs:s.TypeIs (.ref sl) "slice":=⟨os,hos,hcs⟩;unfold getItem
 try with_reducible refine wpAny_holding ?_
 first|refine gI (gJ ?_)|skip
 refine gI (wpAny_sequenceKey ht.typeIs (by decide) ?_);refine gI (wpAny_callSpecial?_slot (name:=jE "__getitem__") ht.typeIs PyProof.Rows.slot_tuple_getitem
  (wpAny_call_entry PyProof.Rows.slot_tuple_getitem ht.typeIs entry_tuple_getitem ?_ (args_tuple_getitem _ _)))
 show wpAny _ _ (qe (.ref t) >>= _) _ _ s;refine gI (tupleItemsOf_ ht ?_);refine gI (wpAny_typeOf hTs ?_);rw[Ge (by decide)];refine gI (xB hs pl pu ?_);have hno:¬((((sIx items.size 0 lo:Nat):Int)==0&&(1:Int)==1&&(sIx items.size items.size hi-sIx items.size 0 lo)==items.size)=true):=by
  intro q;rw[jA,jA] at q;have q1:((sIx items.size 0 lo:Nat):Int)=0:=eq_of_beq q.1.1;have q2:sIx items.size items.size hi-sIx items.size 0 lo=items.size:=eq_of_beq q.2;exact hw ⟨by omega,by omega⟩
 show wpAny _ _ (if (((sIx items.size 0 lo:Nat):Int)==0&&(1:Int)==1&&(sIx items.size items.size hi-sIx items.size 0 lo)==items.size)=true then _ else _) _ _ s;rw[Gf hno,DV]
 first
  | exact gI (m:=uH _) (wpAny_newObj_type (gJ ⟨_,rfl,gJ h⟩) htake)
  | exact gI (m:=uH _) (wpAny_newObj_type (gI (gJ (gJ ⟨_,rfl,gJ h⟩))) htake)
  | exact gI (gI (m:=uH _) (wpAny_newObj_type (gJ (gJ ⟨_,rfl,gJ h⟩)) htake))
  | exact gI (gI (m:=uH _) (wpAny_newObj_type (gJ ⟨_,rfl,gJ h⟩) htake))
end
end HT
namespace L2
open PySem PySem.Spec PyProof.Rows
abbrev TO:=St->Hp->(Option Int->Hp->Prop)->Prop
def PO (X:Cx)(e:Option Expr)(t:TO):Prop :=
 ∀ (ω:List (Gj×Obj)) (s:Gh) (σ:St) (H:Hp) (Q:Option Int->Hp->Prop),gS X ω σ H s->t σ H Q ->
  wpAny (model X.prog X.w) X.A (evalPart e X.env) (λu s'=>∃ o H',gS X ω σ H' s'/\IsPart u o/\Q o H') X.xe s
def GU:TO:=λ_ H Q=>Q Gb H
def OS (t:TE):TO:=λσ H Q=>t σ H λx H1=>∃ i,x=.int i/\Q (Ga i) H1
theorem sZ {ns:List Int}:∀ {us:List Gg},ip (ns.map V.int) us->IntsAre us ns:=by
 induction ns with
 | nil=>intro us r;rw[Jz] at r;cases r;exact .nil
 | cons n ns ih =>
  intro us r;rw[jK] at r;cases r with
  | cons r1 r2 =>
   obtain⟨t,e⟩:=r1;subst e;exact .cons n t (ih r2)
section
variable {X:Cx}{e:Expr}{te:TE}{lo hi:Option Expr}{tl th:TO}{pos p2:Pos}
theorem GX:PO X Gb GU:=by
 intro ω s σ H Q I h;rw[evalPart_none];exact gJ ⟨Gb,H,I,.none,h⟩
theorem Hc (h:PE X e te):PO X (Ga e) (OS te):=by
 intro ω s σ H Q I hw;rw[evalPart_some];refine iR (h ω s σ H _ I hw) λu s1 ⟨x,H1,I1,r1,q1⟩=>?_;obtain⟨i,rfl,q⟩:=q1;obtain⟨t,rfl⟩:=r1;exact⟨Ga i,H1,I1,.int i t,q⟩
def Aj (X:Cx)(r:V->Option Int->Option Int->Hp->VK->Prop):Prop :=
 ∀ (ω:List (Gj×Obj)) (s:Gh) (σ:St) (H:Hp) (x:V) (v vl vu:Gg) (lo hi:Option Int) (sl:Gj) (Q:VK),gS X ω σ H s->iA x v->s.heap.IsSliceOf sl vl vu .none->IsPart vl lo->IsPart vu hi->r x lo hi H Q ->
  ∃ T id,typeLookup (.type T) "__getitem__"=pure (Ga (.builtin id))/\s.TypeIs v T/\wpAny (model X.prog X.w) X.A (getItem v (.ref sl)) (EP X ω σ Q) X.xe s
theorem Aj.or {r r':V->Option Int->Option Int->Hp->VK->Prop}(h:Aj X r)(h':Aj X r'):Aj X (λx lo hi H Q=>r x lo hi H Q\/r' x lo hi H Q):=by
 intro ω s σ H x v vl vu lo hi sl Q I rx hs pl pu q;rcases q with q|q
 .exact h ω s σ H x v vl vu lo hi sl Q I rx hs pl pu q
 .exact h' ω s σ H x v vl vu lo hi sl Q I rx hs pl pu q
def tSl (r:V->Option Int->Option Int->Hp->VK->Prop)(te:TE)(tl th:TO):TE:=λσ H Q=>te σ H λx H1=>tl σ H1 λl H2=>th σ H2 λu H3=>r x l u H3 Q
theorem Ek {r:V->Option Int->Option Int->Hp->VK->Prop}(hr:Aj X r)(he:PE X e te)(hl:PO X lo tl)(hu:PO X hi th):PE X (.Subscript e (.Slice lo hi Gb p2) pos) (tSl r te tl th):=by
 intro ω s σ H Q I h;refine Subscript_ (iR (he ω s σ H _ I h) λv s1 ⟨x,H1,I1,r1,q1⟩=>?_);refine wpAny_Slice (iR (hl ω s1 σ H1 _ I1 q1) λvl s2 ⟨l,H2,I2,pl,q2⟩=>iR (hu ω s2 σ H2 _ I2 q2) λvu s3 ⟨u,H3,I3,pu,q3⟩=>?_);rw[evalPart_none];refine gJ ?_;have I4:gS X ω σ H3 { s3 with heap:=s3.heap.push { cls:=.type "slice",data:=.fields #[vl,vu,.none] } }:=I3.kept (t':=s3.toks) λb ob q=>jf _ q;obtain⟨T,id,hT,ht,hg⟩:=hr ω { s3 with heap:=s3.heap.push { cls:=.type "slice",data:=.fields #[vl,vu,.none] } } σ H3 x v vl vu l u s3.heap.objs.size Q I4 r1 (Heap.IsSliceOf.new ..) pl pu q3;show wpAny (model X.prog X.w) X.A (subscriptTail e (.Slice lo hi Gb p2) v (.ref s3.heap.objs.size)) (EP X ω σ Q) X.xe { s3 with heap:=s3.heap.push { cls:=.type "slice",data:=.fields #[vl,vu,.none] } };exact tail_any (ops:=[.ref s3.heap.objs.size,v]) ht hT hg (by with_unfolding_all rfl)
def sE (xs:List V)(lo hi:Option Int):List V:=(xs.drop (HT.sIx xs.length 0 lo)).take (HT.sIx xs.length xs.length hi-HT.sIx xs.length 0 lo)
theorem wW (xs:List V)(lo hi:Option Int):(sE xs lo hi).length<=xs.length:=by
 unfold sE;rw[vg,vP];omega
def UK (K:jb):V->Option Int->Option Int->Hp->VK->Prop:=λx lo hi H Q=>∃ a xs,x=.ref a/\mU K H a xs /\
 ¬(HT.sIx xs.length 0 lo=0/\HT.sIx xs.length xs.length hi=xs.length)/\∀ p,H p=Gb->Q (.ref p) (upd H p (.tup (sE xs lo hi)))
theorem Hh:Aj X (UK X.K):=by
 intro ω s σ H x v vl vu lo hi sl Q I rx hs pl pu h;obtain⟨a,xs,rfl,hx,hw,q⟩:=h;cases rx;obtain⟨its,r,ht,hz⟩:=I.tuple hx;have hlen:its.toArray.size=xs.length:=by rw[jl];exact r.length.symm
 refine⟨"tuple",_,PyProof.Rows.slot_tuple_getitem.lookup,ht.typeIs,?_⟩;refine HT.getItem_tuple_cut ht hs pl pu (by rw[hlen];exact hw) ?_ (by rw[hlen];exact hz);rw[hlen];refine⟨.ref s.heap.objs.size,_,I.laid (t':=s.toks) (o:=.tup (sE xs lo hi)) (λb ob q=>jf _ q) (jm _) ?_,rfl,q _ (I.hok.fresh (jm _))⟩;exact⟨jF (wW xs lo hi) hz,_,(r.drop (HT.sIx xs.length 0 lo)).take (HT.sIx xs.length xs.length hi-HT.sIx xs.length 0 lo),IsTup.new _ _⟩
def OM (K:jb):R2:=λx y H Q=>∃ a b xs ys,x=.ref a/\y=.ref b/\mU K H a xs/\mU K H b ys/\xs≠[]/\xs.length+ys.length<=sizeLine /\
 (ys=[]->Q (.ref a) H)/\(ys≠[]->∀ p,H p=Gb->Q (.ref p) (upd H p (.tup (xs++ys))))
theorem ip.nil_iff {xs:List V}{us:List Gg}(r:ip xs us):us=[]↔xs=[]:=by
 cases r with
 | nil=>simp
 | cons _ _=>simp
theorem GO:lU X (binaryOp .Add) (OM X.K):=by
 intro ω s σ H x y v u Q I rx ry h;obtain⟨a,b,xs,ys,rfl,rfl,ha,hb,hx,hz,q1,q2⟩:=h;cases rx;cases ry;obtain⟨its,r1,p1,_⟩:=I.tuple ha;obtain⟨its2,r2,p2,_⟩:=I.tuple hb;refine HT.cat_tup p1 p2 (λz=>hx (r1.nil_iff.mp z)) (λz=>⟨.ref a,H,I,rfl,q1 (r2.nil_iff.mp z)⟩) (λz=>?_) (by rw[<- r1.length,<- r2.length];exact hz);refine⟨.ref s.heap.objs.size,_,I.laid (t':=s.toks) (o:=.tup (xs++ys)) (λb ob q=>jf _ q) (jm _) ?_,rfl,q2 (λw=>z (r2.nil_iff.mpr w)) _ (I.hok.fresh (jm _))⟩;exact⟨by rw[ju];exact hz,_,r1.append r2,IsTup.new _ _⟩
end
def ixN (n:Nat)(i:Int):Option Nat:=if 0<=i then(if i<n then Ga i.toNat else Gb) else if -(n:Int)<=i then Ga (i+n).toNat else Gb
def atI {α:Type}(xs:List α)(i:Int):Option α:=(ixN xs.length i).bind λj=>xs[j]?
theorem Hg {n:Nat}{i:Int}{j:Nat}(h:ixN n i=Ga j):seqIndex? i n=Ga j/\j<n/\-(n:Int)<=i/\i<n:=by
 unfold ixN at h;by_cases h0:0<=i
 .rw[Ge h0] at h;by_cases h1:i<n
  .rw[Ge h1] at h;have e:i.toNat=j:=jJ h;exact⟨by rw[seqIndex_of h0 h1,e],by omega,by omega,h1⟩
  .rw[Gf h1] at h;cases h
 .rw[Gf h0] at h;by_cases h1:-(n:Int)<=i
  .rw[Ge h1] at h;have e:(i+n).toNat=j:=jJ h;exact⟨by rw[seqIndex_neg (by omega) h1,e],by omega,h1,by omega⟩
  .rw[Gf h1] at h;cases h
theorem yv {α:Type}{xs:List α}{i:Int}{v:α}(h:atI xs i=Ga v):∃ j,seqIndex? i xs.length=Ga j/\xs[j]?=Ga v/\j<xs.length/\-(xs.length:Int)<=i/\i<xs.length:=by
 unfold atI at h;cases e:ixN xs.length i with
 | none=>rw[e] at h;cases h
 | some j =>
  rw[e] at h;obtain⟨h1,h2,h3,h4⟩:=Hg e;exact⟨j,h1,h,h2,h3,h4⟩
theorem atI_nat {α:Type}{xs:List α}{j:Nat}{v:α}(h:xs[j]?=Ga v):atI xs (j:Int)=Ga v:=by
 have hj:j<xs.length:=(jn.mp h).1;have e:ixN xs.length (j:Int)=Ga j:=by
  unfold ixN;rw[Ge (by omega),Ge (by omega)];simp
 unfold atI;rw[e];exact h
theorem atI_last {α:Type}(xs:List α)(v:α):atI (xs++[v]) (-1)=Ga v:=by
 have hl:(xs++[v]).length=xs.length+1:=by simp
 have e:ixN (xs++[v]).length (-1)=Ga xs.length:=by
  unfold ixN;rw[hl,Gf (by decide),Ge (by omega)]
  congr 1
  omega
 unfold atI;rw[e];show(xs++[v])[xs.length]?=Ga v;simp
def yH (b:Expr):Prop:=∀ o i,subscripted b false o i=operate [o,i] (getItem o i)
def yc (X:Cx)(r:R2):Prop :=
 ∀ (value slice:Expr) (ω:List (Gj×Obj)) (s:Gh) (σ:St) (H:Hp) (x y:V) (v u:Gg) (Q:VK),gS X ω σ H s->iA x v->iA y u->r x y H Q ->
  subscripted slice false v u=operate [v,u] (getItem v u)->wpAny (model X.prog X.w) X.A (subscriptTail value slice v u) (EP X ω σ Q) X.xe s
def yO (X:Cx)(id:String)(r:V->List V->Hp->VK->Prop):Prop :=
 ∀ (ω:List (Gj×Obj)) (s:Gh) (σ:St) (H:Hp) (x:V) (xs:List V) (v:Gg) (us:List Gg) (Q:VK),gS X ω σ H s->iA x v->ip xs us->r x xs H Q ->
  wpAny (model X.prog X.w) X.A (call (.builtin id) (v::us)) (EP X ω σ Q) X.xe s
section
variable {X:Cx}{a b:Expr}{ta tb:TE}{pos:Pos}
theorem yc.or {r r':R2}(h:yc X r)(h':yc X r'):yc X (λx y H Q=>r x y H Q\/r' x y H Q):=by
 intro value slice ω s σ H x y v u Q I rx ry q hs;rcases q with q|q
 .exact h value slice ω s σ H x y v u Q I rx ry q hs
 .exact h' value slice ω s σ H x y v u Q I rx ry q hs
theorem yO.or {id:String}{r r':V->List V->Hp->VK->Prop}(h:yO X id r)(h':yO X id r'):yO X id (λx xs H Q=>r x xs H Q\/r' x xs H Q):=by
 intro ω s σ H x xs v us Q I rx rs q;rcases q with q|q
 .exact h ω s σ H x xs v us Q I rx rs q
 .exact h' ω s σ H x xs v us Q I rx rs q
theorem Gy {r:R2}(hr:yc X r)(ha:PE X a ta)(hb:PE X b tb)(hs:yH b):PE X (.Subscript a b pos) (DF r ta tb):=by
 intro ω s σ H Q I h;exact Subscript_ (Ee ha hb I h λv u s2 x y H2 I2 rx ry q=>hr a b ω s2 σ H2 x y v u Q I2 rx ry q (hs _ _))
def Kw (K:jb):R2:=λx y H Q=>∃ p xs i v,x=.ref p/\y=.int i/\lH K H p xs/\atI xs i=Ga v/\Q v H
def HU (K:jb):R2:=λx y H Q=>∃ p xs i v,x=.ref p/\y=.int i/\mU K H p xs/\atI xs i=Ga v/\Q v H
def Ik:R2:=λx y H Q=>∃ z i c,x=.str z/\y=.int i/\z.length<=sizeLine/\atI z.cps.toList i=Ga c/\Q (.str ⟨#[c]⟩) H
theorem AW:yc X (Kw X.K):=by
 intro value slice ω s σ H x y v u Q I rx ry h hs;obtain⟨p,xs,i,z,rfl,rfl,hq,he,q⟩:=h;cases rx;obtain⟨t,rfl⟩:=ry;obtain⟨its,r,pl,hz⟩:=I.list hq;obtain⟨j,h1,h2,h3,h4,h5⟩:=yv he;obtain⟨w,ew,rw'⟩:=r.get h2;have hl:=r.length;have hn:=wA;have fin:EP X ω σ Q w s:=⟨z,H,I,rw',q⟩;by_cases h0:0<=i
 .have hj:i.toNat=j:=by
   rw[seqIndex_of h0 h5] at h1;exact jJ h1
  exact item_listR pl.isList h0 (by omega) (by rw[hj];simpa using ew) fin hs
 .have hj:(i+(its.toArray.size:Int)).toNat=j:=by
   rw[seqIndex_neg (by omega) h4] at h1;rw[jl,<- hl];exact jJ h1
  exact subscriptTail_builtinR (x:=w) pl.isList.typeIs slot_list_getitem.lookup
   (wpAny_getItem_list_neg (Q:=λr s'=>r=w/\EP X ω σ Q r s') pl.isList (by omega) (by rw[jl]<;>omega) (by omega) (by rw[hj];simpa using ew) ⟨rfl,fin⟩) hs
theorem Mk:yc X (HU X.K):=by
 intro value slice ω s σ H x y v u Q I rx ry h hs;obtain⟨p,xs,i,z,rfl,rfl,hq,he,q⟩:=h;cases rx;obtain⟨t,rfl⟩:=ry;obtain⟨its,r,pl,hz⟩:=I.tuple hq;obtain⟨j,h1,h2,h3,h4,h5⟩:=yv he;obtain⟨w,ew,rw'⟩:=r.get h2;have hl:=r.length;have hn:=wA;have fin:EP X ω σ Q w s:=⟨z,H,I,rw',q⟩;exact subscriptTail_builtinR (x:=w) pl.typeIs slot_tuple_getitem.lookup
  (getItem_tuple (j:=j) (Q:=λr s'=>r=w/\EP X ω σ Q r s') pl (by omega) (by omega) (by rw[jl,<- hl];exact h1) (by simpa using ew) ⟨rfl,fin⟩) hs
theorem MK:yc X Ik:=by
 intro value slice ω s σ H x y v u Q I rx ry h hs;obtain⟨z,i,c,rfl,rfl,hz,he,q⟩:=h;obtain⟨t,rfl⟩:=rx;obtain⟨t',rfl⟩:=ry;obtain⟨j,h1,h2,h3,h4,h5⟩:=yv he;have hl:z.cps.toList.length=z.length:=by simp[Str.length]
 rw[hl] at h1 h4 h5;have hn:=wA;exact tail_any (typeIs_str s z t) slot_str_getitem.lookup (getItem_str (c:=c) (by
  have e1:decide (i < -(2^63:Int))=false:=Gd (by omega);have e2:decide (i≥2^63)=false:=Gd (by omega);rw[e1,e2,uI]) (by rw[h1];simpa using h2) ⟨.str ⟨#[c]⟩,H,I.tok _,⟨_,rfl⟩,q⟩) hs
def Pm (K:jb):R2:=λx y H Q=>Kw K x y H Q\/HU K x y H Q\/Ik x y H Q
theorem Ob:yc X (Pm X.K):=AW.or (Mk.or MK)
theorem gS.lst {ω:List (Gj×Obj)}{σ:St}{H:Hp}{s:Gh}{p:Gj}{xs:List V}(I:gS X ω σ H s)(h:H p=Ga (.lst xs)) :
  ∃ (its:List Gg) (n:Nat),ip xs its/\s.heap.get? p=Ga { cls:=.type "list",data:=.seq its.toArray n }/\xs.length<=sizeLine:=by
 obtain⟨z,its,n,r,e⟩:=I.hok p _ h;exact⟨its,n,r,e,z⟩
theorem AI (lo hi:Option Int)(n:Nat):(sliceBounds lo hi Gb n).1=((HT.sIx n 0 lo:Nat):Int)/\(sliceBounds lo hi Gb n).2.1=((HT.sIx n n hi:Nat):Int)/\(sliceBounds lo hi Gb n).2.2=1:=by
 refine⟨?_,?_,rfl⟩
 .cases lo with
  | none=>simp[sliceBounds,HT.sIx]
  | some i =>
   simp only[sliceBounds,HT.sIx,JN,show(1:Int)>0 by decide,if_true];by_cases h:i<0
   .simp only[h,if_true]<;>omega
   .simp only[h,if_false]<;>omega
 .cases hi with
  | none=>simp[sliceBounds,HT.sIx]
  | some i =>
   simp only[sliceBounds,HT.sIx,JN,show(1:Int)>0 by decide,if_true];by_cases h:i<0
   .simp only[h,if_true]<;>omega
   .simp only[h,if_false]<;>omega
theorem zB (its:List Gg)(lo hi:Option Int):slicePick its.toArray lo hi Gb=((its.drop (HT.sIx its.length 0 lo)).take (HT.sIx its.length its.length hi-HT.sIx its.length 0 lo)).toArray:=by
 obtain⟨h1,h2,h3⟩:=AI lo hi its.toArray.size;unfold slicePick;rw[h1,h2,h3];simp only[sliceRange_one,pick_run,jl]<;>rfl
def UU (K:jb):V->Option Int->Option Int->Hp->VK->Prop:=λx lo hi H Q=>∃ a xs,x=.ref a/\lH K H a xs/\∀ p,H p=Gb->Q (.ref p) (upd H p (.lst (sE xs lo hi)))
theorem He:Aj X (UU X.K):=by
 intro ω s σ H x v vl vu lo hi sl Q I rx hs pl pu h;obtain⟨a,xs,rfl,hx,q⟩:=h;cases rx;obtain⟨its,r,ht,hz⟩:=I.list hx;have hlen:=r.length;refine⟨"list",_,slot_list_getitem.lookup,ht.isList.typeIs,?_⟩;refine wpAny_getItem_list_slice ht.isList hs pl pu .none (by simp) ?_ (by rw[jl]<;>omega);rw[zB,<- hlen];refine⟨.ref s.heap.objs.size,_,I.laid (t':=s.toks) (o:=.lst (sE xs lo hi)) (λb ob q=>jf _ q) (jm _) ?_,rfl,q _ (I.hok.fresh (jm _))⟩;exact⟨jF (wW xs lo hi) hz,_,0,(r.drop (HT.sIx xs.length 0 lo)).take (HT.sIx xs.length xs.length hi-HT.sIx xs.length 0 lo),jy _ rfl⟩
theorem AA:my X (.builtin "len") (λxs H Q=>∃ p ys,xs=[.ref p]/\(lH X.K H p ys\/mU X.K H p ys)/\Q (.int ys.length) H):=by
 intro ω s σ H xs us Q I r h;obtain⟨p,ys,rfl,hq,q⟩:=h;obtain⟨u,rfl,rx⟩:=oT r;cases rx;have hn:=wA;rcases hq with hq|hq
 .obtain⟨its,r',pl,hz⟩:=I.list hq;have hlen:=r'.length;exact Calls.call_len_list pl.isList (by simp only[jl]<;>omega) ⟨.int ys.length,H,I.tok _,⟨s.toks+1,by rw[jl,hlen]⟩,q⟩
 .obtain⟨its,r',pl,hz⟩:=I.tuple hq;have hlen:=r'.length;exact len_tuple pl (by simp only[jl]<;>omega) ⟨.int ys.length,H,I.tok _,⟨s.toks+1,by rw[jl,hlen]⟩,q⟩
theorem my.or {f:Gg}{r r':List V->Hp->VK->Prop}(h:my X f r)(h':my X f r'):my X f (λxs H Q=>r xs H Q\/r' xs H Q):=by
 intro ω s σ H xs us Q I rs q;rcases q with q|q
 .exact h ω s σ H xs us Q I rs q
 .exact h' ω s σ H xs us Q I rs q
theorem zC:my X (.type "tuple") (λxs H Q=>∃ p ys,xs=[.ref p]/\((lH X.K H p ys/\∀ l,H l=Gb->Q (.ref l) (upd H l (.tup ys)))\/(mU X.K H p ys/\Q (.ref p) H))):=by
 intro ω s σ H xs us Q I r h;obtain⟨p,ys,rfl,h⟩:=h;obtain⟨u,rfl,rx⟩:=oT r;cases rx;rcases h with ⟨hq,q⟩|⟨hq,q⟩
 .obtain⟨its,r',pl,hz⟩:=I.list hq;have hlen:=r'.length;refine call_tuple_list pl.isList (λh' kp=>?_) (by simp only[jl]<;>omega);have I1:gS X ω σ H { s with heap:=h' }:=I.kept (t':=s.toks) kp;have I2:gS X ω σ (upd H h'.objs.size (.tup ys)) { s with heap:=h'.push { cls:=.type "tuple",data:=.seq its.toArray } } :=
   I1.laid (t':=s.toks) (λb o e=>jf _ e) (jm _) (show mR X.prog X.w _ _ _ (.tup ys) from⟨hz,its,r',IsTup.new _ _⟩)
  exact⟨.ref h'.objs.size,_,I2,rfl,q _ (I1.hok.fresh (jm _))⟩
 .obtain⟨its,r',pl,hz⟩:=I.tuple hq;exact call_tuple_same pl ⟨.ref p,H,I,rfl,q⟩
def Mx (K:jb)(T:String)(x:V)(H:Hp):Prop:=match x with
 | .str _=>T="str"
 | .int _=>T="int"
 | .ref p=>(T="list"/\∃ xs,lH K H p xs)\/(T="tuple"/\∃ o,K.lookup p=Ga o/\o.cls=.type "tuple"/\o.dict=Gb) \/
   (T="dict"/\((∃ kvs,H p=Ga (.dK kvs))\/∃ kvs,H p=Ga (.dT kvs)))\/(T="set"/\∃ S n,H p=Ga (.set S n))
 | _=>False
theorem CT {ω:List (Gj×Obj)}{σ:St}{H:Hp}{s:Gh}{T:String}{x:V}{v:Gg}(I:gS X ω σ H s)(r:iA x v)(ty:Mx X.K T x H) :
  s.TypeIs v T/\∀ a,v=.ref a->∃ ob,s.heap.get? a=Ga ob/\ob.dict=Gb:=by
 cases x with
 | str z =>
  obtain⟨t,rfl⟩:=r;cases(show T="str" from ty);exact⟨typeIs_str s z t,λ_ e=>nomatch e⟩
 | int i =>
  obtain⟨t,rfl⟩:=r;cases(show T="int" from ty);exact⟨typeIs_int s i t,λ_ e=>nomatch e⟩
 | ref p =>
  cases r;rcases ty with ⟨rfl,xs,hq⟩|⟨rfl,o,hk,hc,hd⟩|⟨rfl,hk⟩|⟨rfl,S,n,hk⟩
  .obtain⟨its,_,pl,_⟩:=I.list hq;refine⟨pl.isList.typeIs,λa e=>?_⟩;cases e;obtain⟨o,n,e,c,hd,_⟩:=pl;exact⟨o,e,hd⟩
  .refine⟨⟨o,I.kIn p o hk,hc⟩,λa e=>?_⟩;cases e;exact⟨o,I.kIn _ o hk,hd⟩
  .have z:∃ o,s.heap.get? p=Ga o/\o.ExactDict:=by
    rcases hk with ⟨kvs,hk⟩|⟨kvs,hk⟩
    .obtain⟨_,_,_,_,o,_,_,e,ex,_⟩:=I.hok p _ hk;exact⟨o,e,ex⟩
    .obtain⟨_,_,_,_,o,_,_,e,ex,_⟩:=I.hok p _ hk;exact⟨o,e,ex⟩
   obtain⟨o,e,ex⟩:=z;refine⟨⟨o,e,ex.1⟩,λa e2=>?_⟩;cases e2;exact⟨o,e,ex.2.1⟩
  .obtain⟨o,_,_,_,e,ex,_⟩:=I.hok p _ hk;refine⟨⟨o,e,ex.1⟩,λa e2=>?_⟩;cases e2;exact⟨o,e,ex.2.1⟩
 | _=>exact False.elim ty
def Up (K:jb)(T:String)(r:V->List V->Hp->VK->Prop)(to:TE):TE:=λσ H Q=>to σ H λx H1=>Mx K T x H1/\r x [] H1 Q
def XG (K:jb)(T:String)(r:V->List V->Hp->VK->Prop)(to:TE)(t:TA):TE:=λσ H Q=>to σ H λx H1=>Mx K T x H1/\t σ H1 λxs H2=>r x xs H2 Q
variable {o e:Expr}{es:List Expr}{to:TE}{t:TA}{name:Str}{apos cpos:Pos}{T id:String}{r:V->List V->Hp->VK->Prop}
theorem MM (pa:PlainAttrs T)(slot:Slot T name id)(hty:typeOf (.builtin id)=pure (.type "method_descriptor"))(hm:yO X id r)(ho:PE X o to)
  (hbase:attributeBase o name X.env (eval o X.env)=eval o X.env:=by rfl) (hline:(apos.endLine==cpos.line)=true:=by rfl):PE X (.Call (.Attribute o name apos) [] [] cpos) (Up X.K T r to):=by
 intro ω s σ H Q I h;refine wpAny_Call_method0_late hbase hline (iR (ho ω s σ H _ I h) λv s1 ⟨x,H1,I1,r1,ty,q1⟩=>?_);obtain⟨h1,h2⟩:=CT I1 r1 ty;exact⟨T,id,pa,slot,hty,h1,h2,uT rfl (PySem.evalArgs_none (hm ω s1 σ H1 x [] v [] Q I1 r1 .nil q1))⟩
theorem GL (pa:PlainAttrs T)(slot:Slot T name id)(hty:typeOf (.builtin id)=pure (.type "method_descriptor"))(hm:yO X id r)(ho:PE X o to)(ha:PA X (e::es) t)
  (hbase:attributeBase o name X.env (eval o X.env)=eval o X.env:=by rfl)
  (hfew:((backTo cpos (starEach (e::es) X.env)).all (λx=>!x.1)&&(backToKw cpos (keywordEach [] X.env)).all (λx=>x.1.isSome)
   && decide ((e::es).length+([]:List Keyword).length+(if ([]:List Keyword).isEmpty then 0 else 1)<30))=true:=by rfl)
  (hline:(apos.endLine==cpos.line)=true:=by rfl) (hs:starEach (e::es) X.env=(false,eval e X.env)::starEach es X.env:=by rfl) (hplain:(backTo cpos (starEach es X.env)).any (·.1)=false:=by rfl) :
  PE X (.Call (.Attribute o name apos) (e::es) [] cpos) (XG X.K T r to t):=by
 intro ω s σ H Q I h;refine wpAny_Call_method_late hbase hfew hline rfl (iR (ho ω s σ H _ I h) λv s1 ⟨x,H1,I1,r1,ty,q1⟩=>?_);obtain⟨h1,h2⟩:=CT I1 r1 ty;refine⟨T,id,pa,slot,hty,h1,h2,?_⟩;have hA:=ha cpos ω s1 σ H1 _ I1 q1;rw[hs] at hA ⊢;refine uT (by show(false||(backTo cpos (starEach es X.env)).any (·.1))=false;rw[hplain]<;>rfl) (uX ?_);exact iR hA λus s2 ⟨vs,H2,I2,r2,q2⟩=>hm ω s2 σ H2 x vs v us Q I2 r1 r2 q2
end
def VL (X:Cx)(id:String)(r:V->List V->Hp->VK->Prop):Prop :=
 ∀ (ω:List (Gj×Obj)) (s:Gh) (σ:St) (H:Hp) (x:V) (xs:List V) (v:Gg) (us:List Gg) (Q:VK),gS X ω σ H s->iA x v->ip xs us->r x xs H Q ->
  wpAny (model X.prog X.w) X.A (call (.builtin id) (v::us)) (EP X ω σ Q) X.xe s
theorem ip.one:∀ {x:V} {us:List Gg},ip [x] us->∃ u,us=[u]/\iA x u
 | _,_,.cons r .nil=>⟨_,rfl,r⟩
theorem ip.zero:∀ {us:List Gg},ip [] us->us=[]
 | _,.nil=>rfl
theorem ip.reverse {xs:List V}{us:List Gg}(h:ip xs us):ip xs.reverse us.reverse:=by
 induction h with
 | nil=>exact .nil
 | cons r t ih=>rw[uD,uD];exact ip.append ih (.cons r .nil)
theorem ip.rep {xs:List V}{us:List Gg}(h:ip xs us):∀ k:Nat,ip (jU k xs).flatten (jU k us).flatten
 | 0=>.nil
 | k+1=>by
  rw[kY,kY,uE,uE];exact ip.append h (ip.rep h k)
theorem zj (its:List Gg):∀ (k:Nat) (acc:List Gg),
  Jp (λx1 x2=>x1++x2) acc.toArray (jU k its.toArray)=(acc++(jU k its).flatten).toArray
 | 0,acc=>by simp
 | k+1,acc=>by
  have e:acc.toArray++its.toArray=(acc++its).toArray:=by simp
  have e2:(acc++its)++(jU k its).flatten=acc++(jU (k+1) its).flatten:=by
   rw[kY,uE,kU]
  rw[<- e2,<- zj its k (acc++its),<- e,kY,uB]
section
variable {X:Cx}{ω:List (Gj×Obj)}{σ:St}{H:Hp}{s:Gh}{l b:Gj}{xs ys zs:List V}
theorem gS.lset {its its':List Gg}{n:Nat}{f:Array Gg->Array Gg}{t':Nat}(I:gS X ω σ H s)(hH:H l=Ga (.lst xs))
  (e:s.heap.get? l=Ga { cls:=.type "list",data:=.seq its.toArray n }) (hf:f its.toArray=its'.toArray) (hv:ip ys its') (hz:ys.length<=sizeLine) :
  gS X ω σ (upd H l (.lst ys)) { s with heap:=s.heap.update l (kg f),toks:=t' }:=by
 have q:=PySem.IsL.update e f;rw[hf] at q;refine I.write (x:=l) (e:=l) (by rw[hH];exact trivial) (.inl rfl) (λb' u hb hu=>(kW s.heap (kg f) (uo hb)).trans hu) ⟨_,q⟩ ?_;exact⟨hz,its',_,hv,q⟩
theorem gS.lnew {its:List Gg}{t':Nat}(I:gS X ω σ H s)(hv:ip ys its)(hz:ys.length<=sizeLine) :
  gS X ω σ (upd H s.heap.objs.size (.lst ys)) { s with heap:=s.heap.push { cls:=.type "list",data:=.seq its.toArray },toks:=t' } :=
 I.laid (λ_ _ q=>jf _ q) (jm _) ⟨hz,its,0,hv,jy _ rfl⟩
theorem gS.fresh (I:gS X ω σ H s):H s.heap.objs.size=Gb:=I.hok.fresh (jm _)
theorem gS.lstM (I:gS X ω σ H s)(hH:H l=Ga (.lst xs)):xs.length<=sizeLine/\∃ (its:List Gg) (n:Nat),ip xs its/\xs.length=its.length/\s.heap.get? l=Ga { cls:=.type "list",data:=.seq its.toArray n }:=by
 obtain⟨z,its,n,r,e⟩:=I.hok l _ hH;exact⟨z,its,n,r,r.length,e⟩
theorem Ec {n:Nat}(h:n<=sizeLine):vo n=false:=by
 unfold vo;exact Gd (by omega)
end
section
variable {X:Cx}
def Hf:V->List V->Hp->VK->Prop:=λx vs H Q=>∃ l xs y,x=.ref l/\vs=[y]/\H l=Ga (.lst xs)/\xs.length<sizeLine/\Q .non (upd H l (.lst (xs++[y])))
theorem zb:VL X "list.append" Hf:=by
 intro ω s σ H x vs v us Q I rx rv h;obtain⟨l,xs,y,rfl,rfl,hH,hz,q⟩:=h;cases rx;obtain⟨u,rfl,ru⟩:=rv.one;obtain⟨z,its,n,r,hl,e⟩:=I.lstM hH;refine call_meets F.slot_list_append ⟨_,e,rfl⟩ F.entry_list_append (F.args_list_append_2 _ _) (PySem.list_append l its.toArray n u (by rw[jl];omega)) ⟨e,?_⟩;refine⟨.non,_,I.lset (its':=its++[u]) hH e (by simp) (r.append (.cons ru .nil)) ?_,rfl,q⟩;rw[ju,j9];omega
theorem AQ {α:Type}(xs:List α)(k:Nat):(jU k xs).flatten.length=k*xs.length:=by
 induction k with
 | zero=>simp
 | succ k ih=>rw[kY,uE,ju,ih,Nat.succ_mul,Nat.add_comm]
end
section
variable {prog:Program}{w:World}{A:Around}{E:Gg->Gh->Prop}{s:Gh}
end
section
variable {X:Cx}
end
end L2
namespace Att
open PySem PySem.W PySem.Calls PyProof.Rows
theorem xV {P:Params}{h:Heap}:∀ (ns:List Int) (vs:List Gg),WellAll P h vs (ns.map WData.int)->IntsAre vs ns:=by
 intro ns;induction ns with
 | nil =>
  intro vs w;rw[Jz] at w;cases w;exact .nil
 | cons n ns ih =>
  intro vs w;rw[jK] at w;cases w with
  | cons a b =>
   cases a;exact .cons _ _ (ih _ b)
theorem CA {l:OpenLaw}{n:Nat}(hn:l.most=Ga n){P:Params}{h:Heap}{args:List WData}{vals:List Gg}
  (hpre:l.row.toRowW.claim.pre args=true) (hwl:WellAll P h vals args) :
  ∃ a vs ns,vals=[kP a]/\args=[WData.list (ns.map WData.int)]/\h.get? a=Ga { cls:=.type "list",data:=.seq vs.toArray }/\IntsAre vs ns/\ns.length<=n:=by
 have hsh:WShape.hasAll [] args [.list .int]=true:=(pre_splitW hpre).1;have hc:l.pre.holds [] { args:=args }=true:=(pre_splitW hpre).2;obtain⟨d,r,rfl,h1,h2⟩:=hasAllW_cons hsh;obtain rfl:=hasAllW_nil h2;obtain⟨xs,rfl,h3⟩:=hasW_list h1;obtain⟨ns,rfl⟩:=items_int h3;have hlen:ns.length<=n:=by
  unfold OpenLaw.pre at hc;have h4:(WTm.not (.lt (.lit (.int (n:Int))) (.len (.arg 0)))).holds [] { args:=[.list (ns.map .int)] }=true:=by
   have h4:=(holds_andW hc).1;rw[hn] at h4;exact h4
  have h5:=condW_of h4 (w_not (w_lt w_lit (w_len_list (w_arg rfl))));rw[jd] at h5;refine Nat.le_of_not_lt λq=>?_;have q':(n:Int)<((ns.length:Nat):Int):=by omega
  first
   | (rw[Gc q'] at h5;exact absurd h5 (by decide))
   | (simp at h5;omega)
 cases hwl with
 | cons w1 w2 =>
  cases w2;cases w1 with
  | list ho hall=>exact⟨_,_,ns,rfl,rfl,ho,xV ns _ hall,hlen⟩
theorem DR (l:OpenLaw)(args:List WData):l.row.toRowW.claim.post args (.bool true) args=true :=
 postW_of (r:=l.row.toRowW) (X:=(true==true))
  (show WShape.has [] (.bool true) .bool=true by first|rfl|decide|simp[WShape.has,WShape.arms,WShape.armsAll])
  (show(WTm.eq .res (.lit (.bool true))).value [] { args:=args,res:=Ga (.bool true),after:=args }=Ga (.bool (true==true)) from w_eq_bool (w_res rfl) w_lit) rfl
theorem attach_call {l:OpenLaw}{n:Nat}{q:Program}{loose:List Str}{XP:(Str->Option Gg)->Heap->Prop}{YP:World->Heap->Prop}{d:DefRec}
  (hn:l.most=Ga n) (hdf:d.params.defaults=[])
  (call:∀ (w:World) (s₀ s₁:Gh) (mg mb:Str->Option Gg) (fa:Gj) (o:Obj) (pm cd doc:Gg) (a:Gj) (vs:List Gg) (ns:List Int),
   Ground q loose [] XP w s₀ mg mb s₁.heap->YP w s₁.heap ->
   s₁.heap.get? fa=Ga o->o.data=.func (docDef d.name d.params d.body d.scope pm cd doc)->s₁.heap.CodeRec cd d.name->mg d.name=Ga (.ref fa) ->
   s₁.heap.get? a=Ga { cls:=.type "list",data:=.seq vs.toArray }->IntsAre vs ns->ns.length<=n->s₁.gens=#[] ->
   codeAny (model l.prog w) callerA (.call (.ref fa) ⟨[.ref a],[]⟩) (λr s'=>r=.ok (.ret (.bool true))/\OldK s₁.heap s'.heap/\s'.os=s₁.os/\AllBare s'.gens) s₁) :
  WalkO q loose XP YP l.row.toRowW d [] (λf vs=>Jq f vs):=by
 intro w s₀ s₁ mg mb G Y fa o pm cd doc dV kV ho hd hcd hD hmg hg args vals as hpre hlay hrd hwl hlo;obtain rfl:dV=.none:=Dflts.none hD hdf;obtain rfl:kV=.none:=Dflts.noKw hD;obtain⟨a,vs,ns,rfl,rfl,hobj,hints,hlen⟩:=CA hn hpre hwl;refine enter_call (codeAny_mono (call w s₀ s₁ mg mb fa o pm cd doc a vs ns G Y ho (fd_plain hd) hcd hmg hobj hints hlen hg) λr s' hq=>?_);obtain⟨rfl,h2,h3,h4⟩:=hq;exact⟨.inl ⟨.bool true,.bool true,[],rfl,λ_=>rfl,.bool true,DR l _,λ_=>⟨List.Pairwise.nil,λ_ hm=>(nomatch hm)⟩⟩,h2,h3,h4⟩
section
variable {prog:Program}{w:World}{A:Around}{E:Gg->Gh->Prop}{s:Gh}{K:Frag}
end
end Att
namespace L2
open PySem PySem.Spec PyProof.Rows
theorem wE:∀ {vs:List Gg} {ns:List Int},IntsAre vs ns->ip (ns.map V.int) vs
 | _,_,.nil=>.nil
 | _,_,.cons n t h=>.cons ⟨t,rfl⟩ (wE h)
def BX (H:Hp):Prop:=∀ b,H b=Gb\/∃ o xs,H b=Ga (.frz o (.lst xs))
theorem Ej {P:Program}{w:World}{K:jb}{mg mb:Str->Option Gg}{CX:rY}{k:Nat}{fa a:Gj}{fd:Gi}{x:Str}{sp:Sp}{s₁:Gh}{vs:List Gg}{ns:List Int}
  (KX:K.In s₁.heap) (hns:s₁.heap.Ns mainGlobals mg) (hb:s₁.heap.Ns builtinsNs mb) (hbb:∀ x:Str,x≠"__name__"->mb x=bootBuiltins x) (hlim:s₁.heap.NoLimit) (hg:s₁.gens=#[])
  (ha:s₁.heap.get? a=Ga { cls:=.type "list",data:=.seq vs.toArray }) (hi:IntsAre vs ns) (hl:ns.length<=sizeLine) (hr:lK k callerA)
  (F:∀ base:Heap,K.In base->base.Ns mainGlobals mg->hV P w K mg base CX k fa fd [x] sp) (hbind:∀ (s:Gh) (u:Gg),BindsTo s fd ⟨[u],[]⟩ [(x,u)])
  (hsp:∀ H:Hp,BX H->lH K H a (ns.map V.int)->sp [.ref a] H (λv _=>v=.bl true) λ_ _ _=>False)
  (hCX:∀ H e s',CX [] H s₁ (λ_ _ _=>False) e s'->False) :
  codeAny (model P w) callerA (.call (.ref fa) ⟨[.ref a],[]⟩) (λr s'=>r=.ok (.ret (.bool true))/\OldK s₁.heap s'.heap/\s'.os=s₁.os/\AllBare s'.gens) s₁:=by
 have rv:=wE hi;have lenV:=hi.length;have core:∀ H:Hp,BX H->lH K H a (ns.map V.int)->HOk P w H s₁.heap->(∀ b,H b≠Gb->b=a)->(H a≠Gb->K.lookup a=Gb) ->
   codeAny (model P w) callerA (.call (.ref fa) ⟨[.ref a],[]⟩) (λr s'=>r=.ok (.ret (.bool true))/\OldK s₁.heap s'.heap/\s'.os=s₁.os/\AllBare s'.gens) s₁:=by
  intro H hO hS hok hA hK;have base_of:∀ {b:Gj} {o:Obj},s₁.heap.get? b=Ga o->H b=Gb->(pA s₁.heap H).get? b=Ga o:=λe n=>zR e n;have noA:∀ {b:Gj} {o:Obj} {es:Array DictEntry} {ep:Nat},s₁.heap.get? b=Ga o->o.data=.dict es ep->H b=Gb:=λ{b o es ep} e d=>by
   cases q:H b with
   | none=>rfl
   | some u =>
    have e':b=a:=hA b (by rw[q];simp);subst e';rw[ha] at e;cases e;have d':Data.seq vs.toArray _=Data.dict es ep:=d;cases d'
  have nsK:∀ {b:Gj} {m:Str->Option Gg},s₁.heap.Ns b m->(pA s₁.heap H).Ns b m:=λ{b m} ⟨o,es,ep,e,d,r⟩=>⟨o,es,ep,base_of e (noA e d),d,r⟩;have hKb:K.In (pA s₁.heap H):=λb o e=>base_of (KX b o e) (by
   cases q:H b with
   | none=>rfl
   | some u =>
    have e':b=a:=hA b (by rw[q];simp);subst e';rw[hK (by rw[q];simp)] at e;cases e)
  have hM:Mod K mg (pA s₁.heap H):=⟨hKb,nsK hns,⟨mb,nsK hb,hbb⟩,let ⟨mc,h1,h2⟩:=hlim;⟨mc,nsK h1,h2⟩⟩;have e0:sD P w K mg (pA s₁.heap H) callerA [] s₁ H:=⟨rfl,hM,λb o e=>BG e,Jy (zh _ _),trivial,λb hb=>absurd (show b∈([]:List Gj) from hb) (by simp),hok,.of_eq hg⟩;refine codeAny_mono ((F _ hKb (nsK hns)).run callerA [] s₁ H ⟨[.ref a],[]⟩ [.ref a] [.ref a] _ _ hr e0 (hbind s₁ (.ref a)) (.cons rfl .nil) (hsp H hO hS)) λr s' h=>?_;cases r with
  | error e=>exact(hCX H e s' h).elim
  | ok fl =>
   cases fl with
   | next=>exact False.elim h
   | brk=>exact False.elim h
   | cont=>exact False.elim h
   | ret u =>
    obtain⟨v,H',os,bare,un,hok',r',q⟩:=h;have q':v=.bl true:=q;subst q';obtain rfl:u=uP true:=r';refine⟨rfl,OldK.of_keep λb o e=>?_,os,bare⟩;cases q:H b with
    | none=>exact un.keep b o e q (by intro z;exact absurd (show b∈([]:List Gj) from z) (by simp)) (by simp)
    | some u =>
     rcases hO b with z|⟨ob,xs,z⟩
     .rw[q] at z;cases z
     .have z2:=un.frzs b ob _ z;obtain⟨e1,_⟩:=hok b _ z;obtain⟨e2,_⟩:=hok' b _ z2;rw[e] at e1;cases e1;exact e2
 cases hk:K.lookup a with
 | some o =>
  have e:=KX a o hk;rw[ha] at e;cases e;refine core (λ_=>Gb) (λ_=>.inl rfl) (.inr ⟨_,vs.toArray,_,hk,rfl,rfl,rfl,by rw[jl,lenV];exact hl,by simpa using rv⟩) (λb u z=>by have z':(Gb:Option HO)=Ga u:=z;cases z') (λb z=>absurd rfl z) λz=>absurd rfl z
 | none =>
  refine core (λb=>if b=a then Ga (.frz { cls:=.type "list",data:=.seq vs.toArray } (.lst (ns.map V.int))) else Gb) (λb=>?_) (.inl (.inr ⟨{ cls:=.type "list",data:=.seq vs.toArray },Ge rfl⟩)) (λb u z=>?_) (λb z=>?_) λ_=>hk
  .by_cases hb:b=a
   .exact .inr ⟨_,_,Ge hb⟩
   .exact .inl (Gf hb)
  .by_cases hb:b=a
   .have z':=(Ge hb).symm.trans z;cases z';subst hb;exact⟨ha,by rw[jd];exact hl,vs,_,rv,ha⟩
   .have z':=(Gf hb).symm.trans z;cases z'
  .by_cases hb:b=a
   .exact hb
   .exact absurd (Gf hb) z
theorem GQ {l:qP}{n k:Nat}{q:Program}{loose:List Str}{XP:(Str->Option Gg)->Heap->Prop}{YP:World->Heap->Prop}{d:DefRec}{K:Params->jb}{CX:World->rY}{sp:World->Sp}{x:Str}
  (hn:l.most=Ga n) (hn2:n<=sizeLine) (hdf:d.params.defaults=[]) (hr:lK k callerA)
  (hY:∀ (w:World) (h:Heap),YP w h->(K w.params).In h)
  (F:∀ (w:World) (mg:Str->Option Gg) (fa:Gj) (h:Heap),(K w.params).In h->h.Ns mainGlobals mg->mg d.name=Ga (.ref fa) ->
   ∃ fd:Gi,(∀ (s:Gh) (u:Gg),BindsTo s fd ⟨[u],[]⟩ [(x,u)]) /\
    ∀ base:Heap,(K w.params).In base->base.Ns mainGlobals mg->hV l.prog w (K w.params) mg base (CX w) k fa fd [x] (sp w))
  (hsp:∀ (w:World) (H:Hp) (a:Gj) (ns:List Int),ns.length<=n->BX H->lH (K w.params) H a (ns.map V.int)->sp w [.ref a] H (λv _=>v=.bl true) λ_ _ _=>False)
  (hCX:∀ (w:World) (H:Hp) (s:Gh) (e:Gg) (s':Gh),CX w [] H s (λ_ _ _=>False) e s'->False) :
  Jl q loose XP YP l.row.toRowW d [] (λf vs=>Jq f vs):=by
 refine Att.attach_call hn hdf λw s₀ s₁ mg mb fa o pm cd doc a vs ns G Y ho hd hcd hmg hobj hints hlen hg=>?_;have KX:=hY w _ Y;obtain⟨fd,hb,hF⟩:=F w mg fa _ KX G.T.g hmg;exact Ej KX G.T.g G.T.b G.T.builtins G.T.nolimit hg hobj hints (jF hlen hn2) hr hF hb (λH hO hS=>hsp w H a ns hlen hO hS) λH e s'=>hCX w H s₁ e s'
theorem Vg {l:qP}{n k:Nat}{q:Program}{loose:List Str}{XP:(Str->Option Gg)->Heap->Prop}{YP:World->Heap->Prop}{d:DefRec}{K:Params->jb}{CX:rY}{sp:jb->Sp}{x:Str}
  (hn:l.most=Ga n) (hn2:n<=sizeLine) (hdf:d.params.defaults=[]) (hr:lK k callerA)
  (hY:∀ (w:World) (h:Heap),YP w h->(K w.params).In h)
  (F:∀ (w:World) (mg:Str->Option Gg) (fa:Gj) (h:Heap),(K w.params).In h->h.Ns mainGlobals mg->mg d.name=Ga (.ref fa) ->
   ∃ fd:Gi,(∀ (s:Gh) (u:Gg),BindsTo s fd ⟨[u],[]⟩ [(x,u)]) /\
    ∀ base:Heap,(K w.params).In base->base.Ns mainGlobals mg->hV l.prog w (K w.params) mg base CX k fa fd [x] (sp (K w.params)))
  (hsp:∀ (K:jb) (H:Hp) (a:Gj) (ns:List Int),ns.length<=n->BX H->lH K H a (ns.map V.int)->sp K [.ref a] H (λv _=>v=.bl true) λ_ _ _=>False)
  (hCX:∀ (H:Hp) (s:Gh) (e:Gg) (s':Gh),CX [] H s (λ_ _ _=>False) e s'->False) :
  Jl q loose XP YP l.row.toRowW d [] (λf vs=>Jq f vs) :=
 GQ (K:=K) (CX:=λ_=>CX) (sp:=λw=>sp (K w.params)) hn hn2 hdf hr hY F (λw H a ns h1 h2 h3=>hsp (K w.params) H a ns h1 h2 h3) λ_ H s e s'=>hCX H s e s'
abbrev io:rY:=λ_ _ _ _ _ _=>False
abbrev E0:XK:=λ_ _ _=>False
theorem Cc {X:Cx}:AC io X E0:=λ_ _ _ _ _ _ _ h=>h.elim
structure sL (K:jb)(x qual:Str)(st:Stmt)(f:Gj)(fd:Gi):Prop where
 ex:∃ (oc:Gg) (od:Option Gj) (kV doc pm:Gg) (an:Option Gj) (cdv ct:Gg) (osl:Array (Option Gg)),
  fd=kT x qual (nM st) (lO st) (gO st) .none kV doc pm an cdv ct/\K.lookup f=Ga ⟨oc,od,.func fd,osl⟩/\vG K cdv qual=true
 kp:ub K (.ref f)=true
section
variable {P:Program}{w:World}{K:jb}{mg:Str->Option Gg}{base:Heap}
theorem sL.ok {x qual:Str}{st:Stmt}{f:Gj}{fd:Gi}{N ps:List Str}{k:Nat}{sp:Sp}(F:sL K x qual st f fd)(S:gR N ps (gO st))(len:∀ vs H Q E,sp vs H Q E->vs.length=ps.length)
  (hbody:∀ (cdv:Gg) (A:Around) (outer:List Env) (s:Gh) (H:Hp) (vs:List V) (Q:VK) (E:XK),lK k (A.deeper (envOfC qual (gO st) s.heap.objs.size f cdv))->sp vs H Q E ->
   ∃ t,rG (pT io P w K mg base N qual (gO st) f cdv A outer s H E).nox (lO st) t/\t { nx:=λ_ H'=>Q .non H',rt:=Q } (start N vs) H):hV P w K mg base io (k+1) f fd ps sp:=by
 obtain⟨oc,od,kV,doc,pm,an,cdv,ct,osl,rfl,lk,hcd⟩:=F.ex;refine EM lk hcd S len λA outer s H vs Q E hr hsp=>?_;obtain⟨t,h,q⟩:=hbody cdv A outer s H vs Q E hr hsp;exact⟨t,h.nox,q⟩
theorem sL.binds {x qual:Str}{st:Stmt}{f:Gj}{fd:Gi}{ps:List Str}(F:sL K x qual st f fd)
  (h:∀ (kV doc pm:Gg) (an:Option Gj) (cdv ct:Gg) (us:List Gg),us.length=ps.length->bindArgs (kT x qual (nM st) (lO st) (gO st) .none kV doc pm an cdv ct) ⟨us,[]⟩=pure (ps.zip us)):pV K fd ps []:=by
 obtain⟨oc,od,kV,doc,pm,an,cdv,ct,osl,rfl,lk,hcd⟩:=F.ex;exact .all (h kV doc pm an cdv ct)
theorem Mj {x qual:Str}{st:Stmt}{f:Gj}{oc:Gg}{od an:Option Gj}{osl:Array (Option Gg)}{kV doc pm cdv ct:Gg}(l:K.lookup f=Ga ⟨oc,od,.func (kT x qual (nM st) (lO st) (gO st) .none kV doc pm an cdv ct),osl⟩)
  (c:vG K cdv qual=true) (k:ub K (.ref f)=true):sL K x qual st f (kT x qual (nM st) (lO st) (gO st) .none kV doc pm an cdv ct):=⟨⟨oc,od,kV,doc,pm,an,cdv,ct,osl,rfl,l,c⟩,k⟩
end
theorem yV {n:Nat}(h:n<=1000):n<sizeLine:=Nat.lt_of_le_of_lt h (by decide)
section
variable {X:Cx}
end
theorem sv {A B:Prop}(h:B):if false=true then A else B:=by
 rw[Gf jr];exact h
theorem sG {A B:Prop}(h:A):if true=true then A else B:=by
 rw[Ge rfl];exact h
def gM (H H':Hp):Prop:=∀ b o,H b=Ga o->H' b=Ga o
theorem gM.refl (H:Hp):gM H H:=λ_ _ h=>h
theorem gM.trans {H H1 H2:Hp}(a:gM H H1)(b:gM H1 H2):gM H H2:=λc o h=>b c o (a c o h)
theorem gM.free {H H':Hp}(e:gM H H'){l:Gj}(h:H' l=Jc):H l=Jc:=by
 cases q:H l with
 | none=>rfl
 | some o =>
  rw[e l o q] at h;cases h
theorem gM.seq {K:jb}{H H':Hp}{a:Gj}{xs:List V}(e:gM H H')(h:lH K H a xs):lH K H' a xs:=by
 rcases h with (h|⟨o,h⟩)|h
 .exact .inl (.inl (e _ _ h))
 .exact .inl (.inr ⟨o,e _ _ h⟩)
 .exact .inr h
section
variable {κ:Type}[DecidableEq κ]
def oU (kvs:List (κ×V))(k:κ):Option V:=(kvs.find? λkv=>decide (kv.1=k)).map (·.2)
def rB (kvs:List (κ×V))(k:κ)(v:V):List (κ×V) :=
 if (kvs.any λkv=>decide (kv.1=k))=true then kvs.map (λkv=>if kv.1=k then(kv.1,v) else kv) else kvs++[(k,v)]
def GK (kvs:List (κ×V))(k:κ):List (κ×V):=kvs.filter λkv=>decide (kv.1≠k)
theorem xu {p:κ×V}{r:List (κ×V)}{k:κ}(e:p.1=k):oU (p::r) k=Ga p.2:=by simp[oU,uY,e]
theorem xH {p:κ×V}{r:List (κ×V)}{k:κ}(e:¬p.1=k):oU (p::r) k=oU r k:=by simp[oU,uY,e]
theorem zU (k:κ):∀ kvs:List (κ×V),(kvs.any λkv=>decide (kv.1=k))=(oU kvs k).isSome
 | []=>rfl
 | p::r=>by
  rw[vp];by_cases e:p.1=k
  .simp only[xu e,Gc e,kX,Option.isSome_some]
  .rw[xH e,Gd e,uq];exact zU k r
theorem rX.isSome_eq {o:Option V}{u:Option Gg}(r:rX o u):o.isSome=u.isSome:=by
 cases o with
 | none=>cases u with
  | none=>rfl
  | some _=>exact(show False from r).elim
 | some _=>cases u with
  | none=>exact(show False from r).elim
  | some _=>rfl
theorem rX.getD {o:Option V}{u:Option Gg}{d:V}{d':Gg}(r:rX o u)(rd:iA d d'):iA (o.getD d) (u.getD d'):=by
 cases o with
 | none=>cases u with
  | none=>exact rd
  | some _=>exact(show False from r).elim
 | some _=>cases u with
  | none=>exact(show False from r).elim
  | some _=>exact r
theorem KV.val {kvs:List (κ×V)}{vs:List (κ×Gg)}(r:KV kvs vs)(k:κ):rX (oU kvs k) (valueAt vs k):=by
 unfold KV at r;induction r with
 | nil=>exact True.intro
 | @cons p q ps qs h t ih =>
  obtain⟨h1,h2⟩:=h;by_cases e:p.1=k
  .have e':q.1=k:=h1.symm.trans e;have b:valueAt (q::qs) k=Ga q.2:=by simp[valueAt,uY,e']
   rw[xu e,b];exact h2
  .have e':¬q.1=k:=λz=>e (h1.trans z);have b:valueAt (q::qs) k=valueAt qs k:=by simp[valueAt,uY,e']
   rw[xH e,b];exact ih
theorem KV.any {kvs:List (κ×V)}{vs:List (κ×Gg)}(r:KV kvs vs)(k:κ):(kvs.any λkv=>decide (kv.1=k))=vs.any λkv=>decide (kv.1=k):=by
 unfold KV at r;induction r with
 | nil=>rfl
 | cons h t ih=>rw[vp,vp,ih,h.1]
theorem KV.repl {kvs:List (κ×V)}{vs:List (κ×Gg)}(r:KV kvs vs)(k:κ){y:V}{u:Gg}(ry:iA y u) :
  KV (kvs.map λkv=>if kv.1=k then(kv.1,y) else kv) (vs.map λkv=>if kv.1=k then(kv.1,u) else kv):=by
 unfold KV at r ⊢;induction r with
 | nil=>exact .nil
 | @cons p q ps qs h t ih =>
  rw[jK,jK];refine .cons ?_ ih;obtain⟨h1,h2⟩:=h;by_cases e:p.1=k
  .rw[Ge e,Ge (h1.symm.trans e)];exact⟨h1,ry⟩
  .rw[Gf e,Gf (λz=>e (h1.trans z))];exact⟨h1,h2⟩
theorem KV.put {kvs:List (κ×V)}{vs:List (κ×Gg)}(r:KV kvs vs)(k:κ){y:V}{u:Gg}(ry:iA y u):KV (rB kvs k y) (stored vs k u):=by
 unfold rB stored;rw[r.any k];by_cases e:(vs.any λkv=>decide (kv.1=k))=true
 .rw[Ge e,Ge e];exact r.repl k ry
 .rw[Gf e,Gf e];exact Paired.snoc r ⟨rfl,ry⟩
theorem KV.drop {kvs:List (κ×V)}{vs:List (κ×Gg)}(r:KV kvs vs)(k:κ):KV (GK kvs k) (without vs k):=by
 unfold KV at r ⊢;unfold GK without;induction r with
 | nil=>exact .nil
 | @cons p q ps qs h t ih =>
  obtain⟨h1,h2⟩:=h;rw[JO,JO];by_cases e:p.1=k
  .have a:¬decide (p.1≠k)=true:=by simp[e]
   have b:¬decide (q.1≠k)=true:=by simp[h1.symm.trans e]
   rw[Gf a,Gf b];exact ih
  .have e':¬q.1=k:=λz=>e (h1.trans z);have a:decide (p.1≠k)=true:=by simp[e]
   have b:decide (q.1≠k)=true:=by simp[e']
   rw[Ge a,Ge b];exact .cons ⟨h1,h2⟩ ih
theorem KV.length {kvs:List (κ×V)}{vs:List (κ×Gg)}(r:KV kvs vs):kvs.length=vs.length:=Paired.length r
end
abbrev KT (H:Hp):List (List mj×V)->List (List mj×Gj×Gg)->Prop:=Paired λp q=>p.1=q.1/\H q.2.1=Ga (.tup (p.1.map kV))/\iA p.2 q.2.2
theorem KT.val {H:Hp}{kvs:List (List mj×V)}{xs:List (List mj×Gj×Gg)}(r:KT H kvs xs)(k:List mj):rX (oU kvs k) ((atKey xs k).map (·.2)):=by
 induction r with
 | nil=>exact True.intro
 | @cons p q ps qs h t ih =>
  obtain⟨h1,_,h2⟩:=h;by_cases e:p.1=k
  .have e':q.1=k:=h1.symm.trans e;have b:atKey (q::qs) k=Ga q.2:=by simp[atKey,uY,e']
   rw[xu e,b];exact h2
  .have e':¬q.1=k:=λz=>e (h1.trans z);have b:atKey (q::qs) k=atKey qs k:=by simp[atKey,uY,e']
   rw[xH e,b];exact ih
theorem KT.repl {H:Hp}{kvs:List (List mj×V)}{xs:List (List mj×Gj×Gg)}(r:KT H kvs xs)(k:List mj){y:V}{u:Gg}(ry:iA y u) :
  KT H (kvs.map λkv=>if kv.1=k then(kv.1,y) else kv) (xs.map (putAt k u)):=by
 induction r with
 | nil=>exact .nil
 | @cons p q ps qs h t ih =>
  rw[jK,jK];refine .cons ?_ ih;obtain⟨h1,h2,h3⟩:=h;unfold putAt;by_cases e:p.1=k
  .rw[Ge e,Ge (h1.symm.trans e)];exact⟨h1,h2,ry⟩
  .rw[Gf e,Gf (λz=>e (h1.trans z))];exact⟨h1,h2,h3⟩
theorem KT.put {H:Hp}{kvs:List (List mj×V)}{xs:List (List mj×Gj×Gg)}(r:KT H kvs xs)(k:List mj){b:Gj}{y:V}{u:Gg}(hb:H b=Ga (.tup (k.map kV)))(ry:iA y u) :
  KT H (rB kvs k y) (storedH xs k b u):=by
 have e:(kvs.any λkv=>decide (kv.1=k))=(atKey xs k).isSome:=by
  rw[zU,(r.val k).isSome_eq,JA]
 unfold rB storedH;rw[e];by_cases q:(atKey xs k).isSome=true
 .rw[Ge q,Ge q];exact r.repl k ry
 .rw[Gf q,Gf q];exact Paired.snoc r ⟨rfl,hb,ry⟩
theorem KT.keeps {H H':Hp}{kvs:List (List mj×V)}{xs:List (List mj×Gj×Gg)}(r:KT H kvs xs)(ht:∀ b ys,H b=Ga (.tup ys)->H' b=Ga (.tup ys)):KT H' kvs xs :=
 Paired.mapP r λ_ _ z=>⟨z.1,ht _ _ z.2.1,z.2.2⟩
section
variable {P:Program}{w:World}{H:Hp}{h:Heap}{a:Gj}
end
def Cp (H:Hp)(a:Gj)(y:V)(r:Option V):Prop :=
 (∃ kvs k,Rd H a (.dK kvs)/\y=kV k/\r=oU kvs k)\/∃ kvs k b,Rd H a (.dT kvs)/\y=.ref b/\H b=Ga (.tup (k.map kV))/\r=oU kvs k
def BZ (H:Hp)(a:Gj)(y v:V)(H':Hp):Prop :=
 (∃ kvs k,H a=Ga (.dK kvs)/\y=kV k/\kvs.length<sizeLine/\H'=upd H a (.dK (rB kvs k v))) \/
 ∃ kvs k b,H a=Ga (.dT kvs)/\y=.ref b/\H b=Ga (.tup (k.map kV))/\kvs.length<sizeLine/\H'=upd H a (.dT (rB kvs k v))
theorem Cp.k {H:Hp}{a:Gj}{kvs:List (mj×V)}{k:mj}(e:H a=Ga (.dK kvs)):Cp H a (kV k) (oU kvs k):=.inl ⟨kvs,k,.inl e,rfl,rfl⟩
theorem Cp.t {H:Hp}{a b:Gj}{kvs:List (List mj×V)}{k:List mj}(e:H a=Ga (.dT kvs))(eb:H b=Ga (.tup (k.map kV))):Cp H a (.ref b) (oU kvs k):=.inr ⟨kvs,k,b,.inl e,rfl,eb,rfl⟩
theorem BZ.k {H:Hp}{a:Gj}{kvs:List (mj×V)}{k:mj}{v:V}(e:H a=Ga (.dK kvs))(hl:kvs.length<sizeLine):BZ H a (kV k) v (upd H a (.dK (rB kvs k v))):=.inl ⟨kvs,k,e,rfl,hl,rfl⟩
theorem BZ.t {H:Hp}{a b:Gj}{kvs:List (List mj×V)}{k:List mj}{v:V}(e:H a=Ga (.dT kvs))(eb:H b=Ga (.tup (k.map kV)))(hl:kvs.length<sizeLine) :
  BZ H a (.ref b) v (upd H a (.dT (rB kvs k v))):=.inr ⟨kvs,k,b,e,rfl,eb,hl,rfl⟩
section
variable {X:Cx}{ω:List (Gj×Obj)}{σ:St}{H:Hp}{s:Gh}{a:Gj}{y v:V}{u r:Gg}{o:Option V}{A:Around}{E:Gg->Gh->Prop}
theorem gS.big (I:gS X ω σ H s):sysModules<s.heap.objs.size:=by
 have h:mainGlobals<s.heap.objs.size:=(I.mod.glob.keeps I.bk).lt;exact Nat.lt_trans (by decide) h
theorem Bs {h':Heap}{t':Nat}{ob:HO}(I:gS X ω σ H s)(mu:CS (H a))(hs:vD a s.heap h')(he:∃ q,h'.get? a=Ga q)(new:mR X.prog X.w (upd H a ob) h' a ob) :
  gS X ω σ (upd H a ob) { s with heap:=h',toks:=t' } :=
 I.write (x:=a) (e:=a) mu (.inl rfl) (λb q hb z=>(hs.2 b hb).trans z) he new
end
section
variable {X:Cx}{ω:List (Gj×Obj)}{σ:St}{H:Hp}{s:Gh}{a:Gj}{kvs:List (mj×V)}{k:mj}{u:Gg}{A:Around}{E:Gg->Gh->Prop}
end
def Il (i:Expr):Prop:=∀ ov iv,subscripted i false ov iv=operate [ov,iv] (getItem ov iv)
theorem GY {prog:Program}{w:World}{A:Around}{E:Gg->Gh->Prop}{s:Gh}{ψ:Env}{value slice:Expr}{pos:Pos}{T id:String}{Q:Gg->Gh->Prop}
  (hl:typeLookup (.type T) "__getitem__"=pure (Ga (.builtin id))) (hs:Il slice)
  (h:wpAny (model prog w) A (eval value ψ) (λo s₁=>wpAny (model prog w) A (eval slice ψ) (λi s₂=>s₂.TypeIs o T/\wpAny (model prog w) A (getItem o i) Q E s₂) E s₁) E s) :
  wpAny (model prog w) A (eval (.Subscript value slice pos) ψ) Q E s:=by
 refine Subscript_ (wpAny_mono h (λo s₁ h₁=>wpAny_mono h₁ (λi s₂ h₂=>?_) λ_ _ x=>x) λ_ _ x=>x);obtain⟨hT,h₂⟩:=h₂;unfold subscriptTail;refine gI ?_;rw[getitemInPython_of_ne hT.not_modules];refine gI (wpAny_specialOf hT hl ?_);have fin:wpAny (model prog w) A (subscripted slice false o i) (λr s₃=>wpAny (model prog w) A (letTemporaryGo value o r >>= λ_=>pure r) Q E s₃) E s₂:=by
  rw[hs o i];exact wpAny_operating (wpAny_mono h₂ (λr s₃ h₃=>gI (wpAny_letTemporaryGo (gJ h₃))) λ_ _ x=>x)
 first
  | exact gJ (gI fin)
  | exact gI (gJ (gI fin))
  | exact gI fin
section
variable {X:Cx}{o i e value:Expr}{pos pos' tpos:Pos}{td ty tv:TE}
end
section
variable {X:Cx}{pos:Pos}
end
structure M1 (X:Cx)(o:Expr)(m:Str)(apos:Pos)(e:Expr)(cpos:Pos):Prop where
 base:attributeBase o m X.env (eval o X.env)=eval o X.env
 few:((backTo cpos (starEach [e] X.env)).all (λx=>!x.1)&&(backToKw cpos (keywordEach [] X.env)).all (λx=>x.1.isSome)
  && decide (([e]:List Expr).length+([]:List Keyword).length+(if ([]:List Keyword).isEmpty then 0 else 1)<30))=true
 line:(apos.endLine==cpos.line)=true
 trees:backTo cpos (starEach [e] X.env)=[(false,eval e X.env)]
structure M2 (X:Cx)(o:Expr)(m:Str)(apos:Pos)(e f:Expr)(cpos:Pos):Prop where
 base:attributeBase o m X.env (eval o X.env)=eval o X.env
 few:((backTo cpos (starEach [e,f] X.env)).all (λx=>!x.1)&&(backToKw cpos (keywordEach [] X.env)).all (λx=>x.1.isSome)
  && decide (([e,f]:List Expr).length+([]:List Keyword).length+(if ([]:List Keyword).isEmpty then 0 else 1)<30))=true
 line:(apos.endLine==cpos.line)=true
 trees:backTo cpos (starEach [e,f] X.env)=[(false,eval e X.env),(false,eval f X.env)]
section
variable {X:Cx}{ω:List (Gj×Obj)}{σ:St}{H:Hp}{s:Gh}{a:Gj}{y d:V}{u r:Gg}{o:Option V}{A:Around}{E:Gg->Gh->Prop}
end
section
variable {X:Cx}{o e f:Expr}{apos cpos:Pos}{td ty tx:TE}
end
section
variable {X:Cx}{ω:List (Gj×Obj)}{σ:St}{H:Hp}{s:Gh}{a:Gj}{kvs:List (mj×V)}{A:Around}{E:Gg->Gh->Prop}
end
section
variable {X:Cx}{ω:List (Gj×Obj)}{σ:St}{H:Hp}{s:Gh}{a:Gj}{y:V}{u:Gg}{A:Around}{E:Gg->Gh->Prop}
end
section
variable {κ:Type}[DecidableEq κ]
end
end L2
set_option autoImplicit false
namespace T3
open PySem PySem.Spec
noncomputable instance decD:DecidableEq PyData:=λa b=>uf (a=b)
mutual
def iq:PyData->Nat->Bool
 | .none,_=>true
 | .int _,_=>true
 | .tuple _,0=>false
 | .tuple xs,n+1=>mz xs n
 | .bool _,_=>false
 | .str _,_=>false
 | .list _,_=>false
 | .dict _,_=>false
def mz:List PyData->Nat->Bool
 | [],_=>true
 | x::xs,n=>iq x n&&mz xs n
end
mutual
def rK:PyData->Int
 | .int i=>hashInt i
 | .tuple xs=>reduceHash (kK (mr xs))
 | _=>0xFCA86420
def mr:List PyData->List Int
 | []=>[]
 | x::xs=>rK x::mr xs
end
mutual
def si:PyData->Nat
 | .tuple xs=>mW xs+1
 | _=>1
def mW:List PyData->Nat
 | []=>0
 | x::xs=>si x+mW xs
end
mutual
theorem DQ:∀ (d:PyData) (n:Nat),iq d n=true->d.canLay0=true/\d.depth<=n
 | .none,_,_=>⟨rfl,jT _⟩
 | .int _,_,_=>⟨rfl,jT _⟩
 | .tuple xs,0,h=>by simp[iq] at h
 | .tuple xs,n+1,h=>by
  rw[iq] at h;have:=Rh xs n h;exact⟨this.1,Nat.succ_le_succ this.2⟩
 | .bool _,_,h=>by simp[iq] at h
 | .str _,_,h=>by simp[iq] at h
 | .list _,_,h=>by simp[iq] at h
 | .dict _,_,h=>by simp[iq] at h
theorem Rh:∀ (xs:List PyData) (n:Nat),mz xs n=true->kE xs=true/\kq xs<=n
 | [],_,_=>⟨rfl,jT _⟩
 | x::xs,n,h=>by
  rw[mz,jA] at h;have a:=DQ x n h.1;have b:=Rh xs n h.2;refine⟨?_,?_⟩
  .rw[kE,a.1,b.1];rfl
  .rw[kq];omega
end
mutual
theorem Tq:∀ (a b:PyData) (n m:Nat),iq a n=true->iq b m=true->kL a b=true->a=b
 | .none,.none,_,_,_,_,_=>rfl
 | .none,.int _,_,_,_,_,h=>by simp[kL] at h
 | .none,.tuple _,_,_,_,_,h=>by simp[kL] at h
 | .int _,.none,_,_,_,_,h=>by simp[kL] at h
 | .int i,.int j,_,_,_,_,h=>by simp only[kL] at h;rw[beq_iff_eq] at h;rw[h]
 | .int _,.tuple _,_,_,_,_,h=>by simp[kL] at h
 | .tuple _,.none,_,_,_,_,h=>by simp[kL] at h
 | .tuple _,.int _,_,_,_,_,h=>by simp[kL] at h
 | .tuple xs,.tuple ys,0,_,p,_,_=>by simp[iq] at p
 | .tuple xs,.tuple ys,_+1,0,_,q,_=>by simp[iq] at q
 | .tuple xs,.tuple ys,n+1,m+1,p,q,h=>by rw[kL] at h;rw[iq] at p q;rw[SO xs ys n m p q h]
 | .bool _,_,_,_,p,_,_=>by simp[iq] at p
 | .str _,_,_,_,p,_,_=>by simp[iq] at p
 | .list _,_,_,_,p,_,_=>by simp[iq] at p
 | .dict _,_,_,_,p,_,_=>by simp[iq] at p
 | .none,.bool _,_,_,_,q,_=>by simp[iq] at q
 | .none,.str _,_,_,_,q,_=>by simp[iq] at q
 | .none,.list _,_,_,_,q,_=>by simp[iq] at q
 | .none,.dict _,_,_,_,q,_=>by simp[iq] at q
 | .int _,.bool _,_,_,_,q,_=>by simp[iq] at q
 | .int _,.str _,_,_,_,q,_=>by simp[iq] at q
 | .int _,.list _,_,_,_,q,_=>by simp[iq] at q
 | .int _,.dict _,_,_,_,q,_=>by simp[iq] at q
 | .tuple _,.bool _,_,_,_,q,_=>by simp[iq] at q
 | .tuple _,.str _,_,_,_,q,_=>by simp[iq] at q
 | .tuple _,.list _,_,_,_,q,_=>by simp[iq] at q
 | .tuple _,.dict _,_,_,_,q,_=>by simp[iq] at q
theorem SO:∀ (xs ys:List PyData) (n m:Nat),mz xs n=true->mz ys m=true->qp xs ys=true->xs=ys
 | [],[],_,_,_,_,_=>rfl
 | [],_::_,_,_,_,_,h=>by simp[qp] at h
 | _::_,[],_,_,_,_,h=>by simp[qp] at h
 | x::xs,y::ys,n,m,p,q,h=>by
  rw[qp,jA] at h;rw[mz,jA] at p q;rw[Tq x y n m p.1 q.1 h.1,SO xs ys n m p.2 q.2 h.2]
end
mutual
theorem QP {h h':Heap}{d0:Gj}{o:Obj}{es:Array DictEntry}{ep:Nat}(ho:h.get? d0=Ga o)(hd:o.data=.dict es ep)(hs:vD d0 h h'):∀ (d:PyData) (n:Nat) (v:Gg) (as:List Gj),iq d n=true->Reads h v d as->Reads h' v d as
 | .none,_,_,_,_,.none=>.none
 | .int _,_,_,_,_,.int i t=>.int i t
 | .tuple _,0,_,_,k,_=>by simp[iq] at k
 | .tuple xs,n+1,_,_,k,.tuple (a:=a) (o:=o') h1 h2 h3 h4=>by
  rw[iq] at k;have hne:a≠d0:=by
   rintro rfl;have:o'=o:=jJ (h1.symm.trans ho);rw[this,hd] at h3;cases h3
  exact .tuple ((hs.2 a hne).trans h1) h2 h3 (Rz ho hd hs xs n _ _ k h4)
 | .bool _,_,_,_,k,_=>by simp[iq] at k
 | .str _,_,_,_,k,_=>by simp[iq] at k
 | .list _,_,_,_,k,_=>by simp[iq] at k
 | .dict _,_,_,_,k,_=>by simp[iq] at k
theorem Rz {h h':Heap}{d0:Gj}{o:Obj}{es:Array DictEntry}{ep:Nat}(ho:h.get? d0=Ga o)(hd:o.data=.dict es ep)(hs:vD d0 h h'):∀ (xs:List PyData) (n:Nat) (vs:List Gg) (as:List Gj),mz xs n=true->ReadsAll h vs xs as->ReadsAll h' vs xs as
 | [],_,_,_,_,.nil=>.nil
 | x::xs,n,_,_,k,.cons h1 h2=>by
  rw[mz,jA] at k;exact .cons (QP ho hd hs x n _ _ k.1 h1) (Rz ho hd hs xs n _ _ k.2 h2)
end
section
variable {prog:Program}{w:World}
theorem zwH {A:Around}{E:Gg->Gh->Prop}{s:Gh}{Q:Int->Gh->Prop}(h:Q 0xFCA86420 { s with toks:=s.toks+1 }):wpAny (model prog w) A (pyHash .none) Q E s:=by
 have hT:s.TypeIs .none "NoneType":=rfl;unfold pyHash;have hv:[kr].any Value.onHeap=false:=rfl;refine gI ?_;rw[cRoomFor,Gf (by rw[hv];exact jr)];refine gJ (gI (wpAny_specialOf hT F.slot_NoneType_hash.lookup ?_));show wpAny _ _ (if (Ga (Value.builtin "NoneType.__hash__")==Ga kr)=true then _ else _) Q E s;rw[Gf (by rw[beq_builtin_none];exact jr)];refine gI (wpAny_specialOf hT F.slot_NoneType_hash.lookup ?_);show wpAny _ _ (callSpecialIfBoundUnlessNone? .none "__hash__" _ >>= _) Q E s;refine gI (wpAny_callSpecialIfBoundUnlessNone?_slot hT F.slot_NoneType_hash (wpAny_call_entry F.slot_NoneType_hash hT F.entry_NoneType_hash (show wpAny _ _ (do ret (<- mkInt 0xFCA86420)) _ _ s from wpAny_ret_mkInt ?_) (F.args_NoneType_hash_1 _)));show wpAny _ _ (if (decide (-(2:Int)^63<=0xFCA86420)&&decide ((0xFCA86420:Int)<2^63))=true then _ else _) Q E _;rw[Ge (by decide)];exact gJ h
def yq (prog:Program)(w:World)(d:PyData):Prop:=∀ (A:Around) (E:Gg->Gh->Prop) (s:Gh) (v:Gg) (as:List Gj) (Q:Int->Gh->Prop),A.units+d.depth<cLine->Reads s.heap v d as->Q (rK d) { s with toks:=s.toks+si d }->wpAny (model prog w) A (pyHash v) Q E s
theorem Rp:∀ (xs ys:List PyData),mr (xs++ys)=mr xs++mr ys
 | [],ys=>by rw[mr];rfl
 | x::xs,ys=>by rw[vQ,mr,mr,Rp xs ys];rfl
theorem Rj:∀ (xs ys:List PyData),mW (xs++ys)=mW xs+mW ys
 | [],ys=>by rw[mW];exact(v7 _).symm
 | x::xs,ys=>by rw[vQ,mW,mW,Rj xs ys,vT]
theorem Sy:∀ {xs:List PyData} {x:PyData},x∈xs->x.depth<=kq xs
 | y::ys,x,h=>by
  rw[kq];rcases jw.mp h with rfl|h
  .omega
  .have:=Sy h;omega
theorem WM {xs:List PyData}(IH:∀ x∈xs,yq prog w x):yq prog w (.tuple xs):=by
 intro A E s v as Q hu r q;cases r with
 | @tuple a o vs n' _ _ h1 h2 h3 h4 =>
  rw[rK,si] at q;have hT:s.TypeIs (.ref a) "tuple":=⟨o,h1,h2⟩;have hu':A.units+(kq xs+1)<cLine:=hu;unfold pyHash;unfold pyHashByItsType;refine gI (wpAny_cRoomFor_or (.inr (by omega)) ?_);refine gI (wpAny_specialOf hT F.slot_tuple_hash.lookup ?_);show wpAny _ _ (if (Ga (Value.builtin "tuple.__hash__")==Ga kr)=true then _ else _) Q E s;rw[Gf (by rw[beq_builtin_none];exact jr)];refine gI (wpAny_specialOf hT F.slot_tuple_hash.lookup ?_);show wpAny _ _ (callSpecialIfBoundUnlessNone? (.ref a) "__hash__" _ >>= _) Q E s;refine gI (wpAny_callSpecialIfBoundUnlessNone?_slot hT F.slot_tuple_hash (wpAny_call_entry F.slot_tuple_hash hT F.entry_tuple_hash ?_ (F.args_tuple_hash_1 _)));show wpAny _ _ (qe (.ref a) >>= _) _ _ s;refine gI (wpAny_tupleItemsOf h1 h3 ?_);refine gI ?_;rw[<- Jr];refine wpAny_forIn_list _
   (λrest (b:Array Int) s'=>∃ dn lf bs,xs=dn++lf/\ReadsAll s.heap rest lf bs/\b.toList=mr dn/\s'={ s with toks:=s.toks+mW dn })
   _ ?_ ?_ _ _ ⟨[],xs,_,rfl,h4,rfl,rfl⟩
  .rintro x rest b s' ⟨dn,lf,bs,e,hl,hb,rfl⟩;cases hl with
   | @cons _ _ d ds as1 bs1 r1 r2 =>
    have hm:d∈xs:=by rw[e];exact jG _ jh
    have hd:=Sy hm;refine gI (IH d hm A.in1 _ _ x as1 _ (by show A.units+1+d.depth<cLine;omega) r1 ?_);have z:∃ dn' lf' bs',xs=dn'++lf'/\ReadsAll s.heap rest lf' bs'/\(b.push (rK d)).toList=mr dn'/\({ s with toks:=s.toks+mW dn+si d }:Gh)={ s with toks:=s.toks+mW dn' }:=by
     refine⟨dn++[d],ds,bs1,by rw[e,kU];rfl,r2,?_,?_⟩
     .rw[Array.toList_push,hb,Rp];rw[mr,mr]
     .rw[Rj,mW,mW,Nat.add_zero,vT]
    first
     | exact gJ z
     | exact gI (gJ (gJ z))
  .rintro b s' ⟨dn,lf,bs,e,hl,hb,rfl⟩;cases hl;rw[km] at e;subst e;show wpAny _ _ (retInt (kK b.toList)) _ _ _;rw[hb];refine wpAny_ret_mkInt ?_;show wpAny _ _ (if (decide (-(2:Int)^63<=kK (mr xs))&&decide (kK (mr xs)<2^63))=true then _ else _) Q E _;unfold reduceHash at q;by_cases hr:(decide (-(2:Int)^63<=kK (mr xs))&&decide (kK (mr xs)<2^63))=true
   .rw[Ge hr] at q ⊢;exact gJ (by simpa [vT] using q)
   .rw[Gf hr] at q ⊢;exact gI (wpAny_rule (gJ (by simpa [vT] using q)))
mutual
theorem Pj:∀ (d:PyData) (n:Nat),iq d n=true->yq prog w d
 | .none,_,_=>λA E s v as Q _ r q=>by cases r;exact zwH (by rw[rK,si] at q;exact q;all_goals exact λ_ z=>by cases z)
 | .int i,_,_=>λA E s v as Q _ r q=>by cases r;exact wpAny_pyHash_int (by rw[rK,si] at q;exact q;all_goals exact λ_ z=>by cases z)
 | .tuple _,0,k=>by simp[iq] at k
 | .tuple xs,n+1,k=>by rw[iq] at k;exact WM (OW xs n k)
 | .bool _,_,k=>by simp[iq] at k
 | .str _,_,k=>by simp[iq] at k
 | .list _,_,k=>by simp[iq] at k
 | .dict _,_,k=>by simp[iq] at k
theorem OW:∀ (xs:List PyData) (n:Nat),mz xs n=true->∀ x∈xs,yq prog w x
 | [],_,_,x,h=>by cases h
 | y::ys,n,k,x,h=>by
  rw[mz,jA] at k;rcases jw.mp h with e|h
  .rw[e];exact Pj y n k.1
  .exact OW ys n k.2 x h
end
def wG (prog:Program)(w:World)(n:Nat)(d:PyData):Prop:=∀ (A:Around) (E:Gg->Gh->Prop) (s:Gh) (v:Gg) (as:List Gj) (Q:Bool->Gh->Prop),Reads s.heap v d as->Q true s->wpAny (model prog w) A (eqIsQuiet n v) Q E s
theorem zwI {xs:List PyData}{n:Nat}(IH:∀ x∈xs,wG prog w n x):wG prog w (n+1) (.tuple xs):=by
 intro A E s v as Q r q;cases r with
 | @tuple a o vs n' _ _ h1 h2 h3 h4 =>
  have hT:s.TypeIs (.ref a) "tuple":=⟨o,h1,h2⟩;unfold eqIsQuiet;refine gI (wpAny_specialOf hT F.slot_tuple_eq.lookup ?_);show wpAny _ _ (isInstance (.ref a) (.type "tuple") >>= _) _ _ s;refine gI (wpAny_isInstance hT isSubtype_tuple_tuple ?_);simp only[qq,kH,if_false];refine gI (wpAny_seqItems h1 h3 (gI ?_));show wpAny _ _ (forIn vs _ _) _ _ s;rw[<- Jr];refine wpAny_forIn_list _ (λrest r s'=>r.1=Gb/\s'=s/\∃ lf bs,ReadsAll s.heap rest lf bs/\∀ x∈lf,x∈xs) _ ?_ ?_ _ _ ⟨rfl,rfl,xs,_,h4,λ_ z=>z⟩
  .rintro x rest r s' ⟨hr,rfl,lf,bs,hl,hm⟩;cases hl with
   | @cons _ _ d ds as1 bs1 r1 r2 =>
    refine gI (IH d (hm d jh) _ _ _ x as1 _ r1 ?_);simp only[qq,kH,if_false];exact gJ ⟨rfl,rfl,ds,bs1,r2,λy hy=>hm y (jo _ hy)⟩
  .rintro⟨b1,b2⟩ s' ⟨hr,rfl,_⟩;simp only at hr;subst hr;exact gJ q
mutual
theorem RN:∀ (d:PyData) (n:Nat),iq d n=true->wG prog w n d
 | .none,n,_=>λA E s v as Q r q=>by cases r;rw[eqIsQuiet_byValue n rfl];exact gJ q
 | .int i,n,_=>λA E s v as Q r q=>by cases r;rw[eqIsQuiet_byValue n rfl];exact gJ q
 | .tuple _,0,k=>by simp[iq] at k
 | .tuple xs,n+1,k=>by rw[iq] at k;exact zwI (Ri xs n k)
 | .bool _,_,k=>by simp[iq] at k
 | .str _,_,k=>by simp[iq] at k
 | .list _,_,k=>by simp[iq] at k
 | .dict _,_,k=>by simp[iq] at k
theorem Ri:∀ (xs:List PyData) (n:Nat),mz xs n=true->∀ x∈xs,wG prog w n x
 | [],_,_,x,h=>by cases h
 | y::ys,n,k,x,h=>by
  rw[mz,jA] at k;rcases jw.mp h with e|h
  .rw[e];exact RN y n k.1
  .exact Ri ys n k.2 x h
end
noncomputable def xq (prog:Program)(w:World):HeapKind prog w PyData where
 is:=λh d a=>iq d 8=true/\∃ as,Reads h (.ref a) d as
 hash:=rK
 draws:=si
 room:=λA=>A.units+20<cLine
 inj:=λ{h a x y} hx hy=>SeqAt.Reads.unique x y _ _ _ (DQ x 8 hx.1).1 hx.2.choose_spec hy.2.choose_spec
 keeps:=λ{h h' k a d o es ep} x ho hd hs=>⟨x.1,_,QP ho hd hs k 8 _ _ x.1 x.2.choose_spec⟩
 pyHash:=λ{A E s k a Q} hu hk q=>Pj k 8 hk.1 A E s _ _ Q (by have:=(DQ k 8 hk.1).2;omega) hk.2.choose_spec q
 eqBool:=λ{A E s x y a b Q} hu hx hy q=>by
  have l1:=DQ x 8 hx.1;have l2:=DQ y 8 hy.1;refine SeqAt.eqAt_reads x y A s (.ref a) (.ref b) _ _ hx.2.choose_spec hy.2.choose_spec l1.1 l2.1 (by omega) prog w E Q ?_;have e:kL x y=decide (x=y):=by
   rw[jV,decide_eq_true_eq];exact⟨λz=>Tq x y 8 8 hx.1 hy.1 z,λz=>by rw[z];exact SeqAt.eqv_refl y l2.1⟩
  rw[e];exact q
 quiet:=λ{A E s k a Q} hk q=>RN k 8 hk.1 A E s _ _ Q hk.2.choose_spec q
end
section
variable {prog:Program}{w:World}{A:Around}{E:Gg->Gh->Prop}{s:Gh}
def pp (h:Heap)(d:Gj)(es:Array DictEntry)(ep:Nat):Prop:=∃ o,h.get? d=Ga o/\o.ExactDict/\o.data=.dict es ep
theorem pp.ty {d:Gj}{es:Array DictEntry}{ep:Nat}(x:pp s.heap d es ep):s.TypeIs (.ref d) "dict":=let ⟨o,ho,hc,_⟩:=x;⟨o,ho,hc.1⟩
theorem pp.kept {h h':Heap}{d:Gj}{es:Array DictEntry}{ep:Nat}(x:pp h d es ep)(k:∀ o,h.get? d=Ga o->h'.get? d=Ga o):pp h' d es ep:=let ⟨o,ho,r⟩:=x;⟨o,k _ ho,r⟩
theorem YT {d:Gj}{es:Array DictEntry}{ep:Nat}{Q:Gg->Gh->Prop}(hd:(d==sysModules)=false)(hm:pp s.heap d es ep)
  (hQ:Q (.ref s.heap.objs.size) { s with heap:=s.heap.push { cls:=.type "dict_keyiterator",data:=.fields #[.ref d,.int 0 0,.int es.size 0,.int ep 0] } }):wpAny (model prog w) A (pyIter (.ref d)) Q E s:=by
 have hT:=hm.ty;obtain⟨o,ho,hc,hdat⟩:=hm;refine wpAny_pyIter_slot hT F.slot_dict_iter (wpAny_call_entry F.slot_dict_iter hT F.entry_dict_iter ?_ (F.args_dict_iter_1 _));unfold Builtin.«dict.__iter__» Builtin.Dict.dictSlotNone;refine gI (gI (wpAny_notOrdered_dict hT ?_));show wpAny _ _ (pure (kP d)) _ _ s;refine gJ ?_;show wpAny _ _ (qU d >>= _) _ _ s;unfold qU;rw[Gf (by rw[hd];exact jr)];refine gI (gJ (gI (wpAny_dictEntries ho hdat (gI (wpAny_dictEpoch ho hdat ?_)))));exact gI (wpAny_newObj_type (gJ ⟨_,rfl,"dict_keyiterator",_,⟨_,jy _ rfl,rfl⟩,F.slot_dict_keyiterator_next.lookup,hQ⟩))
theorem zzT {it d:Gj}{i ep:Nat}{es:Array DictEntry}{e:DictEntry}{Q:Option Gg->Gh->Prop}(hit:s.heap.IsKeyIter it d i es.size ep)(hm:pp s.heap d es ep)(hx:es[i]?=Ga e)
  (hQ:∀ h',h'.IsKeyIter it d (i+1) es.size ep->vD it s.heap h'->Q (Ga e.key) { s with heap:=h' }):wpAny (model prog w) A (pyNext (.ref it)) Q E s:=by
 obtain⟨o,ho,hc,hd⟩:=id hit;obtain⟨od,hod,hcd,hdd⟩:=id hm;unfold pyNext;refine gI (wpAny_attempt (wpAny_callSpecial?_slot (name:=jE "__next__") hit.typeIs F.slot_dict_keyiterator_next (wpAny_call_entry F.slot_dict_keyiterator_next hit.typeIs F.entry_dict_keyiterator_next ?_ (F.args_dict_keyiterator_next_1 _))));refine gI (gJ (gI (gI ?_)))
 first|refine gI (wpAny_typeNameOfWhole_keyiter hit.typeIs (gJ ?_))|refine gI (wpAny_typeNameOf_keyiter hit.typeIs (gJ ?_))
 refine gI (wpAny_fieldsOf ho hd ?_);simp only[show vY "dict_keyiterator"=false by decide,kH,if_false];show wpAny _ _ (if (kP d==kr)=true then _ else _) _ _ s;rw[Gf (show ¬((kP d==kr)=true) from jr)];refine gI (gJ (gI (wpAny_dictEntries hod hdd ?_)));rw[Gf (by simp)];refine gI (gJ (gI (wpAny_dictEpoch hod hdd ?_)));rw[Gf (by simp)];refine gJ ?_;simp only[show ¬((i:Int)<0) from by omega,if_false,j5,hx];refine gI ?_
 first|refine gI (wpAny_typeNameOfWhole_keyiter hit.typeIs (gJ ?_))|refine gI (wpAny_typeNameOf_keyiter hit.typeIs (gJ ?_))
 refine gI (wpAny_isOneOf_keyiter hit.typeIs ?_);show wpAny _ _ (setField (.ref it) 1 (rawInt ((i:Int)+1)) >>= _) _ _ s;refine gI (wpAny_setField ho hd (by simp) ?_);have hit':(s.heap.update it (Obj.mapFields (·.setIfInBounds 1 (rawInt ((i:Int)+1))))).IsKeyIter it d (i+1) es.size ep :=
  ⟨_,ux _ ho (Obj.isFreed_of_fields (Js hd _)),(Obj.cls_mapFields ..).trans hc,by rw[Js hd];simp[rawInt]⟩
 refine gI (wpAny_holding (gI (wpAny_isOneOf_keyiter (s:={ s with heap:=s.heap.update it (Obj.mapFields (·.setIfInBounds 1 (rawInt ((i:Int)+1)))) }) hit'.typeIs ?_)));show wpAny _ _ (pure e.key) _ _ _;exact gJ (gJ ⟨_,rfl,gJ (hQ _ hit' (ui ..))⟩)
theorem zzU {it d:Gj}{i ep:Nat}{es:Array DictEntry}{Q:Option Gg->Gh->Prop}(hh:A.handled=Gb)(hit:s.heap.IsKeyIter it d i es.size ep)(hm:pp s.heap d es ep)(hx:es.size<=i)
  (hQ:∀ h',Heap.ExtBut it s.heap h'->Q Gb { s with heap:=h' }):wpAny (model prog w) A (pyNext (.ref it)) Q E s:=by
 obtain⟨o,ho,hc,hd⟩:=id hit;obtain⟨od,hod,hcd,hdd⟩:=id hm;unfold pyNext;refine gI (wpAny_attempt (wpAny_callSpecial?_slot (name:=jE "__next__") hit.typeIs F.slot_dict_keyiterator_next (wpAny_call_entry F.slot_dict_keyiterator_next hit.typeIs F.entry_dict_keyiterator_next ?_ (F.args_dict_keyiterator_next_1 _))));refine gI (gJ (gI (gI ?_)))
 first|refine gI (wpAny_typeNameOfWhole_keyiter hit.typeIs (gJ ?_))|refine gI (wpAny_typeNameOf_keyiter hit.typeIs (gJ ?_))
 refine gI (wpAny_fieldsOf ho hd ?_);simp only[show vY "dict_keyiterator"=false by decide,kH,if_false];show wpAny _ _ (if (kP d==kr)=true then _ else _) _ _ s;rw[Gf (show ¬((kP d==kr)=true) from jr)];refine gI (gJ (gI (wpAny_dictEntries hod hdd ?_)));rw[Gf (by simp)];refine gI (gJ (gI (wpAny_dictEpoch hod hdd ?_)));rw[Gf (by simp)];refine gJ ?_;simp only[show ¬((i:Int)<0) from by omega,if_false,j5,Array.getElem?_eq_none hx];refine gI ?_
 first|refine gI (wpAny_typeNameOfWhole_keyiter hit.typeIs (gJ ?_))|refine gI (wpAny_typeNameOf_keyiter hit.typeIs (gJ ?_))
 show wpAny _ _ (setField (.ref it) 0 .none >>= _) _ _ s;refine gI (wpAny_setField ho hd (by simp) ?_);show wpAny _ _ (newExc (.type "StopIteration") [] >>= _) _ _ _;refine gI ?_;simp only[newExc,newTuple];refine gI (wpAny_newObj_type (gI (m:=firstArgMember _ _) (wpAny_of_eq (a:=kr) (by first|rfl|(simp only[firstArgMember];rfl)) (wpAny_newObj_type ?_ (by size_fits)))) (by size_fits));simp only[raiseNew];refine gI (wpAny_handled ?_);rw[show A.in1.handled=Gb from hh];refine gI (gJ (wpAny_throw ?_));refine(gI (wpAny_isInstance (T:="StopIteration") (b:=true) ⟨_,jy _ rfl,rfl⟩ isSubtype_stop ?_));exact gJ (hQ _ (((ui ..).extBut.push _).push _))
theorem ZY (hh:A.handled=Gb)(I d:Gj)(hne:d≠I)(es:Array DictEntry)(ep:Nat) :
  Walks prog w A I [I,d] [I] es.size (λi v=>∃ e,es[i]?=Ga e/\v=e.key) (λi h=>h.IsKeyIter I d i es.size ep/\pp h d es ep) where
 sub:=λb hb=>by simp at hb;simp[hb]
 frame:=λ_ _ _ st hk=>⟨st.1.at λo e=>hk I (by simp) o e,st.2.kept λo e=>hk d (by simp) o e⟩
 item:=λi s Q E hi st hQ=>by
  have hx:es[i]?=Ga es[i]:=Array.getElem?_eq_getElem hi;refine zzT st.1 st.2 hx λh' hit' hs'=>?_;exact hQ _ h' s.toks ⟨_,hx,rfl⟩ ⟨hit',st.2.kept λo eo=>(hs'.2 d hne).trans eo⟩ λb o hb eo=>hs'.extBut b o (λh=>hb (by simp[h])) eo
 done:=λs Q E st hQ=>zzU hh st.1 st.2 (jm _) λh' he'=>hQ h' s.toks λb o hb eo=>he' b o (λh=>hb (by simp[h])) eo
 self:=λ_ _ _ _ st hQ=>wpAny_pyIter_keyiter st.1 hQ
end
open PySem PySem.Spec PyProof.Rows L2
abbrev St:=L2.St
abbrev D:=PySem.PyData
def ls (H:Hp)(l:List Gg):Prop:=TriplesOk l/\∀ pos cv,codeAmong pos l=Ga cv->∃ c o vs,∃ v:Str×Tok,cv=.ref c/\H c=Ga (.frz o (.own c))/\o.data=.fields vs/\vs[1]?=Ga (.str v.1 v.2)
def Gr (H:Hp)(o:HO)(H':Hp)(x:Option HO):Prop:=match o with
 | .tbl ps=>∃ qs,x=Ga (.tbl qs)/\(ls H ps.toList->ls H' qs.toList)
 | o=>x=Ga o
theorem Gr.some {H H':Hp}{o:HO}{x:Option HO}(g:Gr H o H' x):∃ u,x=Ga u:=by
 cases o<;>first|exact⟨_,g⟩|exact⟨_,g.choose_spec.1⟩
theorem Gr.of {H H':Hp}{o:HO}{x:Option HO}(e:x=Option.some o)(g:∀ l,ls H l->ls H' l):Gr H o H' x:=by
 cases o<;>first|exact e|exact⟨_,e,g _⟩
theorem Gr.to {H H' H2:Hp}{o:HO}{x:Option HO}(a:Gr H o H' x)(g:∀ l,ls H' l->ls H2 l):Gr H o H2 x:=by
 cases o<;>first|exact a|exact⟨a.choose,a.choose_spec.1,λz=>g _ (a.choose_spec.2 z)⟩
def gM (H H':Hp):Prop:=∀ b o,H b=Ga o->Gr H o H' (H' b)
theorem gM.refl (H:Hp):gM H H:=λ_ _ h=>.of h λ_ z=>z
theorem gM.trans {H H1 H2:Hp}(a:gM H H1)(b:gM H1 H2):gM H H2:=λc o h=>by
 have g:=a c o h;cases o<;>first
  | exact b c _ g
  | (obtain⟨qs,e,k⟩:=g
     obtain⟨rs,e2,k2⟩:=b c _ e;exact⟨rs,e2,λz=>k2 (k z)⟩)
theorem gM.free {H H':Hp}(e:gM H H'){l:Gj}(h:H' l=Jc):H l=Jc:=by
 cases q:H l with
 | none=>rfl
 | some o =>
  obtain⟨u,z⟩:=(e l o q).some;rw[z] at h;cases h
theorem gM.seq {K:jb}{H H':Hp}{a:Gj}{xs:List V}(e:gM H H')(h:lH K H a xs):lH K H' a xs:=by
 rcases h with (h|⟨o,h⟩)|h
 .exact .inl (.inl (e _ _ h))
 .exact .inl (.inr ⟨o,e _ _ h⟩)
 .exact .inr h
theorem ls.updG {H:Hp}{a:Gj}{ob:HO}(m:∀ o u,H a≠Ga (.frz o u)){l:List Gg}(g:ls H l):ls (upd H a ob) l :=
 ⟨g.1,λpos cv e=>by
  obtain⟨c,o,vs,v,e1,e2,e3⟩:=g.2 pos cv e;exact⟨c,o,vs,v,e1,by rw[hE (λz=>by subst z;exact m _ _ e2)];exact e2,e3⟩⟩
theorem ls.sub {H H':Hp}(m:∀ c o,H c=Ga o->H' c=Ga o){l:List Gg}(g:ls H l):ls H' l :=
 ⟨g.1,λpos cv e=>by
  obtain⟨c,o,vs,v,e1,e2,e3⟩:=g.2 pos cv e;exact⟨c,o,vs,v,e1,m _ _ e2,e3⟩⟩
theorem gM.of {H H':Hp}(m:∀ c o,H c=Ga o->H' c=Ga o):gM H H':=λb o h=>.of (m b o h) λ_ z=>z.sub m
theorem Gr.from {H H1 H':Hp}{o:HO}{x:Option HO}(a:Gr H o H' x)(g:∀ l,ls H1 l->ls H l):Gr H1 o H' x:=by
 cases o<;>first|exact a|exact⟨a.choose,a.choose_spec.1,λz=>a.choose_spec.2 (g _ z)⟩
theorem gM.put {H0 H:Hp}{a:Gj}{ob:HO}(s:gM H0 H)(n:H0 a=Gb)(m:∀ o u,H a≠Ga (.frz o u)):gM H0 (upd H a ob):=λb o h=>by
 rw[hE (lZ h n)];exact(s b o h).to λ_=>ls.updG m
theorem gM.new {H:Hp}{a:Gj}{ob:HO}(n:H a=Gb):gM H (upd H a ob):=(gM.refl H).put n λo u z=>by rw[n] at z;cases z
def Ow:HO->Prop
 | .lst _=>True
 | .ext _=>True
 | _=>False
theorem gM.ow {H H':Hp}{a:Gj}{ob:HO}(s:gM H H')(h:H a=Ga ob)(o:Ow ob):H' a=Ga ob:=by
 have g:=s a ob h;cases ob<;>first|exact g|exact o.elim
theorem Ow.nf {H:Hp}{a:Gj}{ob:HO}(o:Ow ob)(h:H a=Ga ob):∀ x u,H a≠Ga (.frz x u):=λx u z=>by
 rw[h] at z;cases z;exact o
def Pl:HO->Prop
 | .lst _=>True
 | .tup _=>True
 | .ext _=>True
 | _=>False
theorem Ow.pl {ob:HO}(o:Ow ob):Pl ob:=by cases ob<;>first|exact o|trivial
theorem ls.un {F:Hp}{a:Gj}{ob:HO}(o:Pl ob){l:List Gg}(g:ls (upd F a ob) l):ls F l :=
 ⟨g.1,λpos cv e=>by
  obtain⟨c,x,vs,v,e1,e2,e3⟩:=g.2 pos cv e;have ne:c≠a:=λz=>by subst z;rw[ij] at e2;cases e2;exact o
  rw[hE ne] at e2;exact⟨c,x,vs,v,e1,e2,e3⟩⟩
theorem gM.upL {F H:Hp}{a:Gj}{ob:HO}(s:gM F H)(ha:H a=Ga ob)(p:Pl ob):gM (upd F a ob) H:=λb o h=>by
 by_cases hb:b=a
 .subst hb;rw[ij] at h;cases h;cases ob<;>first|exact ha|exact p.elim
 .rw[hE hb] at h;have g:=s b o h;cases o<;>first|exact g|exact⟨g.choose,g.choose_spec.1,λz=>g.choose_spec.2 (z.un p)⟩
theorem gM.up2 {F H:Hp}{a:Gj}{ob:HO}(s:gM F H)(nF:F a=Gb)(nH:H a=Gb)(p:Pl ob):gM (upd F a ob) (upd H a ob) :=
 (s.put nF λo u z=>by rw[nH] at z;cases z).upL ij p
theorem Pl.nf {H:Hp}{a:Gj}{ob:HO}(o:Pl ob)(h:H a=Ga ob):∀ x u,H a≠Ga (.frz x u):=λx u z=>by
 rw[h] at z;cases z;exact o
theorem gM.pl {H H':Hp}{a:Gj}{ob:HO}(s:gM H H')(h:H a=Ga ob)(o:Pl ob):H' a=Ga ob:=by
 have g:=s a ob h;cases ob<;>first|exact g|exact o.elim
theorem gM.swp {H0 H:Hp}{a:Gj}{o o':HO}(s:gM (upd H0 a o) H)(p:Pl o)(p':Pl o'):gM (upd H0 a o') (upd H a o'):=λb u h=>by
 have ha:=s.pl ij p;by_cases hb:b=a
 .subst hb;rw[ij] at h;cases h;rw[ij];cases o'<;>first|exact rfl|exact p'.elim
 .rw[hE hb] at h ⊢;have g:=s b u (by rw[hE hb];exact h);cases u<;>first
   | exact g
   | (obtain⟨qs,e,k⟩:=g
      refine⟨qs,e,λz=>(k ⟨z.1,λpos cv e=>?_⟩).updG (p.nf ha)⟩;obtain⟨c,x,vs,v,e1,e2,e3⟩:=z.2 pos cv e;have ne:c≠a:=λw=>by subst w;rw[ij] at e2;cases e2;exact p'
      rw[hE ne] at e2;exact⟨c,x,vs,v,e1,by rw[hE ne];exact e2,e3⟩)
def ON (a:Gj)(H H':Hp):Prop:=∀ b o,b≠a->H b=Ga o->Gr H o H' (H' b)
theorem gM.x {H H':Hp}(s:gM H H')(a:Gj):ON a H H':=λb o _ h=>s b o h
def sY (ks:List D)(as:List Gj):List DictEntry:=(ks.zip as).map λp=>{ key:=.ref p.2,hash:=rK p.1,val:=.bool true }
def oJ (a:Gj)(ks:List D)(as:List Gj)(ep:Nat):Heap->Prop:=λh=>∃ o es,h.get? a=Ga o/\o.ExactDict/\o.data=.dict es ep/\es.toList=sY ks as
structure rM (ks:List D):Prop where
 key:∀ k∈ks,iq k 8=true
 tup:∀ k∈ks,∃ xs,k=.tuple xs
 nd:ks.Nodup
 len:ks.length<=1000000
abbrev Cy (ks:List D):D:=PyData.dict (ks.map λk=>(k,jP true))
inductive ou:List (Int×V)->List DictEntry->Prop where
 | nil:ou [] []
 | cons {k:Int} {v:V} {e:DictEntry} {ws:List (Int×V)} {es:List DictEntry} (hk:vW k e.key=true) (hh:e.hash=hashInt k) (hv:iA v e.val) (t:ou ws es):ou ((k,v)::ws) (e::es)
def pz (a:Gj)(ws:List (Int×V))(ep:Nat):Heap->Prop:=λh=>∃ o es,h.get? a=Ga o/\o.ExactDict/\o.data=.dict es ep/\ou ws es.toList
structure wj (kvs:List (Int×D)):Prop where
 nd:(kvs.map (·.1)).Nodup
 len:kvs.length<=1000000
def XV (l:List (D×Gj×Gg)):List DictEntry:=l.map λx=>{ key:=.ref x.2.1,hash:=rK x.1,val:=x.2.2 }
inductive WV:List (D×Gj×V)->List (D×Gj×Gg)->Prop where
 | nil:WV [] []
 | cons {k:D} {b:Gj} {v:V} {u:Gg} {ws:List (D×Gj×V)} {l:List (D×Gj×Gg)} (r:iA v u) (t:WV ws l):WV ((k,b,v)::ws) ((k,b,u)::l)
def DtP (a:Gj)(ws:List (D×Gj×V))(ep:Nat):Heap->Prop:=λh=>∃ o es l,h.get? a=Ga o/\o.ExactDict/\o.data=.dict es ep/\es.toList=XV l/\WV ws l
structure Uz (kvs:List (D×D)):Prop where
 key:∀ k∈kvs.map (·.1),iq k 8=true
 nd:(kvs.map (·.1)).Nodup
 len:kvs.length<=1000000
def rE (kvs:List (Int×D)):D:=PyData.dict ((uc,uc)::kvs.map λp=>(jc p.1,p.2))
mutual
inductive iM (K:jb)(H:Hp):D->V->Prop where
 | non:iM K H .none .non
 | bl (b:Bool):iM K H (.bool b) (.bl b)
 | int (i:Int):iM K H (.int i) (.int i)
 | str (x:Str):iM K H (.str x) (.str x)
 | tup {a:Gj} {xs:List V} {ds:List D} (h:mU K H a xs) (r:ia K H ds xs):iM K H (.tuple ds) (.ref a)
 | lst {a:Gj} {xs:List V} {ds:List D} (h:lH K H a xs) (r:ia K H ds xs):iM K H (.list ds) (.ref a)
 | dic {a:Gj} {ks:List D} {as:List Gj} {ep:Nat} (hs:(a==sysModules)=false) (h:H a=Ga (.ext (oJ a ks as ep))) (ok:rM ks) (r:ia K H ks (as.map V.ref)):iM K H (.dict (ks.map λk=>(k,jP true))) (.ref a)
 | dci {a:Gj} {kvs:List (Int×D)} {ws:List (Int×V)} {ep:Nat} (hs:(a==sysModules)=false) (h:H a=Ga (.ext (pz a ws ep))) (ok:wj kvs) (r:lg K H kvs ws):iM K H (.dict ((uc,uc)::kvs.map λp=>(jc p.1,p.2))) (.ref a)
inductive ia (K:jb)(H:Hp):List D->List V->Prop where
 | nil:ia K H [] []
 | cons {d:D} {v:V} {ds:List D} {vs:List V} (h:iM K H d v) (t:ia K H ds vs):ia K H (d::ds) (v::vs)
inductive lg (K:jb)(H:Hp):List (Int×D)->List (Int×V)->Prop where
 | nil:lg K H [] []
 | cons {k:Int} {d:D} {v:V} {l:List (Int×D)} {m:List (Int×V)} (h:iM K H d v) (t:lg K H l m):lg K H ((k,d)::l) ((k,v)::m)
end
inductive xE (K:jb)(H:Hp):List (D×D)->List (D×Gj×V)->Prop where
 | nil:xE K H [] []
 | cons {k d:D} {b:Gj} {v:V} {l:List (D×D)} {m:List (D×Gj×V)} (hk:iM K H k (.ref b)) (h:iM K H d v) (t:xE K H l m):xE K H ((k,d)::l) ((k,b,v)::m)
theorem nK {K:jb}{H H':Hp}{a:Gj}{xs:List V}(e:gM H H')(h:mU K H a xs):mU K H' a xs:=by
 rcases h with (h|⟨o,h⟩)|h
 .exact .inl (.inl (e _ _ h))
 .exact .inl (.inr ⟨o,e _ _ h⟩)
 .exact .inr h
mutual
theorem iM.mono {K:jb}{H H':Hp}(e:gM H H'):∀ {d:D} {v:V},iM K H d v->iM K H' d v
 | _,_,.non=>.non
 | _,_,.bl b=>.bl b
 | _,_,.int i=>.int i
 | _,_,.str x=>.str x
 | _,_,.tup h r=>.tup (nK e h) (ia.mono e r)
 | _,_,.lst h r=>.lst (e.seq h) (ia.mono e r)
 | _,_,.dic hs h ok r=>.dic hs (e _ _ h) ok (ia.mono e r)
 | _,_,.dci hs h ok r=>.dci hs (e _ _ h) ok (lg.mono e r)
theorem ia.mono {K:jb}{H H':Hp}(e:gM H H'):∀ {ds:List D} {vs:List V},ia K H ds vs->ia K H' ds vs
 | _,_,.nil=>.nil
 | _,_,.cons h t=>.cons (iM.mono e h) (ia.mono e t)
theorem lg.mono {K:jb}{H H':Hp}(e:gM H H'):∀ {l:List (Int×D)} {m:List (Int×V)},lg K H l m->lg K H' l m
 | _,_,.nil=>.nil
 | _,_,.cons h t=>.cons (iM.mono e h) (lg.mono e t)
end
theorem xE.mono {K:jb}{H H':Hp}(e:gM H H'):∀ {l:List (D×D)} {m:List (D×Gj×V)},xE K H l m->xE K H' l m
 | _,_,.nil=>.nil
 | _,_,.cons k h t=>.cons (k.mono e) (h.mono e) (t.mono e)
theorem ia.length {K:jb}{H:Hp}:∀ {ds:List D} {vs:List V},ia K H ds vs->ds.length=vs.length
 | _,_,.nil=>rfl
 | _,_,.cons _ t=>congrArg JB t.length
theorem ia.get {K:jb}{H:Hp}:∀ {ds:List D} {vs:List V} {i:Nat} {d:D},ia K H ds vs->ds[i]?=Ga d->∃ v,vs[i]?=Ga v/\iM K H d v
 | _,_,_,_,.nil,e=>by simp at e
 | _,_,0,_,.cons h _,e=>by simp at e;subst e;exact⟨_,rfl,h⟩
 | _,_,i+1,d,.cons _ t,e=>by
  obtain⟨v,h1,h2⟩:=ia.get (i:=i) (d:=d) t (by simpa using e);exact⟨v,by simpa using h1,h2⟩
theorem ia.append {K:jb}{H:Hp}:∀ {ds es:List D} {vs ws:List V},ia K H ds vs->ia K H es ws->ia K H (ds++es) (vs++ws)
 | _,_,_,_,.nil,q=>q
 | _,_,_,_,.cons h t,q=>.cons h (t.append q)
theorem ia.take {K:jb}{H:Hp}:∀ {ds:List D} {vs:List V} (n:Nat),ia K H ds vs->ia K H (ds.take n) (vs.take n)
 | _,_,0,_=>.nil
 | _,_,_+1,.nil=>.nil
 | _,_,n+1,.cons h t=>.cons h (t.take n)
theorem ia.drop {K:jb}{H:Hp}:∀ {ds:List D} {vs:List V} (n:Nat),ia K H ds vs->ia K H (ds.drop n) (vs.drop n)
 | _,_,0,r=>r
 | _,_,_+1,.nil=>.nil
 | _,_,n+1,.cons _ t=>t.drop n
theorem ia.set {K:jb}{H:Hp}{d:D}{v:V}(q:iM K H d v):∀ {ds:List D} {vs:List V} (i:Nat),ia K H ds vs->ia K H (ds.set i d) (vs.set i v)
 | _,_,_,.nil=>.nil
 | _,_,0,.cons _ t=>.cons q t
 | _,_,i+1,.cons h t=>.cons h (t.set q i)
theorem ia.reverse {K:jb}{H:Hp}:∀ {ds:List D} {vs:List V},ia K H ds vs->ia K H ds.reverse vs.reverse
 | _,_,.nil=>.nil
 | _,_,.cons h t=>by
  rw[uD,uD];exact t.reverse.append (.cons h .nil)
theorem ia.ints {K:jb}{H:Hp}:∀ (ns:List Int),ia K H (ns.map jc) (ns.map V.int)
 | []=>.nil
 | n::ns=>.cons (.int n) (ia.ints ns)
def Fz (H H':Hp):Prop:=∀ b x,H b=Ga (.frz x (.own b))->H' b=Ga (.frz x (.own b))
theorem gM.fz {H H':Hp}(s:gM H H'):Fz H H':=λ_ _ h=>s _ _ h
theorem Fz.upd {H:Hp}{a:Gj}{ob:HO}(m:∀ o u,H a≠Ga (.frz o u)):Fz H (upd H a ob):=λb x h=>by
 rw[hE (λz=>by subst z;exact m _ _ h)];exact h
structure iz where
 C:Gj->Hp->Hp->Prop
 mono:∀ f F F' H H',gM F F'->Fz H H'->C f F H->C f F' H'
inductive Sl where
 | no|val (d:D)|own (ds:List D)|dic (ks:List D)|dki (oa:Option Gj) (kvs:List (Int×D))|tab (P:Gj)|fn (c:iz)|owk (a:Gj) (ds:List D)|dkt (kvs:List (D×D))
 deriving Inhabited
abbrev En:=List Sl
def oe:Sl->Bool
 | .own _=>true
 | .dic _=>true
 | .dki _ _=>true
 | .owk _ _=>true
 | .dkt _=>true
 | _=>false
def lb (F F' H:Hp):Prop:=∀ b o,F' b=Ga o->F b=Gb->H b=Gb
theorem lb.refl (F H:Hp):lb F F H:=λb o e n=>by rw[e] at n;cases n
theorem lb.trans {F F1 F2 H H1:Hp}(a:lb F F1 H)(b:lb F1 F2 H1)(s:gM H H1):lb F F2 H:=λc o e n=>by
 cases q:F1 c with
 | none=>exact s.free (b c o e q)
 | some u=>exact a c u q n
def pv (K:jb)(H0 F H:Hp):Sl->Option V->Prop
 | .no,_=>True
 | .val d,u=>∃ v,u=Ga v/\iM K F d v
 | .own ds,u=>∃ a xs,u=Ga (.ref a)/\H a=Ga (.lst xs)/\F a=Gb/\H0 a=Gb/\ia K F ds xs
 | .dic ks,u=>∃ a as ep,u=Ga (.ref a)/\H a=Ga (.ext (oJ a ks as ep))/\F a=Gb/\H0 a=Gb/\ia K F ks (as.map V.ref)/\(a==sysModules)=false/\rM ks
 | .dki oa kvs,u=>∃ a ws ep,u=Ga (.ref a)/\H a=Ga (.ext (pz a ws ep))/\F a=Gb/\H0 a=Gb/\lg K F kvs ws/\(a==sysModules)=false/\wj kvs/\∀ x,oa=Ga x->a=x
 | .tab P,_=>∃ ps,H0 P=Ga (.tbl ps)/\ls H0 ps.toList
 | .fn c,u=>∃ f,u=Ga (.ref f)/\c.C f F H
 | .dkt kvs,u=>∃ a ws ep,u=Ga (.ref a)/\H a=Ga (.ext (DtP a ws ep))/\F a=Gb/\H0 a=Gb/\xE K F kvs ws/\(a==sysModules)=false/\Uz kvs
 | .owk a ds,u=>∃ xs,u=Ga (.ref a)/\H a=Ga (.lst xs)/\F a=Gb/\H0 a=Gb/\ia K F ds xs
structure RS (K:jb)(H0 F H:Hp)(ψ:En)(σ:St):Prop where
 h0:gM H0 H
 fh:gM F H
 sl:∀ (i:Nat) (s:Sl),ψ[i]?=Ga s->∃ u,σ[i]?=Ga u/\pv K H0 F H s u
 ap:∀ (i j:Nat) (a:Gj) (s t:Sl),oe s=true->oe t=true->ψ[i]?=Ga s->ψ[j]?=Ga t->σ[i]?=Ga (Ga (.ref a))->σ[j]?=Ga (Ga (.ref a))->i=j
section
variable {K:jb}{H0 F F' H H':Hp}{ψ:En}{σ:St}
theorem pv.at {s:Sl}{u:Option V}(r:pv K H0 F H s u)(o:oe s=true):∃ a ob,u=Ga (.ref a)/\H a=Ga ob/\F a=Gb/\H0 a=Gb/\Ow ob:=by
 cases s with
 | no=>cases o
 | val d=>cases o
 | own ds=>obtain⟨a,xs,e,h,f,g,_⟩:=r;exact⟨a,_,e,h,f,g,trivial⟩
 | dic ks=>obtain⟨a,as,ep,e,h,f,g,_⟩:=r;exact⟨a,_,e,h,f,g,trivial⟩
 | dki oa kvs=>obtain⟨a,ws,ep,e,h,f,g,_⟩:=r;exact⟨a,_,e,h,f,g,trivial⟩
 | tab P=>cases o
 | fn c=>cases o
 | owk a ds=>obtain⟨xs,e,h,f,g,_⟩:=r;exact⟨a,_,e,h,f,g,trivial⟩
 | dkt kvs=>obtain⟨a,ws,ep,e,h,f,g,_⟩:=r;exact⟨a,_,e,h,f,g,trivial⟩
theorem pv.to {s:Sl}{u:Option V}(r:pv K H0 F H s u)(f:gM F F')(zz:Fz H H')(k:∀ a ob,oe s=true->u=Ga (.ref a)->H a=Ga ob->F a=Gb->Ow ob->H' a=Ga ob/\F' a=Gb):pv K H0 F' H' s u:=by
 cases s with
 | no=>trivial
 | val d=>obtain⟨v,e2,q⟩:=r;exact⟨v,e2,q.mono f⟩
 | own ds =>
  obtain⟨a,xs,e2,ha,fa,h0a,q⟩:=r;obtain⟨k1,k2⟩:=k a _ rfl e2 ha fa trivial;exact⟨a,xs,e2,k1,k2,h0a,q.mono f⟩
 | dic ks =>
  obtain⟨a,as,ep,e2,ha,fa,h0a,q,r2⟩:=r;obtain⟨k1,k2⟩:=k a _ rfl e2 ha fa trivial;exact⟨a,as,ep,e2,k1,k2,h0a,q.mono f,r2⟩
 | dki oa kvs =>
  obtain⟨a,ws,ep,e2,ha,fa,h0a,q,r2⟩:=r;obtain⟨k1,k2⟩:=k a _ rfl e2 ha fa trivial;exact⟨a,ws,ep,e2,k1,k2,h0a,q.mono f,r2⟩
 | tab P=>exact r
 | fn c=>obtain⟨g,e,q⟩:=r;exact⟨g,e,c.mono _ _ _ _ _ f zz q⟩
 | dkt kvs =>
  obtain⟨a,ws,ep,e2,ha,fa,h0a,q,r2⟩:=r;obtain⟨k1,k2⟩:=k a _ rfl e2 ha fa trivial;exact⟨a,ws,ep,e2,k1,k2,h0a,q.mono f,r2⟩
 | owk a ds =>
  obtain⟨xs,e2,ha,fa,h0a,q⟩:=r;obtain⟨k1,k2⟩:=k a _ rfl e2 ha fa trivial;exact⟨xs,e2,k1,k2,h0a,q.mono f⟩
theorem RS.ne_free (r:RS K H0 F H ψ σ){a:Gj}(n:H a=Gb):∀ (j:Nat) (s:Sl),oe s=true->ψ[j]?=Ga s->σ[j]?≠Ga (Ga (.ref a)):=λj s o e z=>by
 obtain⟨u,e1,q⟩:=r.sl j s e;obtain⟨b,ob,e2,hb,_⟩:=q.at o;rw[z] at e1;cases e1;cases e2;rw[n] at hb;cases hb
theorem RS.grow (r:RS K H0 F H ψ σ)(g:gM H H')(f:gM F F')(fh:gM F' H')(n:lb F F' H):RS K H0 F' H' ψ σ:=by
 refine⟨r.h0.trans g,fh,λi s e=>?_,r.ap⟩;obtain⟨u,e1,q⟩:=r.sl i s e;refine⟨u,e1,q.to f g.fz λa ob _ _ ha fa ow=>⟨g.ow ha ow,?_⟩⟩;cases z:F' a with
 | none=>rfl
 | some o=>have:=n a o z fa;rw[ha] at this;cases this
theorem RS.later (r:RS K H0 F H ψ σ)(g:gM H H'):RS K H0 F H' ψ σ:=r.grow g (.refl _) (r.fh.trans g) (.refl _ _)
theorem RS.put (r:RS K H0 F H ψ σ){i:Nat}{d:D}{v:V}(hi:i<σ.length)(q:iM K F d v):RS K H0 F H (ψ.set i (.val d)) (σ.set i (Ga v)):=by
 refine⟨r.h0,r.fh,λj s e=>?_,λj k a s t o1 o2 e1 e2 e3 e4=>?_⟩
 .by_cases h:i=j
  .subst h;refine⟨Ga v,by rw[jW hi],?_⟩;by_cases hl:i<ψ.length
   .rw[jW hl] at e;cases e;exact⟨v,rfl,q⟩
   .rw[kf (by simpa using hl)] at e;cases e
  .rw[jS h] at e ⊢;exact r.sl j s e
 .have nj:∀ (j:Nat) (s:Sl),oe s=true->(ψ.set i (.val d))[j]?=Ga s->i≠j:=λj s o e z=>by
   subst z;by_cases hl:i<ψ.length
   .rw[jW hl] at e;cases e;cases o
   .rw[kf (by simpa using hl)] at e;cases e
  have n1:=nj j s o1 e1;have n2:=nj k t o2 e2;rw[jS n1] at e1 e3;rw[jS n2] at e2 e4;exact r.ap j k a s t o1 o2 e1 e2 e3 e4
theorem RS.putG (r:RS K H0 F H ψ σ){i:Nat}{s0:Sl}{a:Gj}(hi:i<σ.length)(q:pv K H0 F H s0 (Ga (.ref a)))
  (ne:∀ (j:Nat) (s:Sl),oe s=true->j≠i->ψ[j]?=Ga s->σ[j]?≠Ga (Ga (.ref a))):RS K H0 F H (ψ.set i s0) (σ.set i (Ga (.ref a))):=by
 refine⟨r.h0,r.fh,λj s e=>?_,λj k b s t o1 o2 e1 e2 e3 e4=>?_⟩
 .by_cases h:i=j
  .subst h;refine⟨Ga (.ref a),by rw[jW hi],?_⟩;by_cases hl:i<ψ.length
   .rw[jW hl] at e;cases e;exact q
   .rw[kf (by simpa using hl)] at e;cases e
  .rw[jS h] at e ⊢;exact r.sl j s e
 .by_cases hj:i=j
  .by_cases hk:i=k
   .exact hj.symm.trans hk
   .subst hj;rw[jW hi] at e3;rw[jS hk] at e2 e4;cases e3;exact absurd e4 (ne k t o2 (uo hk) e2)
  .by_cases hk:i=k
   .subst hk;rw[jW hi] at e4;rw[jS hj] at e1 e3;cases e4;exact absurd e3 (ne j s o1 (uo hj) e1)
   .rw[jS hj] at e1 e3;rw[jS hk] at e2 e4;exact r.ap j k b s t o1 o2 e1 e2 e3 e4
theorem RS.putO (r:RS K H0 F H ψ σ){i:Nat}{ds:List D}{a:Gj}{xs:List V}(hi:i<σ.length)(ha:H a=Ga (.lst xs))(fa:F a=Gb)(h0a:H0 a=Gb)(q:ia K F ds xs)
  (ne:∀ (j:Nat) (s:Sl),oe s=true->j≠i->ψ[j]?=Ga s->σ[j]?≠Ga (Ga (.ref a))):RS K H0 F H (ψ.set i (.own ds)) (σ.set i (Ga (.ref a))) :=
 r.putG hi ⟨a,xs,rfl,ha,fa,h0a,q⟩ ne
theorem RS.chgG (r:RS K H0 F H ψ σ){i:Nat}{s0 s1:Sl}{a:Gj}{ob:HO}(e:ψ[i]?=Ga s0)(o0:oe s0=true)(u:σ[i]?=Ga (Ga (.ref a)))(q:pv K H0 F (upd H a ob) s1 (Ga (.ref a))) :
  RS K H0 F (upd H a ob) (ψ.set i s1) σ:=by
 obtain⟨u',e',q'⟩:=r.sl i _ e;obtain⟨a',ob',z,ha,fa,h0a,ow0⟩:=q'.at o0;rw[u] at e';cases e';cases z;have hl:i<ψ.length:=(jn.mp e).1;refine⟨r.h0.put h0a (ow0.nf ha),r.fh.put fa (ow0.nf ha),λj s ej=>?_,λj k b s t o1 o2 e1 e2 e3 e4=>?_⟩
 .by_cases h:i=j
  .subst h;rw[jW hl] at ej;cases ej;exact⟨_,u,q⟩
  .rw[jS h] at ej;obtain⟨w,e2,q2⟩:=r.sl j s ej;refine⟨w,e2,q2.to (.refl _) (Fz.upd (ow0.nf ha)) λb ob2 ow z1 hb fb _=>⟨?_,fb⟩⟩;subst z1;rw[hE (λz=>by subst z;exact h (r.ap i j b _ _ o0 ow e ej u e2))];exact hb
 .have f1:∀ (j:Nat) (s:Sl),oe s=true->(ψ.set i s1)[j]?=Ga s->∃ s',oe s'=true/\ψ[j]?=Ga s':=λj s o h=>by
   by_cases hj:i=j
   .subst hj;exact⟨_,o0,e⟩
   .rw[jS hj] at h;exact⟨_,o,h⟩
  obtain⟨_,o1,e1⟩:=f1 j _ o1 e1;obtain⟨_,o2,e2⟩:=f1 k _ o2 e2;exact r.ap j k b _ _ o1 o2 e1 e2 e3 e4
theorem RS.chg (r:RS K H0 F H ψ σ){i:Nat}{ds es:List D}{a:Gj}{ys:List V}(e:ψ[i]?=Ga (.own ds))(u:σ[i]?=Ga (Ga (.ref a)))(q:ia K F es ys) :
  RS K H0 F (upd H a (.lst ys)) (ψ.set i (.own es)) σ:=by
 obtain⟨u',e',a',xs,z,ha,fa,h0a,_⟩:=r.sl i _ e;rw[u] at e';cases e';cases z;exact r.chgG e rfl u ⟨a,ys,rfl,ij,fa,h0a,q⟩
end
def pq:Sl->Sl
 | .own ds=>.val (.list ds)
 | .dic ks=>.val (Cy ks)
 | .dki _ kvs=>.val (rE kvs)
 | .owk _ ds=>.val (.list ds)
 | .dkt _=>.no
 | s=>s
theorem Yx (s:Sl):oe (pq s)=false:=by cases s<;>rfl
def frz (ψ:En):En:=ψ.map pq
theorem RS.frz {K:jb}{H0 F H:Hp}{ψ:En}{σ:St}(r:RS K H0 F H ψ σ):RS K H0 H H (T3.frz ψ) σ:=by
 refine⟨r.h0,.refl _,λi s e=>?_,λi j a s t o1 o2 e1=>?_⟩
 .unfold T3.frz at e;rw[jC] at e;cases z:ψ[i]? with
  | none=>rw[z] at e;cases e
  | some s' =>
   rw[z] at e;obtain⟨u,e1,q⟩:=r.sl i s' z;refine⟨u,e1,?_⟩;cases s' with
   | no=>cases e;trivial
   | val d=>cases e;obtain⟨v,e2,q⟩:=q;exact⟨v,e2,q.mono r.fh⟩
   | own ds =>
    cases e;obtain⟨a,xs,e2,ha,fa,h0a,q⟩:=q;exact⟨_,e2,.lst (lH.of ha) (q.mono r.fh)⟩
   | dic ks =>
    cases e;obtain⟨a,as,ep,e2,ha,fa,h0a,q,sm,ok⟩:=q;exact⟨_,e2,.dic sm ha ok (q.mono r.fh)⟩
   | dki oa kvs =>
    cases e;obtain⟨a,ws,ep,e2,ha,fa,h0a,q,sm,ok,_⟩:=q;exact⟨_,e2,.dci sm ha ok (q.mono r.fh)⟩
   | tab P=>cases e;exact q
   | fn c=>cases e;obtain⟨g,e2,q⟩:=q;exact⟨g,e2,c.mono _ _ _ _ _ r.fh (λ_ _ h=>h) q⟩
   | dkt kvs=>cases e;trivial
   | owk a ds =>
    cases e;obtain⟨xs,e2,ha,fa,h0a,q⟩:=q;exact⟨_,e2,.lst (lH.of ha) (q.mono r.fh)⟩
 .exfalso;unfold T3.frz at e1;rw[jC] at e1;cases z:ψ[i]? with
  | none=>rw[z] at e1;cases e1
  | some s'=>rw[z] at e1;cases e1;rw[Yx] at o1;cases o1
def frzAt (i:Nat)(ψ:En):En:=match ψ[i]? with
 | some (.own ds)=>ψ.set i (.val (.list ds))
 | some (.dic ks)=>ψ.set i (.val (Cy ks))
 | some (.dki _ kvs)=>ψ.set i (.val (rE kvs))
 | _=>ψ
theorem RS.frzG {K:jb}{H0 F H:Hp}{ψ:En}{σ:St}(r:RS K H0 F H ψ σ){i:Nat}{s0 s1:Sl}{a:Gj}{ob:HO}(os:oe s1=false)(e:ψ[i]?=Ga s0)(o0:oe s0=true)(e1:σ[i]?=Ga (Ga (.ref a)))(ha:H a=Ga ob)(ow0:Ow ob)(fa:F a=Gb)(h0a:H0 a=Gb)
  (q:∀ F',gM F F'->F' a=Ga ob->pv K H0 F' H s1 (Ga (.ref a))):F a=Gb/\H a=Ga ob/\Ow ob/\gM F (upd F a ob)/\lb F (upd F a ob) H0/\RS K H0 (upd F a ob) H (ψ.set i s1) σ:=by
 have hi:i<σ.length:=(jn.mp e1).1;have hl:i<ψ.length:=(jn.mp e).1;have sF:gM F (upd F a ob):=gM.new fa;refine⟨fa,ha,ow0,sF,λb o h n=>?_,⟨r.h0,λb o h=>?_,λj s ej=>?_,λj k b s t o1 o2 x1 x2 x3 x4=>?_⟩⟩
 .by_cases hb:b=a
  .subst hb;exact h0a
  .rw[hE hb,n] at h;cases h
 .by_cases hb:b=a
  .subst hb;rw[ij] at h;cases h;cases ob<;>first|exact ha|exact ow0.elim
  .rw[hE hb] at h;have g:=r.fh b o h;cases o<;>first|exact g|exact⟨g.choose,g.choose_spec.1,λz=>g.choose_spec.2 (z.un ow0.pl)⟩
 .by_cases h:i=j
  .subst h;rw[jW hl] at ej;cases ej;exact⟨_,e1,q _ sF ij⟩
  .rw[jS h] at ej;obtain⟨w,z1,q2⟩:=r.sl j s ej;refine⟨w,z1,q2.to sF (λ_ _ h=>h) λb ob2 ow z2 hb fb _=>⟨hb,?_⟩⟩;subst z2;rw[hE (λz=>by subst z;exact h (r.ap i j b _ _ o0 ow e ej e1 z1))];exact fb
 .have f1:∀ (j:Nat) (s:Sl),oe s=true->(ψ.set i s1)[j]?=Ga s->ψ[j]?=Ga s:=λj s o h=>by
   by_cases hj:i=j
   .subst hj;rw[jW hl] at h;cases h;rw[os] at o;cases o
   .rw[jS hj] at h;exact h
  exact r.ap j k b _ _ o1 o2 (f1 j _ o1 x1) (f1 k _ o2 x2) x3 x4
theorem RS.frzAt2 {K:jb}{H0 F H:Hp}{ψ:En}{σ:St}(r:RS K H0 F H ψ σ)(i:Nat):T3.frzAt i ψ=ψ\/∃ a ob,F a=Gb/\H a=Ga ob/\Ow ob/\gM F (upd F a ob)/\lb F (upd F a ob) H0/\RS K H0 (upd F a ob) H (T3.frzAt i ψ) σ:=by
 unfold T3.frzAt;split
 .rename_i ds e;obtain⟨u,e1,a,xs,e2,ha,fa,h0a,q⟩:=r.sl i _ e;subst e2;exact .inr ⟨_,_,r.frzG rfl e rfl e1 ha trivial fa h0a λF' f h=>⟨_,rfl,.lst (lH.of h) (q.mono f)⟩⟩
 .rename_i ks e;obtain⟨u,e1,a,as,ep,e2,ha,fa,h0a,q,sm,ok⟩:=r.sl i _ e;subst e2;exact .inr ⟨_,_,r.frzG rfl e rfl e1 ha trivial fa h0a λF' f h=>⟨_,rfl,.dic sm h ok (q.mono f)⟩⟩
 .rename_i oa kvs e;obtain⟨u,e1,a,ws,ep,e2,ha,fa,h0a,q,sm,ok,_⟩:=r.sl i _ e;subst e2;exact .inr ⟨_,_,r.frzG rfl e rfl e1 ha trivial fa h0a λF' f h=>⟨_,rfl,.dci sm h ok (q.mono f)⟩⟩
 .exact .inl rfl
theorem RS.frzAt {K:jb}{H0 F H:Hp}{ψ:En}{σ:St}(r:RS K H0 F H ψ σ)(i:Nat):∃ F',gM F F'/\lb F F' H0/\RS K H0 F' H (T3.frzAt i ψ) σ:=by
 rcases r.frzAt2 i with e|⟨a,ob,_,_,_,f,n,q⟩
 .rw[e];exact⟨F,.refl _,.refl _ _,r⟩
 .exact⟨_,f,n,q⟩
abbrev FV:=En->Option D
abbrev FL:=En->Option (List D)
abbrev FB:=En->Option Bool
def tV (K:jb)(f:FV):TE:=λσ H Q=>∃ H0 F ψ d,RS K H0 F H ψ σ/\f ψ=Ga d/\∀ v H' F',gM H H'->gM F F'->gM F' H'->lb F F' H->iM K F' d v->Q v H'
def tO (K:jb)(f:FL):TE:=λσ H Q=>∃ H0 F ψ ds,RS K H0 F H ψ σ/\f ψ=Ga ds /\
 ∀ a xs H' F',gM H H'->gM F F'->gM F' H'->lb F F' H->H a=Gb->F' a=Gb->H' a=Ga (.lst xs)->ia K F' ds xs->Q (.ref a) H'
def tT (K:jb)(f:FB):TT:=λσ H Q=>∃ H0 F ψ b,RS K H0 F H ψ σ/\f ψ=Ga b/\∀ H',gM H H'->Q b H'
def tL (K:jb)(f:FL):TA:=λσ H Q=>∃ H0 F ψ ds,RS K H0 F H ψ σ/\f ψ=Ga ds/\∀ vs H' F',gM H H'->gM F F'->gM F' H'->lb F F' H->ia K F' ds vs->Q vs H'
abbrev PV (X:Cx)(e:Expr)(f:FV):Prop:=PE X e (tV X.K f)
abbrev PO (X:Cx)(e:Expr)(f:FL):Prop:=PE X e (tO X.K f)
abbrev PB (X:Cx)(e:Expr)(f:FB):Prop:=PT X e (tT X.K f)
abbrev nN (X:Cx)(e:Expr)(f:FB):Prop:=PW X e (tT X.K f)
structure PL (X:Cx)(es:List Expr)(f:FL):Prop where
 pa:PA X es (tL X.K f)
 len:∀ ψ ds,f ψ=Ga ds->ds.length=es.length
theorem mn {X:Cx}{e:Expr}{t t':TE}(h:PE X e t)(m:∀ σ H Q,t' σ H Q->t σ H Q):PE X e t':=λω s σ H Q I q=>h ω s σ H Q I (m σ H Q q)
theorem FA {X:Cx}{e:Expr}{t t':TT}(h:PT X e t)(m:∀ σ H Q,t' σ H Q->t σ H Q):PT X e t':=λω s σ H Q I q=>h ω s σ H Q I (m σ H Q q)
theorem Sx {X:Cx}{e:Expr}{t t':TT}(h:PW X e t)(m:∀ σ H Q,t' σ H Q->t σ H Q):PW X e t':=λwh ω s σ H Q I q=>h wh ω s σ H Q I (m σ H Q q)
theorem Fa {X:Cx}{e:List Expr}{t t':TA}(h:PA X e t)(m:∀ σ H Q,t' σ H Q->t σ H Q):PA X e t':=λp ω s σ H Q I q=>h p ω s σ H Q I (m σ H Q q)
theorem RJ {X:Cx}{e:List Stmt}{t t':TS}(h:rG X e t)(m:∀ D σ H,t' D σ H->t D σ H):rG X e t':=λω s σ H D I q=>h ω s σ H D I (m D σ H q)
theorem sS {X:Cx}{e:Stmt}{t t':TS}(h:PS X e t)(m:∀ D σ H,t' D σ H->t D σ H):PS X e t':=λω s σ H D I q=>h ω s σ H D I (m D σ H q)
theorem gL {α β:Type}{o:Option α}{f:α->Option β}{b:β}(h:o.bind f=Ga b):∃ a,o=Ga a/\f a=Ga b:=by
 cases o with
 | none=>cases h
 | some a=>exact⟨a,rfl,h⟩
section
variable {X:Cx}{pos:Pos}
theorem PO.v {e:Expr}{f:FL}(h:PO X e f):PV X e (λψ=>(f ψ).bind λds=>Ga (.list ds)):=by
 refine mn h λσ H Q=>?_;rintro⟨H0,F,ψ,d,r,e,q⟩;obtain⟨ds,z,e⟩:=gL e;cases e
 .refine⟨H0,F,ψ,ds,r,z,λa xs H' F' g f1 fh n ha fa ha' rr=>?_⟩;have sF:gM F' (upd F' a (.lst xs)):=gM.new fa;refine q (.ref a) H' (upd F' a (.lst xs)) g (f1.trans sF) (λb o h=>?_) (λb o h nb=>?_) (.lst (lH.of ij) (rr.mono sF))
  .exact gM.upL fh ha' trivial b o h
  .by_cases hb:b=a
   .subst hb;exact ha
   .rw[hE hb] at h;exact n b o h nb
noncomputable def gv (i:Nat):FV:=λψ=>match ψ[i]? with
 | some (.val d)=>Ga d
 | _=>Gb
theorem gK (i:Nat){x:Str}(hN:X.N[i]?=Ga x:=by rfl)(hv:wo X.env.scope x:=by first|exact k8 rfl|exact kJ (k8 rfl)|exact kJ (kJ rfl))(hd:(x==("__debug__":Str))=false:=by decide)
  (hcd:(x==("__classdict__":Str))=false:=by decide):PV X (.Name x pos) (gv i):=by
 refine mn (ph hN hv hd hcd) λσ H Q=>?_;rintro⟨H0,F,ψ,d,r,e,q⟩;unfold gv at e;cases z:ψ[i]? with
 | none=>rw[z] at e;cases e
 | some s =>
  rw[z] at e;cases s with
  | val d' =>
   cases e;obtain⟨u,e1,v,e2,h⟩:=r.sl i _ z;subst e2;exact⟨v,e1,q v H F (.refl _) (.refl _) r.fh (.refl _ _) h⟩
  | no=>cases e
  | own _=>cases e
  | dic _=>cases e
  | dki _ _=>cases e
  | tab _=>cases e
  | fn _=>cases e
  | owk _ _=>cases e
  | dkt _=>cases e
theorem Db {e:Expr}{d:D}{v:V}(h:PE X e (tC v))(r:∀ K F,iM K F d v):PV X e (λ_=>Ga d):=by
 refine mn h λσ H Q=>?_;rintro⟨H0,F,ψ,d',rs,e,q⟩;cases e;exact q v H F (.refl _) (.refl _) rs.fh (.refl _ _) (r _ _)
theorem gQ {i j}:PV X (.Constant (.int i) j pos) (λ_=>Ga (.int i)):=Db Kc λ_ _=>.int i
theorem oi {b j}:PV X (.Constant (.bool b) j pos) (λ_=>Ga (.bool b)):=Db Ey λ_ _=>.bl b
theorem oH {j}:PV X (.Constant .none j pos) (λ_=>Ga .none):=Db HC λ_ _=>.non
theorem Ff {x:String}{j}:PV X (.Constant (.str x) j pos) (λ_=>Ga (.str x)):=Db Og λ_ _=>.str _
theorem gU:PL X [] (λ_=>Ga []):=by
 refine⟨Fa og λσ H Q=>?_,λψ ds e=>by cases e;rfl⟩;rintro⟨H0,F,ψ,ds,r,e,q⟩;cases e;exact q [] H F (.refl _) (.refl _) r.fh (.refl _ _) .nil
theorem gN {e:Expr}{es:List Expr}{f:FV}{g:FL}(ha:PV X e f)(hr:PL X es g)(hs:starEach (e::es) X.env=(false,eval e X.env)::starEach es X.env:=by rfl) :
  PL X (e::es) (λψ=>(f ψ).bind λd=>(g ψ).bind λds=>Ga (d::ds)):=by
 refine⟨Fa (lN ha hr.pa hs) λσ H Q=>?_,λψ ds e=>?_⟩
 .rintro⟨H0,F,ψ,ds,r,e,q⟩;obtain⟨d,e1,e⟩:=gL e;obtain⟨ds',e2,e⟩:=gL e;cases e;refine⟨H0,F,ψ,d,r,e1,λv H1 F1 g1 f1 fh1 n1 rv=>⟨H0,F1,ψ,ds',r.grow g1 f1 fh1 n1,e2,λvs H2 F2 g2 f2 fh2 n2 rvs=>?_⟩⟩;exact q (v::vs) H2 F2 (g1.trans g2) (f1.trans f2) fh2 (n1.trans n2 g1) (.cons (rv.mono f2) rvs)
 .obtain⟨d,e1,e⟩:=gL e;obtain⟨ds',e2,e⟩:=gL e;cases e;exact congrArg JB (hr.len ψ _ e2)
theorem oC {es:List Expr}{x1}{g:FL}(h:PL X es g)(hz:es.length<=1000:=by decide):PV X (.Tuple es x1 pos) (λψ=>(g ψ).bind λds=>Ga (.tuple ds)):=by
 refine mn (Nq h.pa) λσ H Q=>?_;rintro⟨H0,F,ψ,d,r,e,q⟩;obtain⟨ds,e1,e⟩:=gL e;cases e;refine⟨H0,F,ψ,ds,r,e1,λvs H1 F1 g1 f1 fh1 n1 rv=>⟨?_,λp hp=>?_⟩⟩
 .rw[<- rv.length,h.len ψ ds e1];exact uk (yV hz)
 .have fp:F1 p=Gb:=fh1.free hp;have s1:gM F1 (upd F1 p (.tup vs)):=gM.new fp;have s2:gM H1 (upd H1 p (.tup vs)):=gM.new hp;refine q (.ref p) (upd H1 p (.tup vs)) (upd F1 p (.tup vs)) (g1.trans s2) (f1.trans s1) (λb o h=>?_) (λb o h nb=>?_) (.tup (mU.of ij) (rv.mono s1))
  .exact gM.up2 (ob:=.tup vs) fh1 fp hp trivial b o h
  .by_cases hb:b=p
   .subst hb;exact g1.free hp
   .rw[hE hb] at h;exact n1 b o h nb
theorem rH {es:List Expr}{g:FL}(h:PL X es g)(hz:es.length<=1000:=by decide):PO X (.List es pos) g:=by
 refine mn (MD h.pa) λσ H Q=>?_;rintro⟨H0,F,ψ,ds,r,e1,q⟩;refine⟨H0,F,ψ,ds,r,e1,λvs H1 F1 g1 f1 fh1 n1 rv=>⟨?_,λp hp=>?_⟩⟩
 .rw[<- rv.length,h.len ψ ds e1];exact uk (yV hz)
 .have s2:gM H1 (upd H1 p (.lst vs)):=gM.new hp;exact q p vs (upd H1 p (.lst vs)) F1 (g1.trans s2) f1 (fh1.trans s2) n1 (g1.free hp) (fh1.free hp) ij rv
def sV (K:jb)(r:R2)(g:D->D->Option D):Prop:=∀ (F H:Hp) (x y:V) (a b d:D) (Q:VK),gM F H->iM K F a x->iM K F b y->g a b=Ga d ->
 (∀ v H' F',gM H H'->gM F F'->gM F' H'->lb F F' H->iM K F' d v->Q v H')->r x y H Q
theorem Gm {K:jb}{r:R2}{g:D->D->Option D}(hr:sV K r g){fa fb:FV}{σ:St}{H:Hp}{Q:VK}(h:tV K (λψ=>(fa ψ).bind λa=>(fb ψ).bind λb=>g a b) σ H Q):DF r (tV K fa) (tV K fb) σ H Q:=by
 obtain⟨H0,F,ψ,d,rs,e,q⟩:=h;obtain⟨a,e1,e⟩:=gL e;obtain⟨b,e2,e⟩:=gL e;refine⟨H0,F,ψ,a,rs,e1,λv H1 F1 g1 f1 fh1 n1 rv=>⟨H0,F1,ψ,b,rs.grow g1 f1 fh1 n1,e2,λu H2 F2 g2 f2 fh2 n2 ru=>?_⟩⟩;refine hr F2 H2 v u a b d Q fh2 (rv.mono f2) ru e λw H3 F3 g3 f3 fh3 n3 rw3=>?_;exact q w H3 F3 ((g1.trans g2).trans g3) ((f1.trans f2).trans f3) fh3 ((n1.trans n2 g1).trans n3 (g1.trans g2)) rw3
theorem tu {op:Operator}{r:R2}{g:D->D->Option D}(ho:lU X (binaryOp op) r)(hr:sV X.K r g){a b:Expr}{fa fb:FV}(ha:PV X a fa)(hb:PV X b fb) :
  PV X (.BinOp a op b pos) (λψ=>(fa ψ).bind λx=>(fb ψ).bind λy=>g x y):=mn (Gs ho ha hb) λ_ _ _ h=>Gm hr h
theorem zk {op:CmpOp}{r:R2}{g:D->D->Option D}(ho:lU X (compareOp op) r)(hr:sV X.K r g){a b:Expr}{fa fb:FV}(ha:PV X a fa)(hb:PV X b fb)(hm:behindInMarks op b=false:=by first|exact CV _|rfl|with_unfolding_all rfl) :
  PV X (.Compare a [op] [b] pos) (λψ=>(fa ψ).bind λx=>(fb ψ).bind λy=>g x y):=mn (Hd ho ha hb hm) λ_ _ _ h=>Gm hr h
def lM:D->Option Bool
 | .bool b=>Ga b
 | _=>Gb
theorem AJ {d:D}{b:Bool}(h:lM d=Ga b):d=.bool b:=by cases d<;>cases h;rfl
theorem UW {K:jb}{f:FV}{σ:St}{H:Hp}{Q:Bool->Hp->Prop}(h:tT K (λψ=>(f ψ).bind lM) σ H Q):tV K f σ H (λx H'=>∃ k,x=.bl k/\Q k H'):=by
 obtain⟨H0,F,ψ,b,rs,e,q⟩:=h;obtain⟨d,e1,e2⟩:=gL e;cases AJ e2;refine⟨H0,F,ψ,_,rs,e1,λv H1 F1 g1 f1 fh1 n1 rv=>?_⟩;cases rv;exact⟨b,rfl,q H1 g1⟩
theorem wO {op:CmpOp}{r:R2}{g:D->D->Option D}(ho:lU X (compareOp op) r)(hr:sV X.K r g){a b:Expr}{fa fb:FV}(ha:PV X a fa)(hb:PV X b fb)(hm:behindInMarks op b=false:=by first|exact CV _|rfl|with_unfolding_all rfl) :
  PB X (.Compare a [op] [b] pos) (λψ=>((fa ψ).bind λx=>(fb ψ).bind λy=>g x y).bind lM):=by
 refine FA (GR ho ha hb hm) λσ H Q h=>?_;exact Gm hr (UW h)
def zN:D->Option Bool
 | .none=>Ga false
 | .bool b=>Ga b
 | .int i=>Ga (i !=0)
 | .tuple xs=>Ga (!xs.isEmpty)
 | .list xs=>Ga (!xs.isEmpty)
 | _=>Gb
theorem ia.isEmpty {K:jb}{H:Hp}{ds:List D}{vs:List V}(r:ia K H ds vs):ds.isEmpty=vs.isEmpty:=by cases r<;>rfl
theorem WQ {K:jb}{F H:Hp}{d:D}{v:V}{b:Bool}(e:zN d=Ga b)(r:iM K F d v)(s:gM F H):Er K v H b:=by
 cases r with
 | non=>cases e;rfl
 | bl c=>cases e;rfl
 | int i=>cases e;rfl
 | str x=>cases e
 | tup h r=>cases e;exact .inr (.inl ⟨_,nK s h,by rw[r.isEmpty]⟩)
 | lst h r=>cases e;exact .inl ⟨_,s.seq h,by rw[r.isEmpty]⟩
 | dic hs h ok r=>cases e
 | dci hs h ok r=>cases e
theorem nG {e:Expr}{f:FV}(h:PV X e f)(he:∀ whole,isTrue e X.env whole=(do let v <- whole;standAt e.pos;holding [v] (truthy v)):=by intro _;rfl):PB X e (λψ=>(f ψ).bind zN):=by
 refine FA (Ev h he) λσ H Q=>?_;rintro⟨H0,F,ψ,b,rs,e,q⟩;obtain⟨d,e1,e2⟩:=gL e;exact⟨H0,F,ψ,d,rs,e1,λv H1 F1 g1 f1 fh1 n1 rv=>⟨b,WQ e2 rv fh1,q H1 g1⟩⟩
theorem oD {e:Expr}{f:FB}(h:PB X e f):PB X (.UnaryOp .Not e pos) (λψ=>(f ψ).bind λc=>Ga (!c)):=by
 refine FA (Oq h) λσ H Q=>?_;rintro⟨H0,F,ψ,b,rs,e,q⟩;obtain⟨c,z,e⟩:=gL e;cases e;exact⟨H0,F,ψ,c,rs,z,q⟩
theorem Ds {a:Expr}{f:FB}(h:PB X a f):nN X (.BoolOp .And [a] pos) f:=GZ h
theorem so {a:Expr}{f:FB}(h:PB X a f):nN X (.BoolOp .Or [a] pos) f:=Nj h
theorem CL {a b:Expr}{rest:List Expr}{f g:FB}(ha:PB X a f)(hb:nN X (.BoolOp .And (b::rest) pos) g):nN X (.BoolOp .And (a::b::rest) pos) (λψ=>(f ψ).bind λc=>if c then g ψ else Ga false):=by
 refine Sx (KI ha hb) λσ H Q=>?_;rintro⟨H0,F,ψ,b,rs,e,q⟩;obtain⟨c,e1,e2⟩:=gL e;refine⟨H0,F,ψ,c,rs,e1,λH1 g1=>?_⟩;cases c with
 | true=>exact sG ⟨H0,F,ψ,b,rs.later g1,e2,λH2 g2=>q H2 (g1.trans g2)⟩
 | false=>cases e2;exact sv (q H1 g1)
theorem mZ {a b:Expr}{rest:List Expr}{f g:FB}(ha:PB X a f)(hb:nN X (.BoolOp .Or (b::rest) pos) g):nN X (.BoolOp .Or (a::b::rest) pos) (λψ=>(f ψ).bind λc=>if c then Ga true else g ψ):=by
 refine Sx (OV ha hb) λσ H Q=>?_;rintro⟨H0,F,ψ,b,rs,e,q⟩;obtain⟨c,e1,e2⟩:=gL e;refine⟨H0,F,ψ,c,rs,e1,λH1 g1=>?_⟩;cases c with
 | false=>exact sv ⟨H0,F,ψ,b,rs.later g1,e2,λH2 g2=>q H2 (g1.trans g2)⟩
 | true=>cases e2;exact sG (q H1 g1)
theorem nN.b {e:Expr}{f:FB}(h:nN X e f):PB X e f:=PW.pt h
theorem sK {op}{a:Expr}{f:FV}(h:PV X a f):PV X (.BoolOp op [a] pos) f:=LS h
theorem wP {a b:Expr}{rest:List Expr}{f g:FV}(ha:PV X a f)(hb:PV X (.BoolOp .And (b::rest) pos) g):PV X (.BoolOp .And (a::b::rest) pos) (λψ=>((f ψ).bind lM).bind λc=>if c then g ψ else Ga (.bool false)):=by
 refine mn (On ha hb) λσ H Q=>?_;rintro⟨H0,F,ψ,d,rs,e,q⟩;obtain⟨c,e1,e2⟩:=gL e;obtain⟨d',e3,e4⟩:=gL e1;cases AJ e4;refine⟨H0,F,ψ,_,rs,e3,λv H1 F1 g1 f1 fh1 n1 rv=>?_⟩;cases rv;refine⟨c,rfl,?_⟩;cases c with
 | true=>exact sG ⟨H0,F1,ψ,d,rs.grow g1 f1 fh1 n1,e2,λw H2 F2 g2 f2 fh2 n2 rw2=>q w H2 F2 (g1.trans g2) (f1.trans f2) fh2 (n1.trans n2 g1) rw2⟩
 | false=>cases e2;exact sv (q (.bl false) H1 F1 g1 f1 fh1 n1 (.bl false))
theorem Ca {a b:Expr}{rest:List Expr}{f g:FV}(ha:PV X a f)(hb:PV X (.BoolOp .Or (b::rest) pos) g):PV X (.BoolOp .Or (a::b::rest) pos) (λψ=>((f ψ).bind lM).bind λc=>if c then Ga (.bool true) else g ψ):=by
 refine mn (OB ha hb) λσ H Q=>?_;rintro⟨H0,F,ψ,d,rs,e,q⟩;obtain⟨c,e1,e2⟩:=gL e;obtain⟨d',e3,e4⟩:=gL e1;cases AJ e4;refine⟨H0,F,ψ,_,rs,e3,λv H1 F1 g1 f1 fh1 n1 rv=>?_⟩;cases rv;refine⟨c,rfl,?_⟩;cases c with
 | false=>exact sv ⟨H0,F1,ψ,d,rs.grow g1 f1 fh1 n1,e2,λw H2 F2 g2 f2 fh2 n2 rw2=>q w H2 F2 (g1.trans g2) (f1.trans f2) fh2 (n1.trans n2 g1) rw2⟩
 | true=>cases e2;exact sG (q (.bl true) H1 F1 g1 f1 fh1 n1 (.bl true))
theorem Nr {a:Expr}{f:FV}(ha:PV X a f):PV X (.UnaryOp .Not a pos) (λψ=>((f ψ).bind lM).bind λc=>Ga (.bool (!c))):=by
 refine mn (Hn ha) λσ H Q=>?_;rintro⟨H0,F,ψ,d,rs,e,q⟩;obtain⟨c,e1,e2⟩:=gL e;obtain⟨d',e3,e4⟩:=gL e1;cases AJ e4;cases e2;refine⟨H0,F,ψ,_,rs,e3,λv H1 F1 g1 f1 fh1 n1 rv=>?_⟩;cases rv;exact⟨c,rfl,q (.bl (!c)) H1 F1 g1 f1 fh1 n1 (.bl _)⟩
theorem yJ {c a b:Expr}{fc:FB}{f g:FV}(hc:PB X c fc)(ha:PV X a f)(hb:PV X b g):PV X (.IfExp c a b pos) (λψ=>(fc ψ).bind λk=>if k then f ψ else g ψ):=by
 refine mn (DT hc ha hb) λσ H Q=>?_;rintro⟨H0,F,ψ,d,rs,e,q⟩;obtain⟨k,e1,e2⟩:=gL e;refine⟨H0,F,ψ,k,rs,e1,λH1 g1=>?_⟩;cases k with
 | true=>exact sG ⟨H0,F,ψ,d,rs.later g1,e2,λw H2 F2 g2 f2 fh2 n2 rw2=>q w H2 F2 (g1.trans g2) f2 fh2 (λb o h nb=>g1.free (n2 b o h nb)) rw2⟩
 | false=>exact sv ⟨H0,F,ψ,d,rs.later g1,e2,λw H2 F2 g2 f2 fh2 n2 rw2=>q w H2 F2 (g1.trans g2) f2 fh2 (λb o h nb=>g1.free (n2 b o h nb)) rw2⟩
end
section
variable {X:Cx}{ω:List (Gj×Obj)}{σ:St}{F H:Hp}{s:Gh}
theorem NR:∀ ks:List D,(ks.map λk=>(k,jP true)).map (·.1)=ks
 | []=>rfl
 | k::ks=>congrArg (k::·) (NR ks)
mutual
def pJ:D->Bool
 | .dict _=>false
 | .list xs=>pi xs
 | .tuple xs=>pi xs
 | _=>true
def pi:List D->Bool
 | []=>true
 | x::xs=>pJ x&&pi xs
end
mutual
theorem Bw:∀ {d:D},d.canLay0=true->pJ d=true
 | .none,_=>by rw[pJ]<;>(intros;contradiction)
 | .bool _,_=>by rw[pJ]<;>(intros;contradiction)
 | .int _,_=>by rw[pJ]<;>(intros;contradiction)
 | .str _,_=>by rw[pJ]<;>(intros;contradiction)
 | .list xs,h=>by rw[Jd] at h;rw[pJ];exact Fw h
 | .tuple xs,h=>by rw[Jd] at h;rw[pJ];exact Fw h
 | .dict _,h=>by rw[Jd] at h;cases h
theorem Fw:∀ {ds:List D},kE ds=true->pi ds=true
 | [],_=>by rw[pi]
 | x::xs,h=>by
  rw[kE,jA] at h;rw[pi,Bw h.1,Fw h.2];rfl
end
mutual
theorem Lc:∀ {d:D} {n:Nat},iq d n=true->pJ d=true
 | .none,_,_=>by rw[pJ]<;>(intros;contradiction)
 | .int _,_,_=>by rw[pJ]<;>(intros;contradiction)
 | .tuple xs,0,h=>by rw[iq] at h;cases h
 | .tuple xs,n+1,h=>by rw[iq] at h;rw[pJ];exact TU h
 | .bool _,_,h=>by rw[iq] at h;cases h
 | .str _,_,h=>by rw[iq] at h;cases h
 | .list _,_,h=>by rw[iq] at h;cases h
 | .dict _,_,h=>by rw[iq] at h;cases h
theorem TU:∀ {ds:List D} {n:Nat},mz ds n=true->pi ds=true
 | [],_,_=>by rw[pi]
 | x::xs,n,h=>by
  rw[mz,jA] at h;rw[pi,Lc h.1,TU h.2];rfl
end
mutual
theorem iM.reads (I:gS X ω σ H s)(g:gM F H):∀ {d:D} {v:V},iM X.K F d v->pJ d=true->∀ {u:Gg},iA v u->∃ as,Reads s.heap u d as
 | _,_,.non,_,u,r=>by cases r;exact⟨_,.none⟩
 | _,_,.bl b,_,u,r=>by cases r;exact⟨_,.bool b⟩
 | _,_,.int i,_,u,r=>by obtain⟨t,rfl⟩:=r;exact⟨_,.int i t⟩
 | _,_,.str x,_,u,r=>by obtain⟨t,rfl⟩:=r;exact⟨_,.str x t⟩
 | _,_,.tup h q,pl,u,r=>by
  cases r;rw[pJ] at pl;obtain⟨its,rv,⟨o,e,c,n,d⟩,_⟩:=I.tuple (nK g h);obtain⟨as,ra⟩:=ia.reads I g q pl rv;exact⟨_,.tuple e c d (by simpa using ra)⟩
 | _,_,.lst h q,pl,u,r=>by
  cases r;rw[pJ] at pl;obtain⟨its,rv,⟨o,n,e,c,_,d⟩,_⟩:=I.list (g.seq h);obtain⟨as,ra⟩:=ia.reads I g q pl rv;exact⟨_,.list e c d (by simpa using ra)⟩
 | _,_,.dic _ _ _ _,pl,u,r=>by rw[pJ] at pl;cases pl
 | _,_,.dci _ _ _ _,pl,u,r=>by rw[pJ] at pl;cases pl
theorem ia.reads (I:gS X ω σ H s)(g:gM F H):∀ {ds:List D} {vs:List V},ia X.K F ds vs->pi ds=true->∀ {us:List Gg},ip vs us->∃ as,ReadsAll s.heap us ds as
 | _,_,.nil,_,us,r=>by cases r;exact⟨_,.nil⟩
 | _,_,.cons h t,pl,us,r=>by
  rw[pi,jA] at pl;cases r with
  | cons r1 r2 =>
   obtain⟨as,a⟩:=iM.reads I g h pl.1 r1;obtain⟨bs,b⟩:=ia.reads I g t pl.2 r2;exact⟨_,.cons a b⟩
end
end
def sA (a b:D):Bool:=a.canLay0&&b.canLay0&&decide (min a.depth b.depth<=100)
def lj (a b:D):Option D:=if sA a b then Ga (.bool (kL a b)) else Gb
def lR (a b:D):Option D:=if sA a b then Ga (.bool (!PyData.eqv a b)) else Gb
def xr (K:jb)(g:D->D->Option D):R2:=λx y H Q=>∃ F a b d,gM F H/\iM K F a x/\iM K F b y/\g a b=Ga d/\∀ k,d=.bool k->Q (.bl k) H
theorem TZ {a b:D}(h:sA a b=true):a.canLay0=true/\b.canLay0=true/\min a.depth b.depth<=100:=by
 unfold sA at h;simp only[jA,decide_eq_true_eq] at h;exact⟨h.1.1,h.1.2,h.2⟩
theorem Uh {X:Cx}(hu:X.A.units+100<cLine):lU X (compareOp .Eq) (xr X.K lj):=by
 intro ω s σ H x y v u Q I rx ry h;obtain⟨F,a,b,d,g,ra,rb,e,q⟩:=h;unfold lj at e;split at e
 .rename_i ok;obtain⟨h1,h2,h3⟩:=TZ ok;obtain⟨as,ha⟩:=ra.reads I g (Bw h1) rx;obtain⟨bs,hb⟩:=rb.reads I g (Bw h2) ry;refine SeqAt.compareEq_reads ha hb h1 h2 (by omega) ⟨.bl _,H,I,rfl,q _ (jJ e).symm⟩
 .cases e
theorem Pe {X:Cx}(hu:X.A.units+100<cLine):lU X (compareOp .NotEq) (xr X.K lR):=by
 intro ω s σ H x y v u Q I rx ry h;obtain⟨F,a,b,d,g,ra,rb,e,q⟩:=h;unfold lR at e;split at e
 .rename_i ok;obtain⟨h1,h2,h3⟩:=TZ ok;obtain⟨as,ha⟩:=ra.reads I g (Bw h1) rx;obtain⟨bs,hb⟩:=rb.reads I g (Bw h2) ry;refine SeqAt.compareNe_reads ha hb h1 h2 (by omega) ⟨.bl _,H,I,rfl,q _ (jJ e).symm⟩
 .cases e
theorem wU {K:jb}{g:D->D->Option D}(hg:∀ a b d,g a b=Ga d->∃ k,d=.bool k):sV K (xr K g) g:=by
 intro F H x y a b d Q s ra rb e q;refine⟨F,a,b,d,s,ra,rb,e,λk ek=>?_⟩;subst ek;exact q (.bl k) H F (.refl _) (.refl _) s (.refl _ _) (.bl k)
theorem Tj:∀ a b d,lj a b=Ga d->∃ k,d=.bool k:=λa b d h=>by unfold lj at h;split at h<;>cases h;exact⟨_,rfl⟩
theorem QM:∀ a b d,lR a b=Ga d->∃ k,d=.bool k:=λa b d h=>by unfold lR at h;split at h<;>cases h;exact⟨_,rfl⟩
def dI (C:Int->Int->Bool)(g:Int->Int->D):D->D->Option D
 | .int i,.int j=>if C i j then Ga (g i j) else Gb
 | _,_=>Gb
theorem BO {K:jb}{C:Int->Int->Prop}{C':Int->Int->Bool}{g:Int->Int->V}{g':Int->Int->D}(hC:∀ i j,C' i j=true->C i j)(hg:∀ i j F,iM K F (g' i j) (g i j)):sV K (rI C g) (dI C' g'):=by
 intro F H x y a b d Q s ra rb e q;cases ra<;>cases rb<;>first|(cases e;done)|skip
 rename_i i j;unfold dI at e;dsimp only at e;split at e
 .rename_i c;cases e;exact⟨i,j,rfl,rfl,hC i j c,q _ H F (.refl _) (.refl _) s (.refl _ _) (hg i j F)⟩
 .cases e
def tQ (g:Int->Int->D):D->D->Option D
 | .int i,.int j=>Ga (g i j)
 | _,_=>Gb
theorem pK {K:jb}{g:Int->Int->V}{g':Int->Int->D}(hg:∀ i j F,iM K F (g' i j) (g i j)):sV K (tM g) (tQ g'):=by
 intro F H x y a b d Q s ra rb e q;cases ra<;>cases rb<;>first|(cases e;done)|skip
 rename_i i j;cases e;exact⟨i,j,rfl,rfl,q _ H F (.refl _) (.refl _) s (.refl _ _) (hg i j F)⟩
def lP:D->D->Option D:=tQ λi j=>.int (i-j)
def tZ (i j:Int):Bool:=(decide (-(2^64)<i)&&decide (i<2^64))||(decide (-(2^64)<j)&&decide (j<2^64))
def nk:D->D->Option D:=dI tZ λi j=>.int (i*j)
def nw:D->D->Option D:=dI (λ_ j=>decide (0<j)&&decide (j<1073741824)) λi j=>.int (i/j)
def lQ:D->D->Option D:=dI (λ_ j=>decide (0<j)) λi j=>.int (i%j)
def sC:D->D->Option D:=dI (λi j=>decide (0<=j)&&decide (j<=1000000)&&decide (i.natAbs<2^64)) λi j=>.int (i^j.toNat)
def Mr:D->D->Option D:=tQ λi j=>.int (uK i j)
def Af:D->D->Option D:=tQ λi j=>.int (vS i j)
def pO:D->D->Option D:=tQ λi j=>.bool (decide (i<j))
def rh:D->D->Option D:=tQ λi j=>.bool (decide (i<=j))
def pM:D->D->Option D:=tQ λi j=>.bool (decide (j<i))
def Ae:D->D->Option D:=tQ λi j=>.bool (decide (j<=i))
def lr:D->D->Option D
 | .int i,.int j=>Ga (.int (i+j))
 | .tuple xs,.tuple ys=>if xs.length+ys.length<=sizeLine then Ga (.tuple (xs++ys)) else Gb
 | .list xs,.list ys=>if xs.length+ys.length<=sizeLine then Ga (.list (xs++ys)) else Gb
 | .str x,.str y=>if x.length+y.length<=sizeLine then Ga (.str (x++y)) else Gb
 | _,_=>Gb
section
variable {X:Cx}
theorem VT {ω:List (Gj×Obj)}{s:Gh}{σ:St}{H:Hp}{a b:Gj}{ys:List V}{Q:Gg->Gh->Prop}(I:gS X ω σ H s)(ha:mU X.K H a [])(hb:mU X.K H b ys)(h:Q (.ref b) s) :
  wpAny (model X.prog X.w) X.A (binaryOp .Add (.ref a) (.ref b)) Q X.xe s:=by
 obtain⟨its,r1,p1,_⟩:=I.tuple ha;obtain⟨its2,r2,p2,_⟩:=I.tuple hb;cases r1;obtain⟨⟨cls,dd,data,sl⟩,ho,hc,n,hd⟩:=id p1;obtain⟨⟨cls2,dd2,data2,sl2⟩,ho2,hc2,n2,hd2⟩:=id p2;simp only at hc hd hc2 hd2;subst hc hd hc2 hd2;exact concat_meets ⟨_,ho,rfl⟩ ⟨_,ho2,rfl⟩ noFill_tuple_add seq_tuple_add vH vz (vn _ _)
   (tuple_addW0 a b #[] its2.toArray n n2 dd dd2 sl sl2 (by rfl)) ⟨ho,ho2,h⟩
def ED (K:jb):R2:=λx y H Q=>∃ F a b d,gM F H/\iM K F a x/\iM K F b y/\lr a b=Ga d/\∀ v H' F',gM H H'->gM F F'->gM F' H'->lb F F' H->iM K F' d v->Q v H'
theorem xQ {F H:Hp}{p:Gj}{o:HO}(g:gM F H)(hp:H p=Gb)(pl:Pl o:=by trivial):gM H (upd H p o)/\gM F (upd F p o)/\gM (upd F p o) (upd H p o)/\lb F (upd F p o) H:=by
 have fp:F p=Gb:=g.free hp;refine⟨gM.new hp,gM.new fp,gM.up2 g fp hp pl,λb u h nb=>?_⟩
 .by_cases hb:b=p
  .subst hb;exact hp
  .rw[hE hb,nb] at h;cases h
theorem zB4:lU X (binaryOp .Add) (ED X.K):=by
 intro ω s σ H x y v u Q I rx ry h;obtain⟨F,a,b,d,g,ra,rb,e,q⟩:=h;cases ra with
 | int i =>
  cases rb<;>first|(cases e;done)|skip
  cases e;exact Ic ω s σ H _ _ v u Q I rx ry ⟨i,_,rfl,rfl,q _ H F (.refl _) (.refl _) g (.refl _ _) (.int _)⟩
 | str i =>
  cases rb<;>first|(cases e;done)|skip
  unfold lr at e;dsimp only at e;split at e
  .rename_i c;cases e;exact BW ω s σ H _ _ v u Q I rx ry ⟨i,_,rfl,rfl,c,q _ H F (.refl _) (.refl _) g (.refl _ _) (.str _)⟩
  .cases e
 | @tup p xs ds h1 q1 =>
  cases rb<;>first|(cases e;done)|skip
  rename_i p2 xs2 ds2 h2 q2;unfold lr at e;dsimp only at e;split at e
  .rename_i c;cases e;by_cases hx:xs=[]
   .subst hx;cases q1;cases rx;cases ry;exact VT I (nK g h1) (nK g h2) ⟨.ref p2,H,I,rfl,q _ H F (.refl _) (.refl _) g (.refl _ _) (.tup h2 q2)⟩
   .refine GO ω s σ H _ _ v u Q I rx ry ⟨p,p2,xs,xs2,rfl,rfl,nK g h1,nK g h2,hx,by rw[<- q1.length,<- q2.length];exact c,λz=>?_,λz l hl=>?_⟩
    .subst z;cases q2;exact q _ H F (.refl _) (.refl _) g (.refl _ _) (by rw[km];exact .tup h1 q1)
    .obtain⟨s1,s2,s3,s4⟩:=xQ (o:=.tup (xs++xs2)) g hl;exact q _ _ _ s1 s2 s3 s4 (.tup (mU.of ij) ((q1.append q2).mono s2))
  .cases e
 | @lst p xs ds h1 q1 =>
  cases rb<;>first|(cases e;done)|skip
  rename_i p2 xs2 ds2 h2 q2;unfold lr at e;dsimp only at e;split at e
  .rename_i c;cases e;cases rx;cases ry;obtain⟨its,r,pl,hz⟩:=I.list (g.seq h1);obtain⟨its2,r2,pl2,hz2⟩:=I.list (g.seq h2);obtain⟨o,n,e1,c1,d1,k1⟩:=pl;obtain⟨o2,n2,e2,c2,d2,k2⟩:=pl2;have l1:=q1.length;have l2:=q2.length;have l3:=r.length;have l4:=r2.length;obtain⟨oc,od,oda,osl⟩:=o;obtain⟨oc2,od2,oda2,osl2⟩:=o2;simp only at c1 d1 k1 c2 d2 k2;subst c1 d1 k1 c2 d2 k2;refine concat_meets ⟨_,e1,rfl⟩ ⟨_,e2,rfl⟩ noFill_list_add seq_list_add PySem.F.slot_list_add PySem.F.entry_list_add (PySem.F.args_list_add_2 _ _)
    (list_addW p p2 its.toArray its2.toArray n n2 _ _ _ _ (by rw[jl,jl];omega)) ⟨e1,e2,?_⟩
   have ea:its.toArray++its2.toArray=(its++its2).toArray:=by simp
   rw[ea];obtain⟨s1,s2,s3,s4⟩:=xQ (o:=.lst (xs++xs2)) g I.fresh;exact⟨.ref _,_,I.lnew (t':=s.toks) (r.append r2) (by rw[ju];omega),rfl,q _ _ _ s1 s2 s3 s4 (.lst (lH.of ij) ((q1.append q2).mono s2))⟩
  .cases e
 | non=>cases e
 | bl k=>cases e
 | dic hs h ok r=>cases e
 | dci hs h ok r=>cases e
theorem zDS {K:jb}:sV K (ED K) lr:=λF H x y a b d Q s ra rb e q=>⟨F,a,b,d,s,ra,rb,e,q⟩
end
section
variable {X:Cx}{pos:Pos}{a b:Expr}{f g:FV}
theorem nT (ha:PV X a f)(hb:PV X b g):PV X (.BinOp a .Add b pos) (λψ=>(f ψ).bind λx=>(g ψ).bind λy=>lr x y):=tu zB4 zDS ha hb
theorem sj (ha:PV X a f)(hb:PV X b g):PV X (.BinOp a .Sub b pos) (λψ=>(f ψ).bind λx=>(g ψ).bind λy=>lP x y):=tu Hr (pK λ_ _ _=>.int _) ha hb
theorem zX (ha:PV X a f)(hb:PV X b g):PV X (.BinOp a .Mult b pos) (λψ=>(f ψ).bind λx=>(g ψ).bind λy=>nk x y) :=
 tu Lw (BO (λi j h=>by simpa [tZ,BN] using h) λ_ _ _=>.int _) ha hb
theorem Bl (ha:PV X a f)(hb:PV X b g):PV X (.BinOp a .FloorDiv b pos) (λψ=>(f ψ).bind λx=>(g ψ).bind λy=>nw x y) :=
 tu GP (BO (λi j h=>by simpa [Le] using h) λ_ _ _=>.int _) ha hb
theorem xn (ha:PV X a f)(hb:PV X b g):PV X (.BinOp a .Mod b pos) (λψ=>(f ψ).bind λx=>(g ψ).bind λy=>lQ x y) :=
 tu LK (BO (λi j h=>by simpa using h) λ_ _ _=>.int _) ha hb
theorem Dc (ha:PV X a f)(hb:PV X b g):PV X (.BinOp a .Pow b pos) (λψ=>(f ψ).bind λx=>(g ψ).bind λy=>sC x y) :=
 tu Lu (BO (λi j h=>by simpa [LH,and_assoc] using h) λ_ _ _=>.int _) ha hb
theorem Xa (ha:PV X a f)(hb:PV X b g):PV X (.BinOp a .BitAnd b pos) (λψ=>(f ψ).bind λx=>(g ψ).bind λy=>Mr x y):=tu Mo (pK λ_ _ _=>.int _) ha hb
theorem Rt (ha:PV X a f)(hb:PV X b g):PV X (.BinOp a .BitOr b pos) (λψ=>(f ψ).bind λx=>(g ψ).bind λy=>Af x y):=tu OT (pK λ_ _ _=>.int _) ha hb
theorem DY (ha:PV X a f)(hb:PV X b g):PV X (.Compare a [.Lt] [b] pos) (λψ=>(f ψ).bind λx=>(g ψ).bind λy=>pO x y):=zk zF (pK λ_ _ _=>.bl _) ha hb
theorem UP (ha:PV X a f)(hb:PV X b g):PV X (.Compare a [.LtE] [b] pos) (λψ=>(f ψ).bind λx=>(g ψ).bind λy=>rh x y):=zk wI (pK λ_ _ _=>.bl _) ha hb
theorem Vm (ha:PV X a f)(hb:PV X b g):PV X (.Compare a [.Gt] [b] pos) (λψ=>(f ψ).bind λx=>(g ψ).bind λy=>pM x y):=zk Gk (pK λ_ _ _=>.bl _) ha hb
theorem Uu (ha:PV X a f)(hb:PV X b g):PV X (.Compare a [.GtE] [b] pos) (λψ=>(f ψ).bind λx=>(g ψ).bind λy=>Ae x y):=zk EJ (pK λ_ _ _=>.bl _) ha hb
theorem xo (hu:X.A.units+100<cLine)(ha:PV X a f)(hb:PV X b g):PV X (.Compare a [.Eq] [b] pos) (λψ=>(f ψ).bind λx=>(g ψ).bind λy=>lj x y):=zk (Uh hu) (wU Tj) ha hb
theorem Eg (hu:X.A.units+100<cLine)(ha:PV X a f)(hb:PV X b g):PV X (.Compare a [.NotEq] [b] pos) (λψ=>(f ψ).bind λx=>(g ψ).bind λy=>lR x y):=zk (Pe hu) (wU QM) ha hb
theorem Ar (ha:PV X a f)(hb:PV X b g):PB X (.Compare a [.Lt] [b] pos) (λψ=>((f ψ).bind λx=>(g ψ).bind λy=>pO x y).bind lM):=wO zF (pK λ_ _ _=>.bl _) ha hb
theorem Ep (ha:PV X a f)(hb:PV X b g):PB X (.Compare a [.LtE] [b] pos) (λψ=>((f ψ).bind λx=>(g ψ).bind λy=>rh x y).bind lM):=wO wI (pK λ_ _ _=>.bl _) ha hb
theorem tD (ha:PV X a f)(hb:PV X b g):PB X (.Compare a [.Gt] [b] pos) (λψ=>((f ψ).bind λx=>(g ψ).bind λy=>pM x y).bind lM):=wO Gk (pK λ_ _ _=>.bl _) ha hb
theorem LP (ha:PV X a f)(hb:PV X b g):PB X (.Compare a [.GtE] [b] pos) (λψ=>((f ψ).bind λx=>(g ψ).bind λy=>Ae x y).bind lM):=wO EJ (pK λ_ _ _=>.bl _) ha hb
theorem nQ (hu:X.A.units+100<cLine)(ha:PV X a f)(hb:PV X b g):PB X (.Compare a [.Eq] [b] pos) (λψ=>((f ψ).bind λx=>(g ψ).bind λy=>lj x y).bind lM):=wO (Uh hu) (wU Tj) ha hb
theorem rS (hu:X.A.units+100<cLine)(ha:PV X a f)(hb:PV X b g):PB X (.Compare a [.NotEq] [b] pos) (λψ=>((f ψ).bind λx=>(g ψ).bind λy=>lR x y).bind lM):=wO (Pe hu) (wU QM) ha hb
end
def Wu (K:jb)(f:FL):TE:=λσ H Q=>∃ H0 F ψ ds,RS K H0 F H ψ σ/\f ψ=Ga ds /\
 ∀ a xs H' F',gM H H'->gM F F'->gM F' H'->lb F F' H->lH K H' a xs->ia K F' ds xs->Q (.ref a) H'
abbrev sR (X:Cx)(e:Expr)(f:FL):Prop:=PE X e (Wu X.K f)
def yi:D->Option (List D)
 | .list xs=>Ga xs
 | _=>Gb
def xR:D->Option (List D)
 | .tuple xs=>Ga xs
 | _=>Gb
theorem QI {d:D}{xs:List D}(h:yi d=Ga xs):d=.list xs:=by cases d<;>cases h;rfl
theorem Rk {d:D}{xs:List D}(h:xR d=Ga xs):d=.tuple xs:=by cases d<;>cases h;rfl
def gl (i:Nat):FL:=λψ=>match ψ[i]? with
 | some (.own ds)=>Ga ds
 | some (.val (.list ds))=>Ga ds
 | _=>Gb
section
variable {X:Cx}{pos:Pos}
theorem PV.sh {e:Expr}{f:FV}(h:PV X e f):sR X e (λψ=>(f ψ).bind yi):=by
 refine mn h λσ H Q=>?_;rintro⟨H0,F,ψ,ds,r,e,q⟩;obtain⟨d,e1,e2⟩:=gL e;cases QI e2;refine⟨H0,F,ψ,_,r,e1,λv H' F' g f1 fh n rv=>?_⟩;cases rv with
 | lst h1 h2=>exact q _ _ H' F' g f1 fh n (fh.seq h1) h2
theorem PO.sh {e:Expr}{f:FL}(h:PO X e f):sR X e f:=by
 refine mn h λσ H Q=>?_;rintro⟨H0,F,ψ,ds,r,e,q⟩;exact⟨H0,F,ψ,ds,r,e,λa xs H' F' g f1 fh n ha fa ha' rr=>q a xs H' F' g f1 fh n (lH.of ha') rr⟩
theorem sN (i:Nat){x:Str}(hN:X.N[i]?=Ga x:=by rfl)(hv:wo X.env.scope x:=by first|exact k8 rfl|exact kJ (k8 rfl)|exact kJ (kJ rfl))(hd:(x==("__debug__":Str))=false:=by decide)
  (hcd:(x==("__classdict__":Str))=false:=by decide):sR X (.Name x pos) (gl i):=by
 refine mn (ph hN hv hd hcd) λσ H Q=>?_;rintro⟨H0,F,ψ,ds,r,e,q⟩;unfold gl at e;split at e
 .rename_i ds' z;cases e;obtain⟨u,e1,a,xs,e2,ha,fa,h0a,rr⟩:=r.sl i _ z;subst e2;exact⟨.ref a,e1,q a xs H F (.refl _) (.refl _) r.fh (.refl _ _) (lH.of ha) rr⟩
 .rename_i ds' z;cases e;obtain⟨u,e1,v,e2,h⟩:=r.sl i _ z;subst e2;cases h with
  | lst h1 h2=>exact⟨_,e1,q _ _ H F (.refl _) (.refl _) r.fh (.refl _ _) (r.fh.seq h1) h2⟩
 .cases e
def gZ:D->D->Option D
 | .list xs,.int i=>atI xs i
 | .tuple xs,.int i=>atI xs i
 | _,_=>Gb
theorem ia.at {K:jb}{F:Hp}{ds:List D}{vs:List V}(r:ia K F ds vs){i:Int}{d:D}(h:atI ds i=Ga d):∃ v,atI vs i=Ga v/\iM K F d v:=by
 unfold atI at h ⊢;rw[<- r.length];obtain⟨j,e1,e2⟩:=gL h;obtain⟨v,e3,e4⟩:=r.get e2;exact⟨v,by rw[e1];exact e3,e4⟩
theorem zF9 {K:jb}:sV K (Pm K) gZ:=by
 intro F H x y a b d Q s ra rb e q;cases ra<;>first|(cases e;done)|skip
 .rename_i p xs ds h1 h2;cases rb<;>first|(cases e;done)|skip
  rename_i i;obtain⟨v,e1,e2⟩:=h2.at e;exact .inr (.inl ⟨p,xs,i,v,rfl,rfl,nK s h1,e1,q v H F (.refl _) (.refl _) s (.refl _ _) e2⟩)
 .rename_i p xs ds h1 h2;cases rb<;>first|(cases e;done)|skip
  rename_i i;obtain⟨v,e1,e2⟩:=h2.at e;exact .inl ⟨p,xs,i,v,rfl,rfl,s.seq h1,e1,q v H F (.refl _) (.refl _) s (.refl _ _) e2⟩
theorem ic {a b:Expr}{f g:FV}(ha:PV X a f)(hb:PV X b g)(hs:yH b:=by exact λ_ _=>rfl):PV X (.Subscript a b pos) (λψ=>(f ψ).bind λx=>(g ψ).bind λy=>gZ x y) :=
 mn (Gy Ob ha hb hs) λ_ _ _ h=>Gm zF9 h
def yw (xs:List D):D->Option D
 | .int i=>atI xs i
 | _=>Gb
theorem xi {a b:Expr}{f:FL}{g:FV}(ha:sR X a f)(hb:PV X b g)(hs:yH b:=by exact λ_ _=>rfl):PV X (.Subscript a b pos) (λψ=>(f ψ).bind λx=>(g ψ).bind λy=>yw x y):=by
 refine mn (Gy AW ha hb hs) λσ H Q=>?_;rintro⟨H0,F,ψ,d,r,e,q⟩;obtain⟨ds,e1,e⟩:=gL e;obtain⟨b,e2,e⟩:=gL e;refine⟨H0,F,ψ,ds,r,e1,λp xs H1 F1 g1 f1 fh1 n1 hl rr=>⟨H0,F1,ψ,b,r.grow g1 f1 fh1 n1,e2,λu H2 F2 g2 f2 fh2 n2 ru=>?_⟩⟩;cases ru<;>first|(cases e;done)|skip
 rename_i i;obtain⟨v,e3,e4⟩:=rr.at e;exact⟨p,xs,i,v,rfl,rfl,g2.seq hl,e3,q v H2 F2 (g1.trans g2) (f1.trans f2) fh2 (n1.trans n2 g1) (e4.mono f2)⟩
theorem xW {e:Expr}{te:TE}{p:Pos}{x:Str}{id:String}{r:List V->Hp->VK->Prop}(hc:my X (.builtin id) r)(hg:Gl X x)(hm:X.mg x=Gb)(hv:bootBuiltins x=Ga (.builtin id))(ha:PE X e te)
  (hn:x≠"__name__":=by decide) (hdb:(x==("__debug__":Str))=false:=by decide) (hs:starEach [e] X.env=[(false,eval e X.env)]:=by rfl):PE X (.Call (.Name x p) [e] [] pos) (λσ H Q=>te σ H λv H1=>r [v] H1 Q) :=
 mn (xy hc hg hm hv (lN ha og hs) hn hdb hs (by rfl)) λσ H Q h=>h
theorem Te {e:Expr}{te:TE}{p:Pos}{x:Str}{id:String}{r:List V->Hp->VK->Prop}(hc:my X (.type id) r)(hg:Gl X x)(hm:X.mg x=Gb)(hv:bootBuiltins x=Ga (.type id))(ha:PE X e te)
  (hn:x≠"__name__":=by decide) (hdb:(x==("__debug__":Str))=false:=by decide) (hs:starEach [e] X.env=[(false,eval e X.env)]:=by rfl):PE X (.Call (.Name x p) [e] [] pos) (λσ H Q=>te σ H λv H1=>r [v] H1 Q) :=
 mn (DM hc hg hm hv (lN ha og hs) hn hdb hs (by rfl)) λσ H Q h=>h
def iU:D->Option D
 | .list xs=>Ga (.int xs.length)
 | .tuple xs=>Ga (.int xs.length)
 | _=>Gb
theorem nS {e:Expr}{f:FV}{p:Pos}(hg:Gl X "len")(hm:X.mg "len"=Gb)(ha:PV X e f)(hs:starEach [e] X.env=[(false,eval e X.env)]:=by rfl):PV X (.Call (.Name "len" p) [e] [] pos) (λψ=>(f ψ).bind iU):=by
 refine mn (xW AA hg hm PySem.boot_len ha (hs:=hs)) λσ H Q=>?_;rintro⟨H0,F,ψ,d,r,e,q⟩;obtain⟨d',e1,e⟩:=gL e;refine⟨H0,F,ψ,d',r,e1,λv H1 F1 g1 f1 fh1 n1 rv=>?_⟩;cases rv<;>first|(cases e;done)|skip
 .rename_i p xs ds h1 h2;cases e;exact⟨p,xs,rfl,.inr (nK fh1 h1),q _ H1 F1 g1 f1 fh1 n1 (by rw[h2.length];exact .int _)⟩
 .rename_i p xs ds h1 h2;cases e;exact⟨p,xs,rfl,.inl (fh1.seq h1),q _ H1 F1 g1 f1 fh1 n1 (by rw[h2.length];exact .int _)⟩
theorem Ay {e:Expr}{f:FL}{p:Pos}(hg:Gl X "tuple")(hm:X.mg "tuple"=Gb)(ha:sR X e f)(hs:starEach [e] X.env=[(false,eval e X.env)]:=by rfl):PV X (.Call (.Name "tuple" p) [e] [] pos) (λψ=>(f ψ).bind λxs=>Ga (.tuple xs)):=by
 refine mn (Te zC hg hm boot_tuple ha (hs:=hs)) λσ H Q=>?_;rintro⟨H0,F,ψ,d,r,e,q⟩;obtain⟨ds,e1,e⟩:=gL e;cases e;refine⟨H0,F,ψ,ds,r,e1,λp xs H1 F1 g1 f1 fh1 n1 hl rr=>⟨p,xs,rfl,.inl ⟨hl,λl hl'=>?_⟩⟩⟩;obtain⟨s1,s2,s3,s4⟩:=xQ (o:=.tup xs) fh1 hl';exact q _ _ _ (g1.trans s1) (f1.trans s2) s3 (n1.trans s4 g1) (.tup (mU.of ij) (rr.mono s2))
def EL:D->String
 | .none=>"NoneType"|.bool _=>"bool"|.int _=>"int"|.str _=>"str"|.list _=>"list"|.tuple _=>"tuple"|.dict _=>"dict"
def EK (T:String)(d:D):Bool:=EL d==T||(T=="int"&&EL d=="bool")
def FO:List String:=["int","bool","str","list","tuple"]
theorem YV {K:jb}{T:String}(hT:T∈FO)(d:D):PySem.W.kitOne K (.type (EL d)) (.type T)=Ga (EK T d):=by
 simp only[FO,jw,uN,or_false] at hT;rcases hT with rfl|rfl|rfl|rfl|rfl<;>cases d<;>kernel_rfl
theorem zGa {ω:List (Gj×Obj)}{σ:St}{F H:Hp}{s:Gh}(I:gS X ω σ H s)(g:gM F H){d:D}{v:V}(r:iM X.K F d v){u:Gg}(ru:iA v u):∃ P,PySem.W.KitX X.K u (.type (EL d)) P/\P s.heap:=by
 cases r with
 | non=>cases ru;exact⟨_,PySem.W.kitx_none,True.intro⟩
 | bl b=>cases ru;exact⟨_,PySem.W.kitx_bool,True.intro⟩
 | int i=>obtain⟨t,rfl⟩:=ru;exact⟨_,PySem.W.kitx_int,True.intro⟩
 | str x=>obtain⟨t,rfl⟩:=ru;exact⟨_,PySem.W.kitx_str,True.intro⟩
 | tup h q=>cases ru;obtain⟨its,rv,⟨o,e,c,n,d⟩,_⟩:=I.tuple (nK g h);exact⟨_,PySem.W.kitx_tuple,⟨o,e,c⟩⟩
 | lst h q=>cases ru;obtain⟨its,rv,⟨o,n,e,c,_,d⟩,_⟩:=I.list (g.seq h);exact⟨_,PySem.W.kitx_list,⟨o,e,c⟩⟩
 | dic sm h ok q=>cases ru;obtain⟨⟨o,es,e,c,d,k⟩,_,_⟩:=(show mR X.prog X.w H s.heap _ (.ext _) from I.hok _ _ (g _ _ h));exact⟨_,JC,⟨o,e,c.1⟩⟩
 | dci sm h ok q=>cases ru;obtain⟨⟨o,es,e,c,d,k⟩,_,_⟩:=(show mR X.prog X.w H s.heap _ (.ext _) from I.hok _ _ (g _ _ h));exact⟨_,JC,⟨o,e,c.1⟩⟩
theorem zu4 {v:V}{u:Gg}(r:iA v u):u≠.builtin "__main__.__loader__#opaque":=by
 intro z;subst z;cases v<;>first|(cases r;done)|(obtain⟨t,q⟩:=r;cases q)
theorem zwO {T:String}(hT:T∈FO):my X (.builtin "isinstance") (λxs H Q=>∃ F d x,xs=[x,.ty T]/\gM F H/\iM X.K F d x/\Q (.bl (EK T d)) H):=by
 intro ω s σ H xs us Q I r h;obtain⟨F,d,x,rfl,g,rx,q⟩:=h;obtain⟨u,w',rfl,r1,r2⟩:=Ex r;cases r2;obtain⟨P,Z,z⟩:=zGa I g rx r1;exact PySem.W.kia_one Z I.kIn z (YV hT d) (zu4 r1) λtk=>⟨.bl _,H,I.tok tk,rfl,q⟩
theorem zGb {x:Str}{T:String}(hg:Gl X x)(hm:X.mg x=Gb)(hv:bootBuiltins x=Ga (.type T))(hn:x≠"__name__":=by decide)(hd:(x==("__debug__":Str))=false:=by decide):PE X (.Name x pos) (tC (.ty T)) :=
 λ_ _ _ H _ I h=>re I hg hm hv ⟨.ty T,H,I,rfl,h⟩ hn hd
theorem ww {e:Expr}{f:FV}{p p2:Pos}{x:Str}{T:String}(hT:T∈FO)(hg:Gl X "isinstance")(hm:X.mg "isinstance"=Gb)(hg2:Gl X x)(hm2:X.mg x=Gb)(hv:bootBuiltins x=Ga (.type T))(ha:PV X e f)
  (hn:x≠"__name__":=by decide) (hd:(x==("__debug__":Str))=false:=by decide)
  (hs:starEach [e,.Name x p2] X.env=(false,eval e X.env)::starEach [.Name x p2] X.env:=by rfl) (hs2:starEach [.Name x p2] X.env=[(false,eval (.Name x p2) X.env)]:=by rfl) :
  PV X (.Call (.Name "isinstance" p) [e,.Name x p2] [] pos) (λψ=>(f ψ).bind λd=>Ga (.bool (EK T d))):=by
 refine mn (xy (zwO hT) hg hm boot_isinstance (lN ha (lN (zGb (pos:=p2) hg2 hm2 hv hn hd) og hs2) hs) (by decide) (by decide) hs (by rw[hs2];rfl)) λσ H Q=>?_;rintro⟨H0,F,ψ,d,r,e,q⟩;obtain⟨d',e1,e⟩:=gL e;cases e;refine⟨H0,F,ψ,d',r,e1,λv H1 F1 g1 f1 fh1 n1 rv=>?_⟩;exact⟨F1,d',v,rfl,fh1,rv,q _ H1 F1 g1 f1 fh1 n1 (.bl _)⟩
end
inductive sq where
 | nx (ψ:En)|rt (d:D)|ro (ds:List D)|bk (ψ:En)|ct (ψ:En)|rm (a:Gj) (kvs:List (Int×D))|rc (d:D) (ψ:En)
abbrev FS:=En->Option sq
def BQ (K:jb)(H0 F:Hp)(E:xp):sq->Prop
 | .nx ψ=>∀ σ' H' F',gM F F'->lb F F' H0->RS K H0 F' H' ψ σ'->E.nx σ' H'
 | .bk ψ=>∀ σ' H' F',gM F F'->lb F F' H0->RS K H0 F' H' ψ σ'->E.bk σ' H'
 | .ct ψ=>∀ σ' H' F',gM F F'->lb F F' H0->RS K H0 F' H' ψ σ'->E.ct σ' H'
 | .rt d=>∀ v H' F',gM H0 H'->gM F F'->gM F' H'->lb F F' H0->iM K F' d v->E.rt v H'
 | .ro ds=>∀ a xs H' F',gM H0 H'->gM F F'->gM F' H'->lb F F' H0->H0 a=Gb->F' a=Gb->H' a=Ga (.lst xs)->ia K F' ds xs->E.rt (.ref a) H'
 | .rm a kvs=>∀ ws ep H' F',gM H0 H'->gM F F'->gM F' H'->lb F F' H0->F' a=Gb->H' a=Ga (.ext (pz a ws ep))->lg K F' kvs ws->wj kvs->E.rt (.ref a) H'
 | .rc d ψ=>∀ v σ' H' F',gM F F'->lb F F' H0->RS K H0 F' H' ψ σ'->iM K F' d v->E.rt v H'
theorem lb.up {F F1 F2 H0:Hp}(a:lb F F1 H0)(b:lb F1 F2 H0):lb F F2 H0:=a.trans b (.refl _)
theorem lb.dn {F F1 H H0:Hp}(a:lb F F1 H)(s:gM H0 H):lb F F1 H0:=λb o h n=>s.free (a b o h n)
theorem BQ.mono {K:jb}{H0 F F1:Hp}{E:xp}{o:sq}(f:gM F F1)(n:lb F F1 H0)(p:BQ K H0 F E o):BQ K H0 F1 E o:=by
 cases o with
 | nx ψ=>exact λσ' H' F' f2 n2 r=>p σ' H' F' (f.trans f2) (n.up n2) r
 | bk ψ=>exact λσ' H' F' f2 n2 r=>p σ' H' F' (f.trans f2) (n.up n2) r
 | ct ψ=>exact λσ' H' F' f2 n2 r=>p σ' H' F' (f.trans f2) (n.up n2) r
 | rt d=>exact λv H' F' g f2 fh n2 r=>p v H' F' g (f.trans f2) fh (n.up n2) r
 | ro ds=>exact λa xs H' F' g f2 fh n2 h1 h2 h3 r=>p a xs H' F' g (f.trans f2) fh (n.up n2) h1 h2 h3 r
 | rm a kvs=>exact λws ep H' F' g f2 fh n2 h1 h2 h3 r=>p ws ep H' F' g (f.trans f2) fh (n.up n2) h1 h2 h3 r
 | rc d ψ=>exact λv σ' H' F' f2 n2 r q=>p v σ' H' F' (f.trans f2) (n.up n2) r q
def HI (K:jb)(g:FS):TS:=λE σ H=>∃ H0 F ψ o,RS K H0 F H ψ σ/\g ψ=Ga o/\BQ K H0 F E o
abbrev ot (X:Cx)(st:Stmt)(g:FS):Prop:=PS X st (HI X.K g)
abbrev oV (X:Cx)(st:List Stmt)(g:FS):Prop:=rG X st (HI X.K g)
noncomputable def lT (o:Option sq)(k:FS):Option sq:=o.bind λo=>match o with
 | .nx ψ=>k ψ
 | o=>Ga o
section
variable {X:Cx}{pos:Pos}
theorem ma:oV X [] (λψ=>Ga (.nx ψ)):=by
 refine RJ Hb λE σ H=>?_;rintro⟨H0,F,ψ,o,r,e,p⟩;cases e;exact p σ H F (.refl _) (.refl _ _) r
theorem ii {st:Stmt}{rest:List Stmt}{g k:FS}(h1:ot X st g)(h2:oV X rest k):oV X (st::rest) (λψ=>lT (g ψ) k):=by
 refine RJ (Ei h1 h2) λE σ H=>?_;rintro⟨H0,F,ψ,o,r,e,p⟩;obtain⟨o1,e1,e2⟩:=gL e;refine⟨H0,F,ψ,o1,r,e1,?_⟩;cases o1 with
 | nx env1=>exact λσ' H' F' f n r'=>⟨H0,F',env1,o,r',e2,p.mono f n⟩
 | rt d=>cases e2;exact p
 | ro d=>cases e2;exact p
 | rm a d=>cases e2;exact p
 | rc a d=>cases e2;exact p
 | bk d=>cases e2;exact p
 | ct d=>cases e2;exact p
theorem hG {st:Stmt}{g:FS}(h1:ot X st g):oV X [st] g:=GN h1
theorem DP (i:Nat){st:Stmt}{g:FS}(h:ot X st g):ot X st (λψ=>g (frzAt i ψ)):=by
 refine sS h λE σ H=>?_;rintro⟨H0,F,ψ,o,r,e,p⟩;obtain⟨F',f,n,r'⟩:=r.frzAt i;exact⟨H0,F',_,o,r',e,p.mono f n⟩
theorem iy {e:Expr}{f:FV}(h:PV X e f):ot X (.Return (Ga e) pos) (λψ=>(f ψ).bind λd=>Ga (.rt d)):=by
 refine sS (Ak h) λE σ H=>?_;rintro⟨H0,F,ψ,o,r,e,p⟩;obtain⟨d,e1,e⟩:=gL e;cases e;exact⟨H0,F,ψ,d,r,e1,λv H' F' g f1 fh n rv=>p v H' F' (r.h0.trans g) f1 fh (n.dn r.h0) rv⟩
theorem HJ {e:Expr}{f:FL}(h:PO X e f):ot X (.Return (Ga e) pos) (λψ=>(f ψ).bind λd=>Ga (.ro d)):=by
 refine sS (Ak h) λE σ H=>?_;rintro⟨H0,F,ψ,o,r,e,p⟩;obtain⟨d,e1,e⟩:=gL e;cases e;exact⟨H0,F,ψ,d,r,e1,λa xs H' F' g f1 fh n ha fa ha' rr=>p a xs H' F' (r.h0.trans g) f1 fh (n.dn r.h0) (r.h0.free ha) fa ha' rr⟩
def go (i:Nat):FL:=λψ=>match ψ[i]? with
 | some (.own ds)=>Ga ds
 | _=>Gb
theorem za (i:Nat){x:Str}{p:Pos}(hN:X.N[i]?=Ga x:=by rfl)(hv:wo X.env.scope x:=by first|exact k8 rfl|exact kJ (k8 rfl)|exact kJ (kJ rfl))(hd:(x==("__debug__":Str))=false:=by decide)
  (hcd:(x==("__classdict__":Str))=false:=by decide):ot X (.Return (Ga (.Name x p)) pos) (λψ=>(go i ψ).bind λd=>Ga (.ro d)):=by
 refine sS (Ak (ph hN hv hd hcd)) λE σ H=>?_;rintro⟨H0,F,ψ,o,r,e,p⟩;obtain⟨ds,e1,e⟩:=gL e;cases e;unfold go at e1;split at e1
 .rename_i ds' z;cases e1;obtain⟨u,e1,a,xs,e2,ha,fa,h0a,rr⟩:=r.sl i _ z;subst e2;exact⟨.ref a,e1,p a xs H F r.h0 (.refl _) r.fh (.refl _ _) h0a fa ha rr⟩
 .cases e1
theorem lz {c:Expr}{a b:List Stmt}{fc:FB}{g k:FS}(hc:PB X c fc)(ha:oV X a g)(hb:oV X b k):ot X (.If c a b pos) (λψ=>(fc (frz ψ)).bind λt=>if t then g ψ else k ψ):=by
 refine sS (OL hc ha hb) λE σ H=>?_;rintro⟨H0,F,ψ,o,r,e,p⟩;obtain⟨t,e1,e⟩:=gL e;refine⟨H0,H,frz ψ,t,r.frz,e1,λH' g'=>?_⟩;cases t with
 | true=>exact sG ⟨H0,F,ψ,o,r.later g',e,p⟩
 | false=>exact sv ⟨H0,F,ψ,o,r.later g',e,p⟩
theorem lv (i:Nat){x:Str}{e:Expr}{f:FV}{pos':Pos}(h:PV X e f)(hN:X.N.Nodup)(hi:X.N[i]?=Ga x:=by rfl)(hx:wS X.env.scope x:=by first|exact k8 rfl|exact kJ rfl)
  (hs:swapsWith e (Ga (.Name x pos')) pos.line X.env=pure false:=by rfl) (hf:X.fn x=true\/X.env.scope.names.lookup x=Ga .local:=by first|exact .inl rfl|exact .inr rfl) :
  ot X (.Assign [.Name x pos'] e pos) (λψ=>(f ψ).bind λd=>Ga (.nx (ψ.set i (.val d)))):=by
 intro ω s σ H D I hw;refine yp hN hi hx h hs hf ω s σ H D I ?_;obtain⟨H0,F,ψ,o,r,e,p⟩:=hw;obtain⟨d,e1,e⟩:=gL e;cases e;have hl:i<σ.length:=by rw[I.len];exact(jn.mp hi).1
 exact⟨H0,F,ψ,d,r,e1,λv H' F' g f1 fh n rv=>p _ H' F' f1 (n.dn r.h0) ((r.grow g f1 fh n).put hl rv)⟩
theorem wt (i:Nat){x:Str}{e:Expr}{f:FL}{pos':Pos}(h:PO X e f)(hN:X.N.Nodup)(hi:X.N[i]?=Ga x:=by rfl)(hx:wS X.env.scope x:=by first|exact k8 rfl|exact kJ rfl)
  (hs:swapsWith e (Ga (.Name x pos')) pos.line X.env=pure false:=by rfl) (hf:X.fn x=true\/X.env.scope.names.lookup x=Ga .local:=by first|exact .inl rfl|exact .inr rfl) :
  ot X (.Assign [.Name x pos'] e pos) (λψ=>(f ψ).bind λd=>Ga (.nx (ψ.set i (.own d)))):=by
 intro ω s σ H D I hw;refine yp hN hi hx h hs hf ω s σ H D I ?_;obtain⟨H0,F,ψ,o,r,e,p⟩:=hw;obtain⟨d,e1,e⟩:=gL e;cases e;have hl:i<σ.length:=by rw[I.len];exact(jn.mp hi).1
 refine⟨H0,F,ψ,d,r,e1,λa xs H' F' g f1 fh n ha fa ha' rr=>p _ H' F' f1 (n.dn r.h0) ((r.grow g f1 fh n).putO hl ha' fa (r.h0.free ha) rr ?_)⟩;exact λj s o _ ej=>r.ne_free ha j s o ej
theorem yn (i:Nat){x:Str}{e:Expr}{f:FV}{p p2 p3:Pos}(h:PV X e f)(hN:X.N[i]?=Ga x:=by rfl)(hv:wo X.env.scope x:=by first|exact k8 rfl|exact kJ (k8 rfl)|exact kJ (kJ rfl))
  (hst:starEach [e] X.env=[(false,eval e X.env)]:=by rfl) (hline:(p2.endLine==p3.line)=true:=by rfl)
  (hd:(x==("__debug__":Str))=false:=by decide) (hcd:(x==("__classdict__":Str))=false:=by decide)
  (hs:swapsWith (.Call (.Attribute (.Name x p) "append" p2) [e] [] p3) Gb pos.line X.env=pure false:=by rfl) :
  ot X (.Expr (.Call (.Attribute (.Name x p) "append" p2) [e] [] p3) pos) (λψ=>(go i ψ).bind λds=>(f ψ).bind λd=>if ds.length<1000000 then Ga (.nx (ψ.set i (.own (ds++[d])))) else Gb):=by
 refine sS (BA (GL qx PySem.F.slot_list_append PySem.F.type_list_append zb (ph (pos:=p) hN hv hd hcd) (lN h og hst) rfl (by rw[hst];rfl) hline hst rfl) hs) λE σ H=>?_;rintro⟨H0,F,ψ,o,r,e,p⟩;obtain⟨ds,e1,e⟩:=gL e;obtain⟨d,e2,e⟩:=gL e;split at e;rotate_left
 .cases e
 rename_i hz;cases e;unfold go at e1;split at e1;rotate_left
 .cases e1
 rename_i ds' z;cases e1;obtain⟨u,e3,a,xs,e4,ha,fa,h0a,rr⟩:=r.sl i _ z;subst e4;refine⟨.ref a,e3,.inl ⟨rfl,xs,lH.of ha⟩,H0,F,ψ,d,r,e2,λv H' F' g f1 fh n rv=>?_⟩;have r2:=r.grow g f1 fh n;obtain⟨u2,e5,a2,xs2,e6,ha2,fa2,h0a2,rr2⟩:=r2.sl i _ z;rw[e3] at e5;cases e5;cases e6;have ex:xs2=xs:=by have:=g a _ ha;rw[ha2] at this;cases this;rfl
 subst ex;refine⟨a,xs2,v,rfl,rfl,ha2,?_,?_⟩
 .rw[<- rr2.length];exact jB hz (by rw[sizeLine_eq];decide)
 .exact p σ _ F' f1 (n.dn r.h0) (r2.chg z e3 (rr2.append (.cons rv .nil)))
abbrev FT:=D->En->Option En
def tG (K:jb)(t:FT):TG:=λv σ H Q=>∃ H0 F ψ d env',RS K H0 F H ψ σ/\iM K F d v/\t d ψ=Ga env'/\∀ σ',RS K H0 F H env' σ'->Q σ' H
abbrev wY (X:Cx)(tg:Expr)(t:FT):Prop:=PG X tg (tG X.K t)
def Wp (K:jb)(t:List D->En->Option En):xL:=λvs σ H Q=>∃ H0 F ψ ds env',RS K H0 F H ψ σ/\ia K F ds vs/\t ds ψ=Ga env'/\∀ σ',RS K H0 F H env' σ'->Q σ' H
abbrev zL (X:Cx)(tg:List Expr)(t:List D->En->Option En):Prop:=zW X tg (Wp X.K t)
theorem zB6 {tg:Expr}{t t':TG}(h:PG X tg t)(m:∀ v σ H Q,t' v σ H Q->t v σ H Q):PG X tg t':=λω s σ H v u Q I r q=>h ω s σ H v u Q I r (m _ _ _ _ q)
theorem PU {tg:List Expr}{t t':xL}(h:zW X tg t)(m:∀ v σ H Q,t' v σ H Q->t v σ H Q):zW X tg t':=λω s σ H v u Q I r q=>h ω s σ H v u Q I r (m _ _ _ _ q)
theorem MV (i:Nat){x:Str}(hN:X.N.Nodup)(hi:X.N[i]?=Ga x:=by rfl)(hx:wS X.env.scope x:=by first|exact k8 rfl|exact kJ rfl)(hf:X.fn x=true\/X.env.scope.names.lookup x=Ga .local:=by first|exact .inl rfl|exact .inr rfl) :
  wY X (.Name x pos) (λd ψ=>Ga (ψ.set i (.val d))):=by
 intro ω s σ H v u Q I r hw;refine GM hN hi hx hf ω s σ H v u Q I r ?_;obtain⟨H0,F,ψ,d,env',rs,rv,e,q⟩:=hw;cases e;have hl:i<σ.length:=by rw[I.len];exact(jn.mp hi).1
 exact q _ (rs.put hl rv)
theorem zDV:zL X [] (λds ψ=>match ds with|[]=>Ga ψ|_=>Gb):=by
 refine PU GT λvs σ H Q=>?_;rintro⟨H0,F,ψ,ds,env',rs,rv,e,q⟩;cases rv with
 | nil=>cases e;exact⟨rfl,q σ rs⟩
 | cons _ _=>cases e
theorem zB7 {e:Expr}{es:List Expr}{t:FT}{u:List D->En->Option En}(h1:wY X e t)(h2:zL X es u)(hs:(assignEach (e::es) X.env).map (·.2)=assign e X.env::(assignEach es X.env).map (·.2):=by rfl) :
  zL X (e::es) (λds ψ=>match ds with|d::r=>(t d ψ).bind λenv1=>u r env1|[]=>Gb):=by
 refine PU (DX h1 h2 hs) λvs σ H Q=>?_;rintro⟨H0,F,ψ,ds,env',rs,rv,e,q⟩;cases rv with
 | nil=>cases e
 | @cons d v ds vs h t =>
  obtain⟨env1,e1,e2⟩:=gL e;exact⟨v,vs,rfl,H0,F,ψ,d,env1,rs,h,e1,λσ1 r1=>⟨H0,F,env1,ds,env',r1,t,e2,q⟩⟩
theorem zGc {es:List Expr}{k:Nat}{t:List D->En->Option En}(hc:X.calm=true)(h:zL X es t)(hl:∀ ds ψ env',t ds ψ=Ga env'->ds.length=es.length)
  (hn:(assignEach es X.env).length=es.length:=by rfl) (hst:(assignEach es X.env).findIdx? (·.1)=Gb:=by rfl):wY X (.Tuple es k pos) (λd ψ=>(xR d).bind λds=>t ds ψ):=by
 refine zB6 (Iz hc h hn hst) λv σ H Q=>?_;rintro⟨H0,F,ψ,d,env',rs,rv,e,q⟩;obtain⟨ds,e1,e2⟩:=gL e;cases Rk e1;cases rv with
 | @tup a xs _ h1 rr=>exact⟨a,xs,rfl,nK rs.fh h1,by rw[<- rr.length];exact hl _ _ _ e2,H0,F,ψ,ds,env',rs,rr,e2,q⟩
theorem Qa {tg e:Expr}{f:FV}{t:FT}(he:PV X e f)(hg:wY X tg t)(hs:swapsWithSole [tg] e pos.line X.env=pure false:=by rfl)(hw:swappedStores [tg] e X.env=pure Gb:=by rfl)
  (h1:(assignEach [tg] X.env).map (·.2)=[assign tg X.env]:=by rfl):ot X (.Assign [tg] e pos) (λψ=>(f ψ).bind λd=>(t d ψ).bind λenv1=>Ga (.nx env1)):=by
 refine sS (Dz he hg hs hw h1) λE σ H=>?_;rintro⟨H0,F,ψ,o,r,e,p⟩;obtain⟨d,e1,e⟩:=gL e;obtain⟨env1,e2,e⟩:=gL e;cases e;exact⟨H0,F,ψ,d,r,e1,λv H' F' g f1 fh n rv=>⟨H0,F',ψ,d,env1,r.grow g f1 fh n,rv,e2,λσ' r'=>p σ' H' F' f1 (n.dn r.h0) r'⟩⟩
def iV (t:FT)(body:FS):List D->FS
 | [],ψ=>Ga (.nx ψ)
 | x::r,ψ=>(t x ψ).bind λe1=>(body e1).bind λo=>match o with
  | .nx e=>iV t body r e
  | .ct e=>iV t body r e
  | .bk e=>Ga (.nx e)
  | .rt d=>Ga (.rt d)
  | .ro ds=>Ga (.ro ds)
  | .rm a kvs=>Ga (.rm a kvs)
  | .rc d e=>Ga (.rc d e)
def pY (K:jb)(J:It)(F:Hp)(items:List D):Prop:=∀ (H:Hp),gM F H->∀ i,(items.length<=i->J.stop i H) /\
 ∀ d,items[i]?=Ga d->J.go i H/\∀ x H',J.yld i H x H'->gM H H'/\∃ F',gM F F'/\gM F' H'/\lb F F' H/\iM K F' d x
def tI (K:jb)(f:FL):TI:=λσ H R=>∃ H0 F ψ ds,RS K H0 F H ψ σ/\f ψ=Ga ds/\∀ J H' F',gM H H'->gM F F'->gM F' H'->lb F F' H->(∀ F2,gM F' F2->pY K J F2 ds)->R J H'
abbrev Ab (X:Cx)(tg iter:Expr)(f:FL):Prop:=PI X tg iter (tI X.K f)
theorem Mm {tg it:Expr}{t t':TI}(h:PI X tg it t)(m:∀ σ H Q,t' σ H Q->t σ H Q):PI X tg it t':=λω s σ H Q I q=>h ω s σ H Q I (m σ H Q q)
theorem nz {tg iter:Expr}{body:List Stmt}{f:FL}{t:FT}{g:FS}(hp:PassesOwn (model X.prog X.w) X.A X.env X.xe)(hc:X.calm=true)(hi:Ab X tg iter f)(hg:wY X tg t)(hb:oV X body g)
  (hs:∀ x,foldedSetIterable iter X.env x=pure x:=by intro _;rfl):ot X (.For tg iter body [] pos) (λψ=>(f ψ).bind λds=>iV t g ds ψ):=by
 refine sS (LL hp hc hi hg hb hs) λE σ H=>?_;rintro⟨H0,F,ψ,o,r,e,p⟩;obtain⟨ds,e1,e⟩:=gL e;refine⟨H0,F,ψ,ds,r,e1,λJ H1 F1 g1 f1 fh1 n1 Y=>?_⟩;have p1:=p.mono f1 (n1.dn r.h0);have r1:=r.grow g1 f1 fh1 n1;refine⟨λi m σ H=>i+m=ds.length/\∃ F2 ψ,RS X.K H0 F2 H ψ σ/\gM F1 F2/\lb F1 F2 H0/\iV t g (ds.drop i) ψ=Ga o,⟨ds.length,by omega,F1,ψ,r1,.refl _,.refl _ _,e⟩,?_⟩;rintro i m σ' H' ⟨hm,F2,env2,r2,f2,n2,e2⟩;have p2:=p1.mono f2 n2;obtain⟨yd,yg⟩:=Y F2 f2 H' r2.fh i;by_cases hlt:i<ds.length
 .obtain⟨go,yy⟩:=yg ds[i] (by simp[hlt]);rw[qi hlt] at e2;unfold iV at e2;obtain⟨e3,x1,x2⟩:=gL e2;obtain⟨o1,x3,x4⟩:=gL x2;refine .inr ⟨go,λσ3 H3=>i+1+(m-1)=ds.length/\∃ F3 ψ,RS X.K H0 F3 H3 ψ σ3/\gM F1 F3/\lb F1 F3 H0/\iV t g (ds.drop (i+1)) ψ=Ga o,λσ3 H3 h3=>⟨m-1,by omega,h3⟩,λx Hx yl=>?_⟩;obtain⟨gx,F4,f4,fh4,n4,rx⟩:=yy x Hx yl;have r4:=r2.grow gx f4 fh4 n4;refine⟨H0,F4,env2,ds[i],e3,r4,rx,x1,λσ5 r5=>⟨H0,F4,e3,o1,r5,x3,?_⟩⟩;have p4:=p2.mono f4 (n4.dn r2.h0);cases o1 with
  | nx e5=>exact λσ6 H6 F6 f6 n6 r6=>⟨by omega,F6,e5,r6,f2.trans (f4.trans f6),n2.up ((n4.dn r2.h0).up n6),x4⟩
  | ct e5=>exact λσ6 H6 F6 f6 n6 r6=>⟨by omega,F6,e5,r6,f2.trans (f4.trans f6),n2.up ((n4.dn r2.h0).up n6),x4⟩
  | bk e5=>cases x4;exact p4
  | rt d=>cases x4;exact p4
  | ro d=>cases x4;exact p4
  | rm a d=>cases x4;exact p4
  | rc a d=>cases x4;exact p4
 .rw[qF (by omega)] at e2;cases e2;exact .inl ⟨yd (by omega),p2 σ' H' F2 (.refl _) (.refl _ _) r2⟩
def toS:D->Option (List D)
 | .list xs=>Ga xs
 | .tuple xs=>Ga xs
 | _=>Gb
theorem zs6 {K:jb}{F:Hp}{a:Gj}{xs:List V}{ds:List D}(h:lH K F a xs)(r:ia K F ds xs):pY K (Hk K a) F ds:=by
 intro H g i;refine⟨λhi=>⟨xs,g.seq h,by rw[<- r.length];exact hi⟩,λd hd=>?_⟩;obtain⟨v,e1,e2⟩:=r.get hd;refine⟨⟨xs,v,g.seq h,e1⟩,λx H' y=>?_⟩;obtain⟨rfl,y⟩:=y;have:=y xs (g.seq h);rw[e1] at this;cases this;exact⟨.refl _,F,.refl _,g,.refl _ _,e2⟩
theorem Zy {K:jb}{F:Hp}{a:Gj}{xs:List V}{ds:List D}(h:mU K F a xs)(r:ia K F ds xs):pY K (IP K a) F ds:=by
 intro H g i;refine⟨λhi=>⟨xs,nK g h,by rw[<- r.length];exact hi⟩,λd hd=>?_⟩;obtain⟨v,e1,e2⟩:=r.get hd;refine⟨⟨xs,v,nK g h,e1⟩,λx H' y=>?_⟩;obtain⟨rfl,y⟩:=y;have:=y xs (nK g h);rw[e1] at this;cases this;exact⟨.refl _,F,.refl _,g,.refl _ _,e2⟩
end
theorem FE {ψ:Env}:∀ (names:List (Str×NameKind)) (cs:List (Str×Gj)),(∀ y∈names,y.2=.free->∃ c,ψ.cells.lookup y.1=Ga c)->(∀ x c,cs.lookup x=Ga c->ψ.cells.lookup x=Ga c) ->
  ∃ cl,(forIn names cs λ(y:Str×NameKind) (r:List (Str×Gj))=>(if (y.2==.free)=true then(do let a <- cellOf ψ y.1;pure (ForInStep.yield ((y.1,a)::r))) else pure (ForInStep.yield r):Sem (ForInStep (List (Str×Gj)))))=(pure cl:Sem (List (Str×Gj))) /\
   (∀ x c,cl.lookup x=Ga c->ψ.cells.lookup x=Ga c)/\(∀ x,(x,j8)∈names->∃ c,cl.lookup x=Ga c)/\∀ x c,cs.lookup x=Ga c->∃ c',cl.lookup x=Ga c'
 | [],cs,_,h2=>⟨cs,rfl,h2,λx hx=>by simp at hx,λx c h=>⟨c,h⟩⟩
 | (n,k)::r,cs,h1,h2=>by
  have h1':∀ y∈r,y.2=.free->∃ c,ψ.cells.lookup y.1=Ga c:=λy hy=>h1 y (jo _ hy);by_cases hk:k=.free
  .obtain⟨c,hc⟩:=h1 (n,k) jh hk;have h2':∀ x c',((n,c)::cs).lookup x=Ga c'->ψ.cells.lookup x=Ga c':=λx c' h=>by
    rw[kw] at h;cases hx:x==n with
    | true=>rw[hx] at h;cases h;rw[beq_iff_eq.mp hx];exact hc
    | false=>rw[hx] at h;exact h2 x c' h
   obtain⟨cl,e,a,b,d⟩:=FE r ((n,c)::cs) h1' h2';refine⟨cl,?_,a,λx hx=>?_,λx c' h=>?_⟩
   .rw[JV];have hb:(k==j8)=true:=by simp[hk]
    simp only[hb,if_true];have hcell:cellOf ψ n=pure c:=by unfold cellOf;rw[hc]
    rw[hcell];exact e
   .rcases jw.mp hx with z|z
    .cases z;exact d n c (by simp[kw])
    .exact b x z
   .cases hx:x==n with
    | true=>exact d x c (by rw[kw,hx])
    | false=>exact d x c' (by rw[kw,hx];exact h)
  .obtain⟨cl,e,a,b,d⟩:=FE r cs h1' h2;refine⟨cl,?_,a,λx hx=>?_,d⟩
   .rw[JV];have hb:(k==j8)=false:=by simpa using hk
    simp only[hb,kH,if_false];exact e
   .rcases jw.mp hx with z|z
    .cases z;exact absurd rfl hk
    .exact b x z
theorem SC {scope:Scope}{ψ:Env}:closureFor scope ψ=(forIn scope.names [] λ(y:Str×NameKind) (r:List (Str×Gj))=>(if (y.2==.free)=true then(do let a <- cellOf ψ y.1;pure (ForInStep.yield ((y.1,a)::r))) else pure (ForInStep.yield r):Sem (ForInStep (List (Str×Gj))))) >>= pure:=by
 unfold closureFor;rfl
theorem RF {ψ:Env}:∀ {names:List (Str×NameKind)} {x:Str},names.lookup x=Ga .free ->
  (names.map λ(n,k)=>if (k==j8&&ψ.scope.kind==.function&&ψ.kindOf n==Ga .cell) then(n,vq) else(n,k)).lookup x=Ga .cell \/
  (names.map λ(n,k)=>if (k==j8&&ψ.scope.kind==.function&&ψ.kindOf n==Ga .cell) then(n,vq) else(n,k)).lookup x=Ga .free
 | [],_,h=>by simp at h
 | (n,k)::r,x,h=>by
  have ih:=@RF ψ r x;show List.lookup x ((if (k==j8&&ψ.scope.kind==.function&&ψ.kindOf n==Ga .cell)=true then(n,vq) else(n,k))::_)=_\/List.lookup x ((if (k==j8&&ψ.scope.kind==.function&&ψ.kindOf n==Ga .cell)=true then(n,vq) else(n,k))::_)=_;cases hx:x==n with
  | true =>
   simp only[kw,hx] at h;cases h;by_cases hc:(j8==j8&&ψ.scope.kind==.function&&ψ.kindOf n==Ga .cell)=true
   .rw[Ge hc];simp[kw,hx]
   .rw[Gf hc];simp[kw,hx]
  | false =>
   simp only[kw,hx] at h;by_cases hc:(k==j8&&ψ.scope.kind==.function&&ψ.kindOf n==Ga .cell)=true
   .rw[Ge hc];simp only[kw,hx];exact ih h
   .rw[Gf hc];simp only[kw,hx];exact ih h
structure tY (N:List Str)(osc:Scope)(scope:Scope)(x:Str)(fr:List Str)(ix:List Nat):Prop where
 kind:scope.kind=.function
 nocell:∀ y∈scope.names,y.2≠.cell
 locs:∀ y∈scope.names,y.2=.local->scope.names.lookup y.1=Ga .local
 tgt:scope.names.lookup x=Ga .local
 outs:∀ y∈scope.names,y.2=.free->osc.names.lookup y.1=Ga .cell\/osc.names.lookup y.1=Ga .free
 free:∀ y∈fr,scope.names.lookup y=Ga .free
 len:fr.length=ix.length
 at_:∀ (j i:Nat) (y:Str),ix[j]?=Ga i->fr[j]?=Ga y->N[i]?=Ga y
 apart:ix.Nodup
def prj (ix:List Nat)(σ:St):St:=Gb::ix.map λi=>(σ[i]?).join
def mq (X:Cx)(scope:Scope)(cl:List (Str×Gj))(C:Gj)(N':List Str)(s:Gh)(H:Hp)(fp:List Gj)(ω:List (Gj×Obj)):Cx :=
 { X with N:=N',s₀:=s,H₀:=H,env:=compEnvC scope cl C X.env,outer:=X.stack,ex:=fp,fn:=λ_=>false,pn:=X.pn++ω,xe:=λ_ _=>False }
def EU (J:It)(g:TG)(tc:TT)(te:TE)(D0:Gj)(σ:St)(H:Hp)(Qv:Hp->Prop):Prop:=∃ W:Nat->Nat->St->Hp->Prop,(∃ m,W 0 m σ H)/\∀ i m σ H,W i m σ H ->
 (J.stop i H/\Qv H)\/(J.go i H/\∃ N:St->Hp->Prop,(∀ σ' H',N σ' H'->∃ m',m'<m/\W (i+1) m' σ' H') /\
  ∀ x H',J.yld i H x H'->g x σ H' λσ2 H2=>tc σ2 H2 λb H3=>if b=true then te σ2 H3 λy H4=>∃ ys,H4 D0=Ga (.lst ys)/\ys.length<sizeLine/\N σ2 (upd H4 D0 (.lst (ys++[y]))) else N σ2 H3)
def HY (X:Cx):List Expr->TT->Prop
 | [],t=>t=λ_ H Q=>Q true H
 | [c],t=>PT X c t
 | _,_=>False
section
variable {X:Cx}{ω:List (Gj×Obj)}{σ:St}{H2:Hp}{s2:Gh}{elt iter:Expr}{x:Str}{px pos:Pos}{ifs:List Expr}{scope:Scope}{cl:List (Str×Gj)}{fr:List Str}{ix:List Nat}
theorem RD {E:Gg->Gh->Prop}(S:tY X.N X.env.scope scope x fr ix)(hl1:∀ x c,cl.lookup x=Ga c->X.env.cells.lookup x=Ga c)(hl2:∀ x,(x,j8)∈scope.names->∃ c,cl.lookup x=Ga c)
  {it:Gj} {fp:List Gj} {tn:Nat->Heap->Prop} {J:It} (I:gS X ω σ H2 s2) (T:yG X.prog X.w X.K (.Name x px) J fp it tn) (st:tn 0 s2.heap) (hf:∀ b∈fp,tW X ω H2 b) (hc:X.calm=true)
  {Qv:Gj->Hp->Prop} {g:TG} {tc:TT} {te:TE}
  (hblk:∀ C s H,PG (mq X scope cl C (x::fr) s H fp ω) (.Name x px) g/\HY (mq X scope cl C (x::fr) s H fp ω) ifs tc/\PE (mq X scope cl C (x::fr) s H fp ω) elt te)
  (hW:∀ D0,H2 D0=Gb->EU J g tc te D0 (prj ix σ) (upd H2 D0 (.lst [])) (Qv D0))
  {RR:Gg->Gj->Result->Gh->Prop}
  (hRR:∀ D0 C s' H',gS X ω σ H' s'->s2.heap.objs.size<=C->(∃ m,s'.heap.Ns C m)->H' C=Gb->Qv D0 H'->RR (.ref D0) C (.ok .next) s') :
  wpAny (model X.prog X.w) X.A (newList []) (λacc s3=>wpAny (model X.prog X.w) X.A (newFunctionEnv scope X.env.globals cl [] X.env.qual Gb .none (Ga X.env)) (λcenv s4 =>
   codeAny (model X.prog X.w) X.A (.compStart (.ListComp elt [⟨.Name x px,iter,ifs,0⟩] scope pos) 0 (.ref it) acc { cenv with scope:=relabel scope X.env }) (RR acc cenv.locals) s4) E s3) E s2:=by
 have hD0:H2 s2.heap.objs.size=Gb:=I.fresh;obtain⟨W,⟨m0,w0⟩,turn⟩:=hW s2.heap.objs.size hD0;have I3:=I.lnew (t':=s2.toks) (ys:=[]) (its:=[]) .nil (jT _);refine wpAny_newList (wpAny_newFunctionEnv S.nocell (by intro y hy;simp at hy) (λh1 hns hsb=>?_) S.kind);dsimp only at hns hsb ⊢;generalize hHp:s2.heap.push { cls:=.type "list",dict:=Gb,data:=.seq ([]:List Gg).toArray }=P2 at hns hsb I3 ⊢;have hC:P2.objs.size=s2.heap.objs.size+1:=by rw[<- hHp,u9]
 have keep:∀ b o,P2.get? b=Ga o->h1.get? b=Ga o:=λb o e=>hsb.extBut b o (jH (jp e)) (jf _ e);have neC:∀ b o,P2.get? b=Ga o->b≠P2.objs.size:=λb o e=>jH (jp e);have keep2:∀ b o,s2.heap.get? b=Ga o->P2.get? b=Ga o:=λb o e=>by rw[<- hHp];exact jf _ e
 have fpo:∀ b∈fp,∃ o,s2.heap.get? b=Ga o/\∀ v,o.data≠.cell v:=λb hb=>T.obj 0 _ st b hb;have fpC:∀ b∈fp,b≠P2.objs.size:=λb hb=>by obtain⟨o,e,_⟩:=fpo b hb;exact neC b o (keep2 b o e)
 have fpD:∀ b∈fp,b≠s2.heap.objs.size:=λb hb=>by obtain⟨o,e,_⟩:=fpo b hb;exact jH (jp e)
 have fpS:∀ b∈fp,b∉rF X.stack:=λb hb z=>by
  obtain⟨_,f1,f2,_⟩:=hf b hb;rcases jw.mp (I.stkSub b z) with q|q
  .exact f1 q
  .exact f2 q
 have cellK:∀ x c,cl.lookup x=Ga c->∃ v,P2.IsCell c v:=λx c e=>by
  obtain⟨v,o,ho,hd⟩:=I.cell x c (hl1 x c e);exact⟨v,o,keep2 c o ho,hd⟩
 have okB:(mq X scope cl P2.objs.size (x::fr) { s2 with heap:=P2 } (upd H2 s2.heap.objs.size (.lst [])) fp ω).Ok:=by
  refine⟨I.ok.mod,by show(relabel scope X.env).kind=_;exact S.kind,I.ok.glob,I.ok.blt,jm _,λy z c e1 e2=>?_,λy hy=>?_,λy c hfn _=>?_,I.ok.hd,I.ok.frames,.inl rfl,λb hb=>⟨fpC b hb,λy c e=>?_⟩,λb o e=>?_,?_,λb o e hb=>?_,fpS,I3.stack,I3.stkFree⟩
  .exact I.ok.inj y z c (hl1 y c e1) (hl1 z c e2)
  .
   have hy':(relabel scope X.env).names.lookup y=Ga .cell\/(relabel scope X.env).names.lookup y=Ga .free:=hy;have mem:(y,j8)∈scope.names:=by
    have hfind:∀ (names:List (Str×NameKind)),(∀ z∈names,z.2≠.cell)->((names.map λ(n,k)=>if (k==j8&&X.env.scope.kind==.function&&X.env.kindOf n==Ga .cell) then(n,vq) else(n,k)).lookup y=Ga .cell \/
      (names.map λ(n,k)=>if (k==j8&&X.env.scope.kind==.function&&X.env.kindOf n==Ga .cell) then(n,vq) else(n,k)).lookup y=Ga .free)->(y,j8)∈names:=by
     intro names;induction names with
     | nil=>intro _ h;simp at h
     | cons p r ih =>
      obtain⟨n,k⟩:=p;intro hn h;have ih':=ih (λz hz=>hn z (jo _ hz));have hk:k≠.cell:=hn (n,k) jh;rw[jK] at h;dsimp only at h;by_cases hcnd:(k==j8&&X.env.scope.kind==.function&&X.env.kindOf n==Ga .cell)=true
      .rw[Ge hcnd] at h;have hkf:k=.free:=by simp only[jA,beq_iff_eq] at hcnd;exact hcnd.1.1
       cases hx:y==n with
       | true=>rw[beq_iff_eq.mp hx,hkf];exact jh
       | false =>
        rw[kw,hx] at h;exact jo _ (ih' h)
      .rw[Gf hcnd] at h;cases hx:y==n with
       | true =>
        rw[kw,hx] at h;rcases h with h|h
        .exact absurd (jJ h) hk
        .rw[beq_iff_eq.mp hx,<- jJ h];exact jh
       | false =>
        rw[kw,hx] at h;exact jo _ (ih' h)
    exact hfind scope.names S.nocell hy'
   exact hl2 y mem
  .cases hfn
  .obtain⟨_,_,_,_,f4,_⟩:=hf b hb;exact f4 y c (hl1 y c e)
  .obtain⟨e1,e2⟩:=I3.bs b o e;exact⟨e1,e2⟩
  .exact jF I.ok.bsz I3.sz
  .obtain⟨_,_,_,f3,_⟩:=hf b hb;rcases f3 with z|z
   .exact I.ok.noex b o e z
   .exact absurd (jB (jp e) (jF I.ok.bsz z)) (jY _)
 have i4:gS (mq X scope cl P2.objs.size (x::fr) { s2 with heap:=P2 } (upd H2 s2.heap.objs.size (.lst [])) fp ω) [] (prj ix σ) (upd H2 s2.heap.objs.size (.lst [])) { s2 with heap:=h1,toks:=s2.toks+([]:List (Str×Gg)).length }:=by
  refine⟨okB,rfl,I.bare,Un.kept keep,⟨_,hns,λi y v e1 e2 e3=>?_⟩,λy c e=>?_,?_,λy c e=>?_,λp hp=>?_,I3.hok.kept keep,?_⟩
  .cases i with
   | zero=>simp[prj] at e2
   | succ j =>
    have e1':fr[j]?=Ga y:=by simpa [mq] using e1
    have hj:j<ix.length:=by rw[<- S.len];exact(jn.mp e1').1
    have eix:ix[j]?=Ga ix[j]:=ji hj;have e2':(σ[ix[j]]?).join=Ga v:=by simpa [prj,eix] using e2
    have e2'':σ[ix[j]]?=Ga (Ga v):=by
     cases z:σ[ix[j]]? with
     | none=>rw[z] at e2';cases e2'
     | some w=>rw[z] at e2';cases e2';rfl
    have hN:=S.at_ j ix[j] y eix e1';have hfree:=S.free y (j7 e1');have hmem:(y,j8)∈scope.names:=kC hfree;have hout:=S.outs _ hmem rfl;obtain⟨m,hn,hl⟩:=I.loc;obtain⟨u,ru,lk⟩:=hl ix[j] y v hN e2'' (hout.elim (λz=>.inr (.inl z)) λz=>.inr (.inr z));refine⟨u,ru,.inr ?_⟩;rcases lk with ⟨k,_⟩|⟨k,c,ec,hcell⟩
    .exfalso;have k':X.env.scope.names.lookup y=Ga .local:=k;rcases hout with z|z
     .rw[z] at k';cases k'
     .rw[z] at k';cases k'
    .obtain⟨c',ec'⟩:=hl2 y hmem;have:c'=c:=by have:=hl1 y c' ec';rw[ec] at this;cases this;rfl
     subst this;obtain⟨o,ho,hd⟩:=hcell;exact⟨RF (ψ:=X.env) hfree,c',ec',o,keep _ o (keep2 _ o ho),hd⟩
  .obtain⟨v,o,ho,hd⟩:=cellK y c e;exact⟨v,o,keep _ o ho,hd⟩
  .show upd H2 s2.heap.objs.size (.lst []) P2.objs.size=Gb;exact I3.hok.fresh (jm _)
  .exact I3.freeC y c (hl1 y c e)
  .have hp':p∈X.pn++ω:=by simpa [mq] using hp
   obtain⟨e,n,ne,nf,d⟩:=I3.pin p hp';refine⟨keep _ _ e,n,neC _ _ e,λz=>?_,d⟩;rcases jw.mp (I.stkSub _ z) with q|q
   .exact ne q
   .exact nf q
  .simp[prj,mq,S.len]
 obtain⟨hg,hif,he⟩:=hblk P2.objs.size { s2 with heap:=P2 } (upd H2 s2.heap.objs.size (.lst []));generalize hX':mq X scope cl P2.objs.size (x::fr) { s2 with heap:=P2 } (upd H2 s2.heap.objs.size (.lst [])) fp ω=X' at okB i4 hg hif he;have xA:X'.A=X.A:=by rw[<- hX'];rfl
 have xP:X'.prog=X.prog:=by rw[<- hX'];rfl
 have xw:X'.w=X.w:=by rw[<- hX'];rfl
 have xK:X'.K=X.K:=by rw[<- hX'];rfl
 have xc:X'.calm=true:=by rw[<- hX'];exact hc
 have xe:X'.env=compEnvC scope cl P2.objs.size X.env:=by rw[<- hX'];rfl
 have xx:∀ v s,X'.xe v s->False:=by rw[<- hX'];exact λ_ _ z=>z
 have stat:∀ {H':Hp},(∀ b∈fp,H' b=Gb)->∀ b∈fp,tW X' [] H' b:=λhn b hb=>by
  obtain⟨_,f1,f2,f3,f4,f5⟩:=hf b hb;refine⟨hn b hb,?_,?_,?_,?_,?_⟩
  .rw[xe];exact fpC b hb
  .rw[<- hX'];exact fpS b hb
  .rw[<- hX'];exact .inl hb
  .rw[<- hX'];exact λy c e=>f4 y c (hl1 y c e)
  .rw[<- hX'];intro p hp;exact f5 p (by simpa [mq] using hp)
 have st1:tn 0 h1:=T.keep 0 _ _ st λb hb o e=>keep b o (keep2 b o e);have fr0:∀ b∈fp,upd H2 s2.heap.objs.size (.lst []) b=Gb:=λb hb=>by rw[hE (fpD b hb)];exact(hf b hb).1
 have loop:∀ s4:Gh,s4={ s2 with heap:=h1,toks:=s2.toks+([]:List (Str×Gg)).length } ->
   codeAny (model X.prog X.w) X.A (.compLoop (.ListComp elt [⟨.Name x px,iter,ifs,0⟩] scope pos) 0 (.ref it) (.ref s2.heap.objs.size) (compEnvC scope cl P2.objs.size X.env)) (RR (.ref s2.heap.objs.size) P2.objs.size) s4:=by
  rintro s4 rfl;refine codeAny_compLoop_tests (λn s'=>∃ i σ' H',gS X' [] σ' H' s'/\tn i s'.heap/\(∀ b∈fp,H' b=Gb)/\W i n σ' H') ?_ m0 ⟨0,_,_,i4,st1,fr0,w0⟩;rintro n s5 ⟨i,σ5,H5,I5,st5,fr5,w5⟩;rcases turn i n σ5 H5 w5 with ⟨stop,qn⟩|⟨go,N,hN,step⟩
  .have dn:=T.done X' xP xw xK xc i [] s5 σ5 H5 (λ_ _=>False) I5 (stat fr5) st5 stop;rw[xA] at dn;refine wpAny_mono dn (λr s6 ⟨hr,I6⟩=>?_) λ_ _ z=>z.elim;subst hr;have base6:Un (rF X.stack) fp (upd H2 s2.heap.objs.size (.lst [])) H5 P2 s6.heap:=by have:=I6.base;rw[<- hX'] at this;exact this
   have os6:s6.os=s2.os:=by have:=I6.os;rw[<- hX'] at this;exact this
   have hok6:HOk X.prog X.w H5 s6.heap:=by have:=I6.hok;rw[xP,xw] at this;exact this
   have I7:gS X ω σ H5 s6:=gS.call' (s:={ s2 with heap:=P2,toks:=s2.toks }) I3 os6 base6 hok6 I6.bare λb hb=>by
    obtain⟨_,f1,_,f3,f4,f5⟩:=hf b hb;exact⟨f3,f1,f4,f5⟩
   refine hRR _ _ s6 H5 I7 (by rw[hC];exact JU _) ?_ ?_ qn
   .obtain⟨m,hm,_⟩:=I6.loc;rw[xe] at hm;exact⟨m,hm⟩
   .have:=I6.free;rw[xe] at this;exact this
  .have itm:=T.item X' xP xw xK xc i [] s5 σ5 H5 (λ_ _=>False) I5 (stat fr5) st5 go;rw[xA] at itm;refine wpAny_mono itm (λr s6 ⟨u,hr,h6⟩=>?_) λ_ _ z=>z.elim;subst hr;show wpAny _ _ ((letOwnedTupleGo (.Name x px) (.ref it) u) >>= λ_=>assign (.Name x px) (compEnvC scope cl P2.objs.size X.env) u) _ _ _;refine gI (wpAny_mono h6 (λ_ s7 ⟨xv,H7,I7,r7,y7,st7,fr7⟩=>?_) λ_ _ z=>z.elim);have I7':=I7.pinned (stat fr7) (T.obj _ _ st7);have stepx:=step xv H7 y7;have asg:=hg _ s7 σ5 H7 xv u _ I7' r7 stepx;rw[xA,xP,xw,xe] at asg;refine wpAny_mono asg (λ_ s8 ⟨σ8,H8,I8,q8⟩=>?_) λ_ _ z=>(xx _ _ z).elim;have again:∀ {H9:Hp} {s9:Gh},gS X' ([]++sU fp s7.heap) σ8 H9 s9->N σ8 H9->∃ m,m<n/\∃ i σ' H',gS X' [] σ' H' s9/\tn i s9.heap/\(∀ b∈fp,H' b=Gb)/\W i m σ' H':=λ{H9 s9} I9 n9=>by
    obtain⟨m',hm,w9⟩:=hN σ8 H9 n9;refine⟨m',hm,i+1,σ8,H9,I9.unpinned,T.keep _ _ _ st7 λb hb o e=>(I9.pin (b,o) (jG _ (jG _ (rJ hb e)))).1,λb hb=>?_,w9⟩;obtain⟨o,e,d⟩:=T.obj _ _ st7 b hb;exact(I9.pin (b,o) (jG _ (jG _ (rJ hb e)))).2.1
   have fin:∀ (ok:Bool) (H9:Hp) (s9:Gh),gS X' ([]++sU fp s7.heap) σ8 H9 s9->(if ok=true then te σ8 H9 λy H4=>∃ ys,H4 s2.heap.objs.size=Ga (.lst ys)/\ys.length<sizeLine/\N σ8 (upd H4 s2.heap.objs.size (.lst (ys++[y]))) else N σ8 H9) ->
     if ok=true then wpAny (model X.prog X.w) X.A (eval elt (compEnvC scope cl P2.objs.size X.env)) (λxv s10=>wpAny (model X.prog X.w) X.A (call (.builtin "list.append") [.ref s2.heap.objs.size,xv]) (λ_ s11=>∃ m,m<n/\∃ i σ' H',gS X' [] σ' H' s11/\tn i s11.heap/\(∀ b∈fp,H' b=Gb)/\W i m σ' H')
      (notedBy (model X.prog X.w) X.A (compEnvC scope cl P2.objs.size X.env) λe s'=>RR (.ref s2.heap.objs.size) P2.objs.size (.error e) s') s10) (notedBy (model X.prog X.w) X.A (compEnvC scope cl P2.objs.size X.env) λe s'=>RR (.ref s2.heap.objs.size) P2.objs.size (.error e) s') s9
     else ∃ m,m<n/\∃ i σ' H',gS X' [] σ' H' s9/\tn i s9.heap/\(∀ b∈fp,H' b=Gb)/\W i m σ' H':=by
    intro ok H9 s9 I9 q9;cases ok with
    | false =>
     rw[Gf jr] at q9 ⊢;exact again I9 q9
    | true =>
     rw[Ge rfl] at q9 ⊢;have ev:=he _ s9 σ8 H9 _ I9 q9;rw[xA,xP,xw,xe] at ev;refine wpAny_mono ev (λu s10 ⟨y,H10,I10,r10,ys,hys,hz,q10⟩=>?_) λ_ _ z=>(xx _ _ z).elim;have ap:=zb (X:=X') _ s10 σ8 H10 (.ref s2.heap.objs.size) [y] (.ref s2.heap.objs.size) [u] (λ_ H'=>N σ8 H') I10 rfl (.cons r10 .nil) ⟨_,ys,y,rfl,rfl,hys,hz,q10⟩;rw[xA,xP,xw] at ap;refine wpAny_mono ap (λ_ s11 ⟨_,H11,I11,_,q11⟩=>again I11 q11) λ_ _ z=>(xx _ _ z).elim
   match ifs,hif with
   | [],hif=>exact wpAny_tests_nil (by
     have hif':tc=λ_ H Q=>Q true H:=hif;rw[hif'] at q8;exact fin true H8 s8 I8 q8)
   | [c],hif =>
    have nJ:=(show PT X' c tc from hif) _ s8 σ8 H8 _ I8 q8;rw[xA,xP,xw,xe] at nJ;exact wpAny_tests_one (wpAny_mono nJ (λok s9 ⟨H9,I9,q9⟩=>fin ok H9 s9 I9 q9) λ_ _ z=>(xx _ _ z).elim)
   | _::_::_,hif=>exact hif.elim
 exact codeAny_compStart_list (loop _ rfl) (T.self _ 0 _ _ _ st1 (loop _ rfl))
end
def pN:Option Sl->Sl
 | some (.val d)=>.val d
 | some (.own ds)=>.own ds
 | some (.fn c)=>.fn c
 | _=>.no
def nU (ix:List Nat)(ψ:En):En:=ix.map λ(i:Nat)=>pN ψ[i]?
def lw (fc:FB)(fe:FV)(base:En):List D->Option (List D)
 | []=>Ga []
 | x::r=>(fc (.val x::base)).bind λb=>if b then(fe (.val x::base)).bind λy=>(lw fc fe base r).bind λys=>Ga (y::ys) else lw fc fe base r
theorem RS.lend {K:jb}{H0 F H:Hp}{ψ:En}{σ:St}(r:RS K H0 F H ψ σ){a:Gj}{o:HO}(ha:H a=Gb)(pl:Pl o:=by trivial):RS K (upd H0 a o) F (upd H a o) ψ σ:=by
 have fa:=r.fh.free ha;refine⟨gM.up2 r.h0 (r.h0.free ha) ha pl,r.fh.put fa (λx u z=>by rw[ha] at z;cases z),λi s e=>?_,r.ap⟩
 .obtain⟨u,e1,q⟩:=r.sl i s e;refine⟨u,e1,?_⟩;cases s with
  | no=>trivial
  | val d=>exact q
  | own ds=>obtain⟨b,xs,e2,hb,fb,h0b,rr⟩:=q;have n:=lZ hb ha;exact⟨b,xs,e2,by rw[hE n];exact hb,fb,by rw[hE n];exact h0b,rr⟩
  | owk b ds=>obtain⟨xs,e2,hb,fb,h0b,rr⟩:=q;have n:=lZ hb ha;exact⟨xs,e2,by rw[hE n];exact hb,fb,by rw[hE n];exact h0b,rr⟩
  | dic ks=>obtain⟨b,as,ep,e2,hb,fb,h0b,rr⟩:=q;have n:=lZ hb ha;exact⟨b,as,ep,e2,by rw[hE n];exact hb,fb,by rw[hE n];exact h0b,rr⟩
  | dki oa kvs=>obtain⟨b,ws,ep,e2,hb,fb,h0b,rr⟩:=q;have n:=lZ hb ha;exact⟨b,ws,ep,e2,by rw[hE n];exact hb,fb,by rw[hE n];exact h0b,rr⟩
  | dkt kvs=>obtain⟨b,ws,ep,e2,hb,fb,h0b,rr⟩:=q;have n:=lZ hb ha;exact⟨b,ws,ep,e2,by rw[hE n];exact hb,fb,by rw[hE n];exact h0b,rr⟩
  | tab P=>obtain⟨ps,q,g⟩:=q;exact⟨ps,by rw[hE (lZ q (r.h0.free ha))];exact q,g.updG λx u z=>by rw[r.h0.free ha] at z;cases z⟩
  | fn c=>obtain⟨g,e,q⟩:=q;exact⟨g,e,c.mono _ _ _ _ _ (.refl _) (Fz.upd λx u z=>by rw[ha] at z;cases z) q⟩
theorem ls.swp {H:Hp}{a:Gj}{o o':HO}(p:Pl o){l:List Gg}(g:ls (upd H a o) l):ls (upd H a o') l :=
 ⟨g.1,λpos cv e=>by
  obtain⟨c,x,vs,v,e1,e2,e3⟩:=g.2 pos cv e;have ne:c≠a:=λz=>by subst z;rw[ij] at e2;cases e2;exact p
  rw[hE ne] at e2;exact⟨c,x,vs,v,e1,by rw[hE ne];exact e2,e3⟩⟩
theorem RS.swap {K:jb}{H0 F H:Hp}{ψ:En}{σ:St}{a:Gj}{o o':HO}(r:RS K (upd H0 a o) F H ψ σ)(fa:F a=Gb)(pl:Pl o:=by trivial)(pl':Pl o':=by trivial):RS K (upd H0 a o') F (upd H a o') ψ σ:=by
 refine⟨r.h0.swp pl pl',r.fh.put fa (pl.nf (r.h0.pl ij pl)),λi s e=>?_,r.ap⟩
 .obtain⟨u,e1,q⟩:=r.sl i s e;have ne:∀ b,upd H0 a o b=Gb->b≠a:=λb h z=>by subst z;rw[ij] at h;cases h
  refine⟨u,e1,?_⟩;cases s with
  | no=>trivial
  | val d=>exact q
  | own ds=>obtain⟨b,xs,e2,hb,fb,h0b,rr⟩:=q;have n:=ne b h0b;exact⟨b,xs,e2,by rw[hE n];exact hb,fb,by rw[hE n] at h0b ⊢;exact h0b,rr⟩
  | owk b ds=>obtain⟨xs,e2,hb,fb,h0b,rr⟩:=q;have n:=ne b h0b;exact⟨xs,e2,by rw[hE n];exact hb,fb,by rw[hE n] at h0b ⊢;exact h0b,rr⟩
  | dic ks=>obtain⟨b,as,ep,e2,hb,fb,h0b,rr⟩:=q;have n:=ne b h0b;exact⟨b,as,ep,e2,by rw[hE n];exact hb,fb,by rw[hE n] at h0b ⊢;exact h0b,rr⟩
  | dki oa kvs=>obtain⟨b,ws,ep,e2,hb,fb,h0b,rr⟩:=q;have n:=ne b h0b;exact⟨b,ws,ep,e2,by rw[hE n];exact hb,fb,by rw[hE n] at h0b ⊢;exact h0b,rr⟩
  | dkt kvs=>obtain⟨b,ws,ep,e2,hb,fb,h0b,rr⟩:=q;have n:=ne b h0b;exact⟨b,ws,ep,e2,by rw[hE n];exact hb,fb,by rw[hE n] at h0b ⊢;exact h0b,rr⟩
  | tab P =>
   obtain⟨ps,q,g⟩:=q;have n:P≠a:=λz=>by subst z;rw[ij] at q;cases q;exact pl
   exact⟨ps,by rw[hE n] at q ⊢;exact q,g.swp pl⟩
  | fn c=>obtain⟨g,e,q⟩:=q;exact⟨g,e,c.mono _ _ _ _ _ (.refl _) (Fz.upd (pl.nf (r.h0.pl ij pl))) q⟩
theorem So {ix:List Nat}{ψ:En}{j:Nat}{s:Sl}(h:(nU ix ψ)[j]?=Ga s)(o:oe s=true):∃ k ds,ix[j]?=Ga k/\ψ[k]?=Ga (.own ds)/\s=.own ds:=by
 unfold nU at h;rw[jC] at h;cases z:ix[j]? with
 | none=>rw[z] at h;cases h
 | some k =>
  rw[z] at h;have h2:=jJ h;unfold pN at h2;dsimp only at h2;split at h2
  .subst h2;cases o
  .rename_i ds hd;subst h2;exact⟨k,ds,rfl,hd,rfl⟩
  .subst h2;cases o
  .subst h2;cases o
theorem RS.prj {K:jb}{H0 F H:Hp}{ψ:En}{σ:St}(r:RS K H0 F H ψ σ)(ix:List Nat)(nd:ix.Nodup):RS K H0 F H (.no::nU ix ψ) (T3.prj ix σ):=by
 refine⟨r.h0,r.fh,λi s e=>?_,λi j a s t o1 o2 e1 e2 e3 e4=>?_⟩
 .cases i with
  | zero=>simp at e;subst e;exact⟨Gb,rfl,trivial⟩
  | succ j =>
   have e':(nU ix ψ)[j]?=Ga s:=by simpa using e
   unfold nU at e';rw[jC] at e';cases z:ix[j]? with
   | none=>rw[z] at e';cases e'
   | some k =>
    rw[z] at e';have e2:=jJ e';refine⟨(σ[k]?).join,by simp[T3.prj,z],?_⟩;unfold pN at e2;dsimp only at e2;split at e2
    .rename_i d hd;subst e2;obtain⟨u,e3,v,e4,rv⟩:=r.sl k _ hd;exact⟨v,by rw[e3,e4];rfl,rv⟩
    .rename_i ds hd;subst e2;obtain⟨u,e3,a,xs,e4,rv⟩:=r.sl k _ hd;exact⟨a,xs,by rw[e3,e4];rfl,rv⟩
    .rename_i c hd;subst e2;obtain⟨u,e3,f,e4,rv⟩:=r.sl k _ hd;exact⟨f,by rw[e3,e4];rfl,rv⟩
    .subst e2;trivial
 .cases i with
  | zero=>simp at e1;subst e1;cases o1
  | succ i =>
   cases j with
   | zero=>simp at e2;subst e2;cases o2
   | succ j =>
    obtain⟨k1,d1,x1,y1,z1⟩:=So (by simpa using e1) o1;obtain⟨k2,d2,x2,y2,z2⟩:=So (by simpa using e2) o2;have g1:σ[k1]?=Ga (Ga (.ref a)):=by
     obtain⟨u,e5,b,xs,e6,_⟩:=r.sl k1 _ y1;have:(T3.prj ix σ)[i+1]?=Ga ((σ[k1]?).join):=by simp[T3.prj,x1]
     rw[e3] at this;rw[e5,e6] at this ⊢;exact congrArg Ga (jJ this).symm
    have g2:σ[k2]?=Ga (Ga (.ref a)):=by
     obtain⟨u,e5,b,xs,e6,_⟩:=r.sl k2 _ y2;have:(T3.prj ix σ)[j+1]?=Ga ((σ[k2]?).join):=by simp[T3.prj,x2]
     rw[e4] at this;rw[e5,e6] at this ⊢;exact congrArg Ga (jJ this).symm
    have ek:k1=k2:=r.ap k1 k2 a _ _ rfl rfl y1 y2 g1 g2;subst ek;have hi:i<ix.length:=(jn.mp x1).1;have hj:j<ix.length:=(jn.mp x2).1;have:i=j:=(JL (h₀:=hi) (h₁:=hj) nd).mp (by rw[(jn.mp x1).2,(jn.mp x2).2]);rw[this]
theorem RZ {K:jb}{J:It}{H0 F1 H1:Hp}{ψ:En}{σ:St}{ds rs:List D}{fc:FB}{fe:FV}{ix:List Nat}{tc:TT}{D0:Gj}{Qv:Hp->Prop}{g:TG}
  (hg:∀ v σ H Q,tG K (λd ψ=>Ga (ψ.set 0 (.val d))) v σ H Q->g v σ H Q)
  (htc:∀ σ H Q,tT K fc σ H Q->tc σ H Q) (nd:ix.Nodup) (r:RS K H0 F1 H1 ψ σ) (Y:∀ F2,gM F1 F2->pY K J F2 ds) (e:lw fc fe (nU ix ψ) ds=Ga rs) (hz:ds.length<=1000000) (hD:H1 D0=Gb)
  (q:∀ xs H' F',gM H1 H'->gM F1 F'->gM F' H'->lb F1 F' H1->F' D0=Gb->H' D0=Ga (.lst xs)->ia K F' rs xs->Qv H') :
  EU J g tc (tV K fe) D0 (prj ix σ) (upd H1 D0 (.lst [])) Qv:=by
 have fD:F1 D0=Gb:=r.fh.free hD;have h0D:H0 D0=Gb:=r.h0.free hD;have g0:gM H1 (upd H1 D0 (.lst [])):=gM.new hD;refine⟨λi m σ' H'=>i+m=ds.length/\∃ F2 sx don ys rest,RS K (upd H0 D0 (.lst ys)) F2 H' (sx::nU ix ψ) σ'/\gM F1 F2/\lb F1 F2 H1/\gM H1 H'/\F2 D0=Gb/\H' D0=Ga (.lst ys)/\ia K F2 don ys/\don.length<=i /\
  lw fc fe (nU ix ψ) (ds.drop i)=Ga rest/\rs=don++rest,⟨ds.length,by omega,F1,.no,[],[],rs,(r.prj ix nd).lend hD,.refl _,.refl _ _,g0,fD,ij,.nil,jm _,e,rfl⟩,?_⟩
 rintro i m σ' H' ⟨hm,F2,sx,don,ys,rest,r2,f2,n2,g2,fd2,hd2,rr2,hl2,e2,ers⟩;obtain⟨yd,yg⟩:=Y F2 f2 H' r2.fh i;by_cases hlt:i<ds.length
 .obtain⟨go,yy⟩:=yg ds[i] (by simp[hlt]);rw[qi hlt] at e2;unfold lw at e2;obtain⟨b,x1,x2⟩:=gL e2;refine .inr ⟨go,λσ3 H3=>i+1+(m-1)=ds.length/\∃ F2 sx don ys rest,RS K (upd H0 D0 (.lst ys)) F2 H3 (sx::nU ix ψ) σ3/\gM F1 F2/\lb F1 F2 H1/\gM H1 H3/\F2 D0=Gb/\H3 D0=Ga (.lst ys)/\ia K F2 don ys/\don.length<=i+1 /\
   lw fc fe (nU ix ψ) (ds.drop (i+1))=Ga rest/\rs=don++rest,λσ3 H3 h3=>⟨m-1,by omega,h3⟩,λx Hx yl=>?_⟩
  obtain⟨gx,F4,f4,fh4,n4,rx⟩:=yy x Hx yl;have r4:=r2.grow gx f4 fh4 n4;have noD:∀ {F F' H:Hp},F D0=Gb->(∃ o,H D0=Ga o)->lb F F' H->F' D0=Gb:=λ{F F' H} a ⟨o,b⟩ n=>by
   cases z:F' D0 with
   | none=>rfl
   | some o'=>have:=n D0 o' z a;rw[b] at this;cases this
  have fd4:F4 D0=Gb:=noD fd2 ⟨_,hd2⟩ n4;refine hg _ _ _ _ ⟨upd H0 D0 (.lst ys),F4,sx::nU ix ψ,ds[i],.val ds[i]::nU ix ψ,r4,rx,rfl,λσ5 r5=>?_⟩;refine htc _ _ _ ⟨upd H0 D0 (.lst ys),F4,.val ds[i]::nU ix ψ,b,r5,x1,λH6 g6=>?_⟩;have r6:=r5.later g6;have hd6:H6 D0=Ga (.lst ys):=g6 _ _ (gx _ _ hd2);have s6:gM H1 H6:=g2.trans (gx.trans g6);have nn4:lb F1 F4 H1:=n2.trans n4 g2;cases b with
  | true =>
   obtain⟨y,x3,x4⟩:=gL x2;obtain⟨ys',x5,x6⟩:=gL x4;cases x6;refine sG ⟨upd H0 D0 (.lst ys),F4,.val ds[i]::nU ix ψ,y,r6,x3,λv H7 F7 g7 f7 fh7 n7 rv=>⟨ys,g7 _ _ hd6,?_,by omega,F7,.val ds[i],don++[y],ys++[v],ys',?_,f2.trans (f4.trans f7),?_,?_,noD fd4 ⟨_,hd6⟩ n7,ij,?_,?_,x5,?_⟩⟩
   .rw[<- rr2.length];have:don.length<1000000:=by omega
    exact jB this (by rw[sizeLine_eq];decide)
   .exact(r6.grow g7 f7 fh7 n7).swap (noD fd4 ⟨_,hd6⟩ n7)
   .exact nn4.trans n7 s6
   .exact(s6.trans g7).put hD (Ow.nf (ob:=.lst ys) trivial (g7 _ _ hd6))
   .exact((rr2.mono f4).mono f7).append (.cons rv .nil)
   .rw[ju,j9];omega
   .rw[ers,kU];rfl
  | false =>
   exact sv ⟨by omega,F4,.val ds[i],don,ys,rest,r6,f2.trans f4,nn4,s6,fd4,hd6,rr2.mono f4,by omega,x2,ers⟩
 .rw[qF (by omega)] at e2;cases e2;refine .inl ⟨yd (by omega),q ys H' F2 g2 f2 r2.fh n2 fd2 hd2 ?_⟩;rw[ers,km];exact rr2
def iQ (fi:FL)(fc:FB)(fe:FV)(ix:List Nat):FL:=λψ=>(fi ψ).bind λds=>if ds.length<=1000000 then lw fc fe (nU ix ψ) ds else Gb
section
variable {X:Cx}{elt iter:Expr}{x:Str}{px pos:Pos}{ifs:List Expr}{scope:Scope}{fr:List Str}{ix:List Nat}{fi:FL}{fc:FB}{fe:FV}
def yF (K:jb)(ifs:List Expr)(fc:FB):TT:=match ifs with
 | []=>λ_ H Q=>Q true H
 | _=>tT K fc
structure Bo (X:Cx)(scope:Scope)(x:Str)(px:Pos)(fr:List Str)(ifs:List Expr)(elt:Expr)(fc:FB)(fe:FV):Prop where
 h:∀ cl C s H fp ω,wY (mq X scope cl C (x::fr) s H fp ω) (.Name x px) (λd ψ=>Ga (ψ.set 0 (.val d))) /\
  HY (mq X scope cl C (x::fr) s H fp ω) ifs (yF X.K ifs fc)/\PV (mq X scope cl C (x::fr) s H fp ω) elt fe
 hn:ifs=[]->fc=λ_=>Ga true
theorem oW (nd:(x::fr).Nodup)(hl:scope.names.lookup x=Ga .local)(he:∀ cl C s H fp ω,PV (mq X scope cl C (x::fr) s H fp ω) elt fe):Bo X scope x px fr [] elt (λ_=>Ga true) fe :=
 ⟨λcl C s H fp ω=>⟨MV 0 nd rfl (.inl (lookup_relabel_local hl)) (.inr (lookup_relabel_local hl)),rfl,he cl C s H fp ω⟩,λ_=>rfl⟩
theorem rA {c:Expr}(nd:(x::fr).Nodup)(hl:scope.names.lookup x=Ga .local)(hc:∀ cl C s H fp ω,PB (mq X scope cl C (x::fr) s H fp ω) c fc)(he:∀ cl C s H fp ω,PV (mq X scope cl C (x::fr) s H fp ω) elt fe) :
  Bo X scope x px fr [c] elt fc fe :=
 ⟨λcl C s H fp ω=>⟨MV 0 nd rfl (.inl (lookup_relabel_local hl)) (.inr (lookup_relabel_local hl)),hc cl C s H fp ω,he cl C s H fp ω⟩,λh=>nomatch h⟩
theorem Bo.tc (B:Bo X scope x px fr ifs elt fc fe):∀ σ H Q,tT X.K fc σ H Q->yF X.K ifs fc σ H Q:=by
 intro σ H Q h;cases ifs with
 | nil =>
  obtain⟨H0,F,ψ,b,r,e,q⟩:=h;rw[B.hn rfl] at e;cases e;exact q H (.refl _)
 | cons c r=>exact h
theorem TV {ω:List (Gj×Obj)}{σ:St}{H:Hp}{s:Gh}(I:gS X ω σ H s)(S:tY X.N X.env.scope scope x fr ix):∃ cl,closureFor scope X.env=pure cl/\(∀ x c,cl.lookup x=Ga c->X.env.cells.lookup x=Ga c)/\∀ x,(x,j8)∈scope.names->∃ c,cl.lookup x=Ga c:=by
 obtain⟨cl,e,a,b,_⟩:=FE (ψ:=X.env) scope.names [] (λy hy hf=>I.ok.has y.1 (S.outs y hy hf)) (λx c h=>by simp at h);refine⟨cl,?_,a,b⟩;rw[SC,e];rfl
theorem oO (hc:X.calm=true)(S:tY X.N X.env.scope scope x fr ix)(hi:Ab X (.Name x px) iter fi)(B:Bo X scope x px fr ifs elt fc fe)(hs:∀ v,foldedSetIterable iter X.env v=pure v:=by intro _;rfl) :
  PO X (.ListComp elt [⟨.Name x px,iter,ifs,0⟩] scope pos) (iQ fi fc fe ix):=by
 intro ω s σ H Q I hw;obtain⟨cl,hclos,hl1,hl2⟩:=TV I S;obtain⟨H0,F,ψ,rs,r,e,q⟩:=hw;obtain⟨ds,e1,e⟩:=gL e;split at e;rotate_left
 .cases e
 rename_i hz;rw[eval_ListComp];refine wpAny_comprehension_free (use:=Gb) rfl hs hclos S.kind S.locs (wpAny_mono (hi ω s σ H (λJ H1=>∃ F1,gM H H1/\gM F F1/\gM F1 H1/\lb F F1 H/\∀ F2,gM F1 F2->pY X.K J F2 ds) I ⟨H0,F,ψ,ds,r,e1,λJ H1 F1 g1 f1 fh1 n1 Y=>⟨F1,g1,f1,fh1,n1,Y⟩⟩)
  (λxv s1 h1=>wpAny_mono h1 (λitv s2 h2=>?_) λ_ _ z=>z) λ_ _ z=>z)
 obtain⟨it,fp,tn,J,H2,eit,I2,T,st2,f2,F1,g1,f1,fh1,n1,Y⟩:=h2;subst eit;refine RD (g:=tG X.K (λd ψ=>Ga (ψ.set 0 (.val d)))) (te:=tV X.K fe) (tc:=yF X.K ifs fc) (RR:=λacc C=>compPost (model X.prog X.w) X.A X.xe Gb (EP X ω σ Q) acc C) (Qv:=λD0 H'=>Q (.ref D0) H') S hl1 hl2 I2 T st2 f2 hc (λC s' H'=>B.h cl C s' H' fp ω) (λD0 hD=>?_) λD0 C s' H' I' hC hn hf hq=>?_
 .exact RZ (λ_ _ _ _ h=>h) B.tc S.apart (r.grow g1 f1 fh1 n1) Y e hz hD λxs H' F' g2 f2' fh2 n2 fd hd rr=>q D0 xs H' F' (g1.trans g2) (f1.trans f2') fh2 (n1.trans n2 g1) (g1.free hD) fd hd rr
 .obtain⟨m,hm⟩:=hn;refine⟨m,hm,λh' sb=>?_⟩;have nC:∀ p o,s2.heap.get? p=Ga o->p≠C:=λp o e=>jH (jB (jp e) hC);refine⟨.ref D0,H',?_,rfl,hq⟩;refine I'.turned (it:=C) (t':=s'.toks) (λb o hb e=>sb.extBut b o hb e) hf (vf (jB I2.lt hC)) (.inr (jF I2.sz hC)) (λy c ec z=>?_) λp hp z=>?_
  .obtain⟨v,qv⟩:=I2.cell y c ec;exact absurd (jB qv.lt (by rw[z];exact hC)) (jY _)
  .exact nC _ _ (I2.pin p hp).1 z
end
section
variable {X:Cx}{elt iter:Expr}{x y:Str}{px py pos spos:Pos}{ifs:List Expr}{scope:Scope}{fr:List Str}{ix:List Nat}{fi:FL}{fc:FB}{fe:FV}
theorem AX (i:Nat)(hc:X.calm=true)(S:tY X.N X.env.scope scope x fr ix)(hit:Ab X (.Name x px) iter fi)(B:Bo X scope x px fr ifs elt fc fe)(hN:X.N.Nodup)(hi:X.N[i]?=Ga y:=by rfl)(hy:X.env.scope.names.lookup y=Ga .local:=by rfl)
  (hsw:swapsWith (.ListComp elt [⟨.Name x px,iter,ifs,0⟩] scope pos) (Ga (.Name y py)) spos.line X.env=pure true:=by rfl) (hs:∀ v,foldedSetIterable iter X.env v=pure v:=by intro _;rfl) :
  ot X (.Assign [.Name y py] (.ListComp elt [⟨.Name x px,iter,ifs,0⟩] scope pos) spos) (λψ=>(iQ fi fc fe ix ψ).bind λd=>Ga (.nx (ψ.set i (.own d)))):=by
 intro ω s σ H D I hw;obtain⟨cl,hclos,hl1,hl2⟩:=TV I S;obtain⟨H0,F,ψ,o,r,e,p⟩:=hw;obtain⟨rs,e0,e⟩:=gL e;cases e;obtain⟨ds,e1,e⟩:=gL e0;split at e;rotate_left
 .cases e
 rename_i hz;have hl:i<σ.length:=by rw[I.len];exact(jn.mp hi).1
 rw[exec_Assign_Name_used _ _ _ _ hsw];refine gI (wpAny_standAt (gI ?_));show wpAny _ X.A (do let _ <- comprehension (.ListComp elt [⟨.Name x px,iter,ifs,0⟩] scope pos) scope X.env _ (newList []) false (eval iter X.env) (Ga (assign (.Name y py) X.env))) _ _ s;refine gI (wpAny_mono (wpAny_comprehension_free (use:=Ga (assign (.Name y py) X.env)) (Q:=λ_ s'=>SP X ω D .next s') rfl hs hclos S.kind S.locs
  (wpAny_mono (hit ω s σ H (λJ H1=>∃ F1,gM H H1/\gM F F1/\gM F1 H1/\lb F F1 H/\∀ F2,gM F1 F2->pY X.K J F2 ds) I ⟨H0,F,ψ,ds,r,e1,λJ H1 F1 g1 f1 fh1 n1 Y=>⟨F1,g1,f1,fh1,n1,Y⟩⟩)
  (λxv s1 h1=>wpAny_mono h1 (λitv s2 h2=>?_) λ_ _ z=>z) λ_ _ z=>z)) (λ_ s' hq=>gJ (gJ hq)) λ_ _ z=>z)
 obtain⟨it,fp,tn,J,H2,eit,I2,T,st2,f2,F1,g1,f1,fh1,n1,Y⟩:=h2;subst eit;refine RD (g:=tG X.K (λd ψ=>Ga (ψ.set 0 (.val d)))) (te:=tV X.K fe) (tc:=yF X.K ifs fc) (RR:=λacc C=>compPost (model X.prog X.w) X.A X.xe (Ga (assign (.Name y py) X.env)) (λ_ s'=>SP X ω D .next s') acc C) (Qv:=λD0 H'=>D.nx (σ.set i (Ga (.ref D0))) H') S hl1 hl2 I2 T st2 f2 hc
  (λC s' H'=>B.h cl C s' H' fp ω) (λD0 hD=>?_) λD0 C s' H' I' hC hn hf hq=>?_
 .refine RZ (λ_ _ _ _ h=>h) B.tc S.apart (r.grow g1 f1 fh1 n1) Y e hz hD λxs H' F' g2 f2' fh2 n2 fd hd rr=>?_;have nn:lb F F' H:=n1.trans n2 g1;have r':=r.grow (g1.trans g2) (f1.trans f2') fh2 nn;refine p _ H' F' (f1.trans f2') (nn.dn r.h0) (r'.putO hl hd fd (r.h0.free (g1.free hD)) rr ?_);exact λj s o _ ej=>r.ne_free (g1.free hD) j s o ej
 .obtain⟨m,hm⟩:=hn;have nC:∀ p o,s2.heap.get? p=Ga o->p≠C:=λp o e=>jH (jB (jp e) hC);have cC:∀ y c,X.env.cells.lookup y=Ga c->c≠C:=λy c ec z=>by
   obtain⟨v,qv⟩:=I2.cell y c ec;exact absurd (jB qv.lt (by rw[z];exact hC)) (jY _)
  have lC:C≠X.env.locals:=vf (jB I2.lt hC);show wpAny _ X.A (assign (.Name y py) X.env (.ref D0)) _ _ _;refine wpAny_assign_Name (zw I' hN hi (.inl hy) (v:=.ref D0) rfl (λs'' I'' ⟨a,sb,ha⟩=>?_) (.inr hy));have aC:C≠a:=by
   rcases ha with z|z
   .rw[z];exact lC
   .exact(cC _ _ z).symm
  refine⟨m,hm.sameBut sb aC,λh' sb2=>⟨_,H',?_,hq⟩⟩;refine I''.turned (it:=C) (t':=s''.toks) (λb o hb e=>sb2.extBut b o hb e) hf lC (.inr (jF I2.sz hC)) cC λp hp z=>nC _ _ (I2.pin p hp).1 z
end
def Ai (i:Nat):sq->sq
 | .nx e=>.nx (frzAt i e)
 | o=>o
theorem Br (i:Nat){X:Cx}{st:Stmt}{g:FS}(h:ot X st g):ot X st (λψ=>(g ψ).bind λo=>Ga (Ai i o)):=by
 refine sS h λE σ H=>?_;rintro⟨H0,F,ψ,o,r,e,p⟩;obtain⟨o1,e1,e2⟩:=gL e;cases e2;refine⟨H0,F,ψ,o1,r,e1,?_⟩;cases o1 with
 | nx e3 =>
  intro σ' H' F' f n r';obtain⟨F2,f2,n2,r2⟩:=r'.frzAt i;exact p σ' H' F2 (f.trans f2) (n.up n2) r2
 | rt d=>exact p
 | ro d=>exact p
 | rm a d=>exact p
 | rc a d=>exact p
 | bk d=>exact p
 | ct d=>exact p
section
variable {X:Cx}{tg:Expr}{pos:Pos}
theorem Zz {l:Expr}{tl:TE}(hl:PE X l tl):PI X tg l (λσ H R=>tl σ H λx H1=>∃ a,x=.ref a/\(((∃ xs,lH X.K H1 a xs)/\R (Hk X.K a) H1)\/((∃ xs,mU X.K H1 a xs)/\R (IP X.K a) H1))):=by
 intro ω s σ H R I h;refine iR (hl ω s σ H _ I h) λv s1 ⟨x,H1,I1,r1,a,e,q1⟩=>?_;subst e;cases r1;rcases q1 with ⟨⟨xs,hq⟩,q⟩|⟨⟨xs,hq⟩,q⟩
 .obtain⟨its,rv,p,hz⟩:=I1.list hq;refine wpAny_pyIter_list p.isList ⟨s1.heap.objs.size,[s1.heap.objs.size],_,_,H1,rfl,I1.kept (t':=s1.toks) λb o e=>jf _ e,CI a _,⟨_,jy _ rfl,rfl,rfl⟩,λb hb=>?_,q⟩;cases jj.mp hb;exact I1.fpOk (jm _) I1.fresh
 .obtain⟨its,rv,p,hz⟩:=I1.tuple hq;refine wpAny_pyIter_tuple (show s1.heap.IsTuple a its.toArray from p) ⟨s1.heap.objs.size,[s1.heap.objs.size],_,_,H1,rfl,I1.kept (t':=s1.toks) λb o e=>jf _ e,Cf a _,⟨_,jy _ rfl,rfl,rfl⟩,λb hb=>?_,q⟩;cases jj.mp hb;exact I1.fpOk (jm _) I1.fresh
theorem nq {l:Expr}{f:FV}(h:PV X l f):Ab X tg l (λψ=>(f ψ).bind toS):=by
 refine Mm (Zz h) λσ H R=>?_;rintro⟨H0,F,ψ,ds,r,e,q⟩;obtain⟨d,e1,e2⟩:=gL e;refine⟨H0,F,ψ,d,r,e1,λv H1 F1 g1 f1 fh1 n1 rv=>?_⟩;cases rv<;>first|(cases e2;done)|skip
 .rename_i a xs ds' h1 rr;cases e2;exact⟨a,rfl,.inr ⟨⟨xs,nK fh1 h1⟩,q _ H1 F1 g1 f1 fh1 n1 λF2 f2=>Zy (nK f2 h1) (rr.mono f2)⟩⟩
 .rename_i a xs ds' h1 rr;cases e2;exact⟨a,rfl,.inl ⟨⟨xs,fh1.seq h1⟩,q _ H1 F1 g1 f1 fh1 n1 λF2 f2=>zs6 (f2.seq h1) (rr.mono f2)⟩⟩
def lX (lo:Int)(n:Nat):List D:=(je n).map λk=>.int (lo+(k:Nat))
theorem Qh {K:jb}{F:Hp}{lo:Int}{n:Nat}:pY K (DS lo n) F (lX lo n):=by
 intro H g i;refine⟨λhi=>(by simpa [lX] using hi:n<=i),λd hd=>?_⟩;have hi:i<n:=by have:=(jn.mp hd).1;simpa [lX] using this
 refine⟨hi,λx H' y=>?_⟩;obtain⟨rfl,rfl⟩:=y;have:d=.int (lo+(i:Nat)):=by
  have h2:(lX lo n)[i]?=Ga (.int (lo+(i:Nat))):=by simp[lX,hi]
  rw[h2] at hd;exact(jJ hd).symm
 subst this;exact⟨.refl _,F,.refl _,g,.refl _ _,.int _⟩
def la:D->Option (List D)
 | .int j=>if -(2^62)<=j/\j<2^62 then Ga (lX 0 j.toNat) else Gb
 | _=>Gb
def oh:D->D->Option (List D)
 | .int i,.int j=>if -(2^62)<=i/\i<2^62/\-(2^62)<=j/\j<2^62 then Ga (lX i (j-i).toNat) else Gb
 | _,_=>Gb
theorem pC {a:Expr}{f:FV}{p:Pos}(hg:Gl X "range")(hm:X.mg "range"=Gb)(ha:PV X a f)(hs:starEach [a] X.env=[(false,eval a X.env)]:=by rfl):Ab X tg (.Call (.Name "range" p) [a] [] pos) (λψ=>(f ψ).bind la):=by
 refine Mm (Dt hg hm (lN ha og hs) hs) λσ H R=>?_;rintro⟨H0,F,ψ,ds,r,e,q⟩;obtain⟨d,e1,e2⟩:=gL e;refine⟨H0,F,ψ,d,r,e1,λv H1 F1 g1 f1 fh1 n1 rv=>?_⟩;cases rv<;>first|(cases e2;done)|skip
 rename_i j;unfold la at e2;dsimp only at e2;split at e2
 .rename_i c;cases e2;exact⟨j,rfl,c.1,c.2,q _ H1 F1 g1 f1 fh1 n1 λF2 f2=>Qh⟩
 .cases e2
theorem DI {a b:Expr}{f g:FV}{p:Pos}(hg:Gl X "range")(hm:X.mg "range"=Gb)(ha:PV X a f)(hb:PV X b g)(hs:starEach [a,b] X.env=[(false,eval a X.env),(false,eval b X.env)]:=by rfl)(hs2:starEach [b] X.env=[(false,eval b X.env)]:=by rfl) :
  Ab X tg (.Call (.Name "range" p) [a,b] [] pos) (λψ=>(f ψ).bind λx=>(g ψ).bind λy=>oh x y):=by
 refine Mm (CP hg hm (lN ha (lN hb og hs2) (by rw[hs,hs2])) hs hs2) λσ H R=>?_;rintro⟨H0,F,ψ,ds,r,e,q⟩;obtain⟨d,e1,e2⟩:=gL e;obtain⟨d2,e3,e4⟩:=gL e2;refine⟨H0,F,ψ,d,r,e1,λv H1 F1 g1 f1 fh1 n1 rv=>⟨H0,F1,ψ,d2,r.grow g1 f1 fh1 n1,e3,λv2 H2 F2 g2 f2 fh2 n2 rv2=>?_⟩⟩;cases rv<;>first|(cases e4;done)|skip
 cases rv2<;>first|(cases e4;done)|skip
 rename_i i j;unfold oh at e4;dsimp only at e4;split at e4
 .rename_i c;cases e4;exact⟨i,j,rfl,c,q _ H2 F2 (g1.trans g2) (f1.trans f2) fh2 (n1.trans n2 g1) λF2 f2=>Qh⟩
 .cases e4
end
def iY (K:jb)(fm:List D->Option D):Sp:=λvs H Q _=>∃ F ds d,gM F H/\ia K F ds vs/\fm ds=Ga d/\∀ v H' F',gM H H'->gM F F'->gM F' H'->lb F F' H->iM K F' d v->Q v H'
def tJ (K:jb)(fm:List D->Option (List D)):Sp:=λvs H Q _=>∃ F ds d,gM F H/\ia K F ds vs/\fm ds=Ga d/\∀ a xs H' F',gM H H'->gM F F'->gM F' H'->lb F F' H->H a=Gb->F' a=Gb->H' a=Ga (.lst xs)->ia K F' d xs->Q (.ref a) H'
def oo (n:Nat)(ds:List D):En:=ds.map Sl.val++jU (n-ds.length) Sl.no
theorem RS.start {K:jb}{F H:Hp}{N:List Str}{ds:List D}{vs:List V}(g:gM F H)(r:ia K F ds vs):RS K H F H (oo N.length ds) (start N vs):=by
 have hl:=r.length;refine⟨.refl _,g,λi s e=>?_,λi j a s t o1 o2 e1=>?_⟩
 .unfold oo at e;by_cases hi:i<ds.length
  .rw[k5 (by simpa using hi),jC] at e;obtain⟨v,e1,e2⟩:=r.get (ji hi);rw[ji hi] at e;cases e;refine⟨Ga v,?_,v,rfl,e2⟩;unfold L2.start;rw[k5 (by rw[jd];omega),jC,e1];rfl
  .rw[kS (by simpa using hi),uM] at e;split at e
   .rename_i hlt;cases e;refine⟨Gb,?_,trivial⟩;unfold L2.start;rw[kS (by rw[jd];omega),uM];rw[jd] at hlt ⊢;rw[Ge (by omega)]
   .cases e
 .exfalso;unfold oo at e1;by_cases hi:i<ds.length
  .rw[k5 (by simpa using hi),jC,ji hi] at e1;cases e1;cases o1
  .rw[kS (by simpa using hi),uM] at e1;split at e1<;>cases e1;cases o1
section
variable {P:Program}{w:World}{K:jb}{mg:Str->Option Gg}{base:Heap}{x qual:Str}{st:Stmt}{f:Gj}{fd:Gi}{N ps:List Str}{k:Nat}
theorem fnV {fm:List D->Option D}(F:sL K x qual st f fd)(S:gR N ps (gO st))(hlen:∀ ds d,fm ds=Ga d->ds.length=ps.length)
  (hb:∀ (cdv:Gg) (A:Around) (outer:List Env) (s:Gh) (H:Hp) (E:XK),lK k (A.deeper (envOfC qual (gO st) s.heap.objs.size f cdv)) ->
   ∃ g,oV (pT io P w K mg base N qual (gO st) f cdv A outer s H E).nox (lO st) g/\∀ ds d,fm ds=Ga d->g (oo N.length ds)=Ga (.rt d)\/(∃ xs,d=.list xs/\g (oo N.length ds)=Ga (.ro xs))) :
  hV P w K mg base io (k+1) f fd ps (iY K fm):=by
 refine F.ok S (λvs H Q E h=>?_) (λcdv A outer s H vs Q E hr h=>?_)
 .obtain⟨F0,ds,d,_,r,e,_⟩:=h;rw[<- r.length];exact hlen ds d e
 .obtain⟨F0,ds,d,g0,r,e,q⟩:=h;obtain⟨g,hg,hm⟩:=hb cdv A outer s H E hr;rcases hm ds d e with z|⟨xs,rfl,z⟩
  .exact⟨_,hg,H,F0,_,_,RS.start g0 r,z,λv H' F' g1 f1 fh1 n1 rv=>q v H' F' g1 f1 fh1 n1 rv⟩
  .refine⟨_,hg,H,F0,_,_,RS.start g0 r,z,λa ys H' F' g1 f1 fh1 n1 ha fa ha' rr=>?_⟩;have sF:gM F' (upd F' a (.lst ys)):=gM.new fa;refine q (.ref a) H' (upd F' a (.lst ys)) g1 (f1.trans sF) (λb o h=>?_) (λb o h nb=>?_) (.lst (lH.of ij) (rr.mono sF))
   .exact gM.upL fh1 ha' trivial b o h
   .by_cases hb:b=a
    .subst hb;exact ha
    .rw[hE hb] at h;exact n1 b o h nb
theorem Zv {fm:List D->Option (List D)}(F:sL K x qual st f fd)(S:gR N ps (gO st))(hlen:∀ ds d,fm ds=Ga d->ds.length=ps.length)
  (hb:∀ (cdv:Gg) (A:Around) (outer:List Env) (s:Gh) (H:Hp) (E:XK),lK k (A.deeper (envOfC qual (gO st) s.heap.objs.size f cdv)) ->
   ∃ g,oV (pT io P w K mg base N qual (gO st) f cdv A outer s H E).nox (lO st) g/\∀ ds d,fm ds=Ga d->g (oo N.length ds)=Ga (.ro d)) :
  hV P w K mg base io (k+1) f fd ps (tJ K fm):=by
 refine F.ok S (λvs H Q E h=>?_) (λcdv A outer s H vs Q E hr h=>?_)
 .obtain⟨F0,ds,d,_,r,e,_⟩:=h;rw[<- r.length];exact hlen ds d e
 .obtain⟨F0,ds,d,g0,r,e,q⟩:=h;obtain⟨g,hg,hm⟩:=hb cdv A outer s H E hr;exact⟨_,hg,H,F0,_,_,RS.start g0 r,hm ds d e,λa xs H' F' g1 f1 fh1 n1 ha fa ha' rr=>q a xs H' F' g1 f1 fh1 n1 ha fa ha' rr⟩
end
section
variable {X:Cx}{k:Nat}{f:Gj}{fd:Gi}{ps:List Str}{x:Str}{p pos:Pos}{e:Expr}{es:List Expr}{g:FL}
theorem Dr {fm:List D->Option D}(F:hV X.prog X.w X.K X.mg X.base io k f fd ps (iY X.K fm))(hr:lK k X.A)(hm:X.mg x=Ga (.ref f))(hk:ub X.K (.ref f)=true)(hb:pV X.K fd ps [])(ha:PL X (e::es) g)(hg:Gl X x:=by rfl)
  (hdb:(x==("__debug__":Str))=false:=by decide) (he:starEach (e::es) X.env=(false,eval e X.env)::starEach es X.env:=by rfl) (hpl:(backTo pos (starEach es X.env)).any (·.1)=false:=by rfl) :
  PV X (.Call (.Name x p) (e::es) [] pos) (λψ=>(g ψ).bind fm):=by
 refine mn (yK F hr hg hm hk hb .nil Cc ha.pa hdb he hpl) λσ H Q=>?_;rintro⟨H0,F,ψ,d,r,e,q⟩;obtain⟨ds,e1,e2⟩:=gL e;refine⟨H0,F,ψ,ds,r,e1,λvs H1 F1 g1 f1 fh1 n1 rv=>⟨F1,ds,d,fh1,by rw[km];exact rv,e2,λv H2 F2 g2 f2 fh2 n2 rv2=>?_⟩⟩;exact q v H2 F2 (g1.trans g2) (f1.trans f2) fh2 (n1.trans n2 g1) rv2
theorem ss {fm:List D->Option (List D)}(F:hV X.prog X.w X.K X.mg X.base io k f fd ps (tJ X.K fm))(hr:lK k X.A)(hm:X.mg x=Ga (.ref f))(hk:ub X.K (.ref f)=true)(hb:pV X.K fd ps [])(ha:PL X (e::es) g)(hg:Gl X x:=by rfl)
  (hdb:(x==("__debug__":Str))=false:=by decide) (he:starEach (e::es) X.env=(false,eval e X.env)::starEach es X.env:=by rfl) (hpl:(backTo pos (starEach es X.env)).any (·.1)=false:=by rfl) :
  PO X (.Call (.Name x p) (e::es) [] pos) (λψ=>(g ψ).bind fm):=by
 refine mn (yK F hr hg hm hk hb .nil Cc ha.pa hdb he hpl) λσ H Q=>?_;rintro⟨H0,F,ψ,d,r,e,q⟩;obtain⟨ds,e1,e2⟩:=gL e;refine⟨H0,F,ψ,ds,r,e1,λvs H1 F1 g1 f1 fh1 n1 rv=>⟨F1,ds,d,fh1,by rw[km];exact rv,e2,λa xs H2 F2 g2 f2 fh2 n2 ha fa ha' rr=>?_⟩⟩;exact q a xs H2 F2 (g1.trans g2) (f1.trans f2) fh2 (n1.trans n2 g1) (g1.free ha) fa ha' rr
end
def BS:D->D->Option Bool
 | .none,.none=>Ga true
 | _,.none=>Ga false
 | .bool a,.bool b=>Ga (a==b)
 | _,.bool _=>Ga false
 | _,_=>Gb
def oB (a b:D):Option D:=(BS a b).bind λk=>Ga (.bool k)
def mm (a b:D):Option D:=(BS a b).bind λk=>Ga (.bool (!k))
section
variable {X:Cx}{pos:Pos}{a b:Expr}{f g:FV}
theorem Ro {K:jb}{F:Hp}{a b:D}{x y:V}{u v:Gg}{k:Bool}(ra:iM K F a x)(rb:iM K F b y)(rx:iA x u)(ry:iA y v)(e:BS a b=Ga k):plainIs u v=true/\(u==v)=k:=by
 cases rb<;>first|(cases ra<;>cases e;done)|skip
 .cases ry;cases ra<;>cases e<;>first
   | (cases rx;exact⟨rfl,rfl⟩)
   | (obtain⟨t,rfl⟩:=rx;exact⟨rfl,rfl⟩)
 .rename_i c;cases ry;cases ra<;>cases e<;>first
   | (cases rx;exact⟨rfl,rfl⟩)
   | (cases rx;rename_i b;cases b<;>cases c<;>exact⟨rfl,rfl⟩)
   | (obtain⟨t,rfl⟩:=rx;exact⟨rfl,rfl⟩)
theorem Px:lU X (compareOp .Is) (xr X.K oB):=by
 intro ω s σ H x y v u Q I rx ry h;obtain⟨F,a,b,d,g,ra,rb,e,q⟩:=h;obtain⟨k,e1,e2⟩:=gL e;obtain⟨z1,z2⟩:=Ro ra rb rx ry e1;cases e2;exact wpAny_is_plain z1 (by rw[z2];exact⟨.bl k,H,I,rfl,q k rfl⟩)
theorem RK:lU X (compareOp .IsNot) (xr X.K mm):=by
 intro ω s σ H x y v u Q I rx ry h;obtain⟨F,a,b,d,g,ra,rb,e,q⟩:=h;obtain⟨k,e1,e2⟩:=gL e;obtain⟨z1,z2⟩:=Ro ra rb rx ry e1;cases e2;exact wpAny_isNot_plain z1 (by rw[z2];exact⟨.bl (!k),H,I,rfl,q _ rfl⟩)
theorem Qp:∀ a b d,oB a b=Ga d->∃ k,d=.bool k:=λa b d h=>by obtain⟨k,_,e⟩:=gL h;cases e;exact⟨_,rfl⟩
theorem Ti:∀ a b d,mm a b=Ga d->∃ k,d=.bool k:=λa b d h=>by obtain⟨k,_,e⟩:=gL h;cases e;exact⟨_,rfl⟩
theorem UY (ha:PV X a f)(hb:PV X b g):PV X (.Compare a [.Is] [b] pos) (λψ=>(f ψ).bind λx=>(g ψ).bind λy=>oB x y):=zk Px (wU Qp) ha hb
theorem zDY (ha:PV X a f)(hb:PV X b g):PV X (.Compare a [.IsNot] [b] pos) (λψ=>(f ψ).bind λx=>(g ψ).bind λy=>mm x y):=zk RK (wU Ti) ha hb
theorem zH (ha:PV X a f)(hb:PV X b g):PB X (.Compare a [.Is] [b] pos) (λψ=>((f ψ).bind λx=>(g ψ).bind λy=>oB x y).bind lM):=wO Px (wU Qp) ha hb
theorem CU (ha:PV X a f)(hb:PV X b g):PB X (.Compare a [.IsNot] [b] pos) (λψ=>((f ψ).bind λx=>(g ψ).bind λy=>mm x y).bind lM):=wO RK (wU Ti) ha hb
def yL (a:D)(xs:List D):Bool:=a.canLay0&&kE xs&&decide (min (kq xs) a.depth<=90)
def Al (a b:D):Option D:=(toS b).bind λxs=>if yL a xs then Ga (.bool (xs.any λy=>kL y a)) else Gb
theorem zB8 {a:D}{xs:List D}(h:yL a xs=true):a.canLay0=true/\kE xs=true/\min (kq xs) a.depth<=90:=by
 unfold yL at h;simp only[jA,decide_eq_true_eq] at h;exact⟨h.1.1,h.1.2,h.2⟩
theorem zDZ (hu:X.A.units+100<cLine):lU X (compareOp .In) (xr X.K Al):=by
 intro ω s σ H x y v u Q I rx ry h;obtain⟨F,a,b,d,g,ra,rb,e,q⟩:=h;obtain⟨xs,e1,e2⟩:=gL e;split at e2
 .rename_i ok;obtain⟨h1,h2,h3⟩:=zB8 ok;obtain⟨as,ha⟩:=ra.reads I g (Bw h1) rx;obtain⟨bs,hb⟩:=rb.reads I g (by cases b<;>cases e1<;>(rw[pJ];exact Fw h2)) ry;cases b<;>cases e1
  .exact SeqAt.in_list_reads hb ha h2 h1 (by omega) ⟨.bl _,H,I,rfl,q _ (jJ e2).symm⟩
  .exact SeqAt.in_tuple_reads hb ha h2 h1 (by omega) ⟨.bl _,H,I,rfl,q _ (jJ e2).symm⟩
 .cases e2
theorem zD0:∀ a b d,Al a b=Ga d->∃ k,d=.bool k:=λa b d h=>by obtain⟨k,_,e⟩:=gL h;split at e<;>cases e;exact⟨_,rfl⟩
theorem UV (hu:X.A.units+100<cLine)(ha:PV X a f)(hb:PV X b g)(hm:behindInMarks .In b=false:=by first|rfl|with_unfolding_all rfl):PB X (.Compare a [.In] [b] pos) (λψ=>((f ψ).bind λx=>(g ψ).bind λy=>Al x y).bind lM):=wO (zDZ hu) (wU zD0) ha hb hm
def wb:D->Option D
 | .int i=>Ga (.int (-i))
 | _=>Gb
theorem rL (ha:PV X a f):PV X (.UnaryOp .USub a pos) (λψ=>(f ψ).bind wb):=by
 refine mn (OC No ha) λσ H Q=>?_;rintro⟨H0,F,ψ,d,r,e,q⟩;obtain⟨d',e1,e⟩:=gL e;refine⟨H0,F,ψ,d',r,e1,λv H1 F1 g1 f1 fh1 n1 rv=>?_⟩;cases rv<;>first|(cases e;done)|skip
 cases e;exact⟨_,rfl,q _ H1 F1 g1 f1 fh1 n1 (.int _)⟩
def Cb:D->Option D
 | .int i=>Ga (.int (kM i))
 | _=>Gb
theorem VP:yO X "int.bit_length" (λx xs H Q=>∃ i,x=.int i/\xs=[]/\Q (.int (kM i)) H):=by
 intro ω s σ H x xs v us Q I rx rv h;obtain⟨i,rfl,rfl,q⟩:=h;obtain⟨t,rfl⟩:=rx;cases rv;exact call_int_bit_length ⟨.int _,H,I.tok _,⟨_,rfl⟩,q⟩
theorem ZI {p p2:Pos}(ha:PV X a f)(hbase:attributeBase a "bit_length" X.env (eval a X.env)=eval a X.env:=by rfl)(hline:(p.endLine==p2.line)=true:=by rfl):PV X (.Call (.Attribute a "bit_length" p) [] [] p2) (λψ=>(f ψ).bind Cb):=by
 refine mn (MM PySem.F.plainAttrs_int PySem.F.slot_int_bit_length PySem.F.type_int_bit_length VP ha hbase hline) λσ H Q=>?_;rintro⟨H0,F,ψ,d,r,e,q⟩;obtain⟨d',e1,e⟩:=gL e;refine⟨H0,F,ψ,d',r,e1,λv H1 F1 g1 f1 fh1 n1 rv=>?_⟩;cases rv<;>first|(cases e;done)|skip
 rename_i i;cases e;exact⟨rfl,i,rfl,rfl,q _ H1 F1 g1 f1 fh1 n1 (.int _)⟩
def ny:List D->Option (List Int)
 | []=>Ga []
 | .int i::r=>(ny r).bind λis=>Ga (i::is)
 | _=>Gb
theorem DL:∀ {ds:List D} {is:List Int},ny ds=Ga is->ds=is.map jc
 | [],_,h=>by cases h;rfl
 | .int i::r,is,h=>by
  obtain⟨js,e1,e2⟩:=gL (show(ny r).bind (λis=>Ga (i::is))=Ga is from h);cases e2;rw[DL e1];rfl
 | .none::_,_,h=>by cases h
 | .bool _::_,_,h=>by cases h
 | .str _::_,_,h=>by cases h
 | .list _::_,_,h=>by cases h
 | .tuple _::_,_,h=>by cases h
 | .dict _::_,_,h=>by cases h
theorem ia.ints_inv {K:jb}{F:Hp}:∀ {is:List Int} {vs:List V},ia K F (is.map jc) vs->vs=is.map V.int
 | [],_,h=>by cases h;rfl
 | i::is,_,h=>by
  cases h with
  | cons h t=>cases h;rw[ia.ints_inv t];rfl
theorem Qx (is:List Int):∀ n,n<=is.length->preSum (λj=>is.getD j 0) n=(is.take n).sum
 | 0,_=>by simp[preSum]
 | n+1,h=>by
  have hn:n<is.length:=h;unfold preSum;rw[Qx is n (uk hn),List.take_succ,jg,ji hn,List.sum_append];simp
theorem ZP (hc:X.calm=true):my X (.builtin "sum") (λxs H Q=>∃ (p:Gj) (is:List Int),xs=[.ref p]/\lH X.K H p (is.map V.int)/\Q (.int is.sum) H):=by
 intro ω s σ H xs us Q I r h;obtain⟨p,is,rfl,hl,q⟩:=h;obtain⟨u,rfl,ru⟩:=oT r;cases ru;obtain⟨its,rv,pl,hz⟩:=I.list hl;have hi:IntsAre its is:=sZ rv;have hp:p<s.heap.objs.size:=by obtain⟨o,n,e,_⟩:=pl;exact jp e
 refine call_sum_walkG (wpAny_pyIter_list pl.isList ⟨s.heap.objs.size,[s.heap.objs.size,p],[s.heap.objs.size],_,_,_,λj=>is.getD j 0,rfl,Walks.list (show X.A.in1.handled=Gb from I.ok.hd hc) _ p (jH hp) its.toArray,⟨⟨_,jy _ rfl,rfl,rfl⟩,?_⟩,?_,?_,?_⟩)
 .obtain⟨o,n,e,c,_,d⟩:=pl;exact⟨o,jf _ e,c,n,d⟩
 .intro b hb;simp only[jw,uN,or_false] at hb;rw[u9];rcases hb with rfl|rfl
  .exact k7 _
  .exact vI hp
 .intro i v hv;have hv':its[i]?=Ga v:=by simpa using hv
  have hlen:=hi.length;have:i<its.length:=(jn.mp hv').1;have hk:i<is.length:=by omega
  obtain⟨w',e1,e2⟩:=rv.get (i:=i) (x:=.int is[i]) (by rw[jC,ji hk];rfl);rw[hv'] at e1;cases e1;obtain⟨t,rfl⟩:=e2;exact⟨t,by dsimp only;rw[jg,ji hk];rfl⟩
 .intro h' tk t' hk;have el:its.toArray.size=is.length:=by rw[jl];exact hi.length
  rw[el,Qx is _ (jm _),List.take_length];refine⟨.int is.sum,H,I.kept λb o e=>hk b o ?_ (jf _ e),⟨_,rfl⟩,q⟩;intro z;cases jj.mp z;exact absurd (jp e) (jY _)
theorem zGd {p:Pos}{e:Expr}{fl:FL}(hc:X.calm=true)(hg:Gl X "sum")(hm:X.mg "sum"=Gb)(ha:sR X e fl)(hs:starEach [e] X.env=[(false,eval e X.env)]:=by rfl) :
  PV X (.Call (.Name "sum" p) [e] [] pos) (λψ=>(fl ψ).bind λds=>(ny ds).bind λis=>Ga (.int is.sum)):=by
 refine mn (xW (ZP hc) hg hm boot_sum ha (hs:=hs)) λσ H Q=>?_;rintro⟨H0,F,ψ,d,r,e,q⟩;obtain⟨ds,e1,e⟩:=gL e;obtain⟨is,e2,e⟩:=gL e;cases e;refine⟨H0,F,ψ,ds,r,e1,λp xs H1 F1 g1 f1 fh1 n1 hl rr=>⟨p,is,rfl,?_,q _ H1 F1 g1 f1 fh1 n1 (.int _)⟩⟩;rw[DL e2] at rr;rw[<- rr.ints_inv];exact hl
theorem zD2 {x:Str}{v:V}{u:Gg}{d:D}(hm:X.mg x=Ga u)(r:iA v u)(rd:∀ K F,iM K F d v)(hg:Gl X x:=by rfl)(hd:(x==("__debug__":Str))=false:=by decide):PV X (.Name x pos) (λ_=>Ga d):=Db (GS hg hm r hd) rd
theorem TK {op op':CmpOp}{r r':R2}{k k':D->D->Option D}{c:Expr}{h:FV}(ho:lU X (compareOp op) r)(ho':lU X (compareOp op') r')(hr:sV X.K r k)(hr':sV X.K r' k')(ha:PV X a f)(hb:PV X b g)(hc:PV X c h)
  (hm:lastMarks [op,op'] [b,c]=false:=by with_unfolding_all rfl) :
  PV X (.Compare a [op,op'] [b,c] pos) (λψ=>(f ψ).bind λx=>(g ψ).bind λy=>((k x y).bind lM).bind λt=>if t then(h ψ).bind λz=>k' y z else Ga (.bool false)):=by
 refine mn (El ho ho' ha hb hc hm) λσ H Q=>?_;rintro⟨H0,F,ψ,d,rs,e,q⟩;obtain⟨x,e1,e⟩:=gL e;obtain⟨y,e2,e⟩:=gL e;obtain⟨t,e3,e⟩:=gL e;obtain⟨d1,e4,e5⟩:=gL e3;cases AJ e5;refine⟨H0,F,ψ,x,rs,e1,λv H1 F1 g1 f1 fh1 n1 rv=>⟨H0,F1,ψ,y,rs.grow g1 f1 fh1 n1,e2,λu H2 F2 g2 f2 fh2 n2 ru=>?_⟩⟩;refine hr F2 H2 v u x y _ _ fh2 (rv.mono f2) ru e4 λw H3 F3 g3 f3 fh3 n3 rw3=>?_;cases rw3;refine⟨t,rfl,?_⟩;have gg:gM H H3:=(g1.trans g2).trans g3;have ff:gM F F3:=(f1.trans f2).trans f3;have nn:lb F F3 H:=(n1.trans n2 g1).trans n3 (g1.trans g2);cases t with
 | true =>
  obtain⟨z,e6,e7⟩:=gL (show(h ψ).bind (λz=>k' y z)=Ga d from e);refine sG ⟨H0,F3,ψ,z,rs.grow gg ff fh3 nn,e6,λw4 H4 F4 g4 f4 fh4 n4 rw4=>?_⟩;refine hr' F4 H4 u w4 y z d Q fh4 ((ru.mono f3).mono f4) rw4 e7 λw5 H5 F5 g5 f5 fh5 n5 rw5=>?_;exact q w5 H5 F5 ((gg.trans g4).trans g5) ((ff.trans f4).trans f5) fh5 ((nn.trans n4 gg).trans n5 (gg.trans g4)) rw5
 | false=>cases e;exact sv (q _ H3 F3 gg ff fh3 nn (.bl false))
end
section
variable {prog:Program}{w:World}{A:Around}{E:Gg->Gh->Prop}{s:Gh}
variable {z ti tp i1 i2:Gj}{I1 I2:Nat->Heap->Prop}{k1 k2:Heap->Prop}{xs ys:List Gg}{i:Nat}
end
def NO (t:Bool)(K:jb)(H:Hp)(a:Gj)(xs:List V):Prop:=if t then mU K H a xs else lH K H a xs
def II (t:Bool)(h:Heap)(a:Gj)(its:List Gg):Prop:=if t then h.IsTuple a its.toArray else h.IsList a its.toArray
theorem II.at {t:Bool}{h h':Heap}{a:Gj}{its:List Gg}(x:II t h a its)(k:∀ o,h.get? a=Ga o->h'.get? a=Ga o):II t h' a its:=by
 cases t with
 | true=>obtain⟨o,e,r⟩:=(x:h.IsTuple a its.toArray);exact(⟨o,k o e,r⟩:h'.IsTuple a its.toArray)
 | false=>exact Heap.IsList.at (x:h.IsList a its.toArray) k
theorem NO.same {t:Bool}{K:jb}{H H':Hp}{a:Gj}{xs:List V}(g:gM H H')(h:NO t K H a xs):NO t K H' a xs:=by
 cases t with
 | true=>exact nK g h
 | false=>exact g.seq h
section
variable {X:Cx}{ω:List (Gj×Obj)}{σ:St}{H:Hp}{s:Gh}
end
section
variable {X:Cx}{pos:Pos}
end
abbrev iO (d:D):FV:=λ_=>Ga d
abbrev ib (op:D->D->Option D)(f g:FV):FV:=λψ=>(f ψ).bind λx=>(g ψ).bind λy=>op x y
abbrev un (op:D->Option D)(f:FV):FV:=λψ=>(f ψ).bind op
abbrev sO (op:List D->Option D)(f:FL):FV:=λψ=>(f ψ).bind op
abbrev nJ (f:FV):FB:=λψ=>(f ψ).bind zN
abbrev lh (op:D->D->Option D)(f g:FV):FB:=λψ=>((f ψ).bind λx=>(g ψ).bind λy=>op x y).bind lM
abbrev rz (f:FB):FB:=λψ=>(f ψ).bind λc=>Ga (!c)
abbrev NT (f g:FB):FB:=λψ=>(f ψ).bind λc=>if c then g ψ else Ga false
abbrev xg (f g:FB):FB:=λψ=>(f ψ).bind λc=>if c then Ga true else g ψ
abbrev tS (f g:FV):FV:=λψ=>((f ψ).bind lM).bind λc=>if c then g ψ else Ga (.bool false)
abbrev Fj (f g:FV):FV:=λψ=>((f ψ).bind lM).bind λc=>if c then Ga (.bool true) else g ψ
abbrev Kl (f:FV):FV:=λψ=>((f ψ).bind lM).bind λc=>Ga (.bool (!c))
abbrev xa (c:FB)(f g:FV):FV:=λψ=>(c ψ).bind λk=>if k then f ψ else g ψ
abbrev Ag (k k':D->D->Option D)(f g h:FV):FV:=λψ=>(f ψ).bind λx=>(g ψ).bind λy=>((k x y).bind lM).bind λt=>if t then(h ψ).bind λz=>k' y z else Ga (.bool false)
abbrev iB:FL:=λ_=>Ga []
abbrev gP (f:FV)(g:FL):FL:=λψ=>(f ψ).bind λd=>(g ψ).bind λds=>Ga (d::ds)
abbrev rq (g:FL):FV:=λψ=>(g ψ).bind λds=>Ga (.tuple ds)
abbrev mL (g:FL):FV:=λψ=>(g ψ).bind λds=>Ga (.list ds)
abbrev gY (fm:List D->Option D)(g:FL):FV:=λψ=>(g ψ).bind fm
abbrev oz (fm:List D->Option (List D))(g:FL):FL:=λψ=>(g ψ).bind fm
abbrev zp (f:FV):FL:=λψ=>(f ψ).bind yi
abbrev Xg (f:FV):FL:=λψ=>(f ψ).bind xR
abbrev ng (f:FV):FL:=λψ=>(f ψ).bind toS
abbrev mM (op:D->Option (List D))(f:FV):FL:=λψ=>(f ψ).bind op
abbrev yu (op:D->D->Option (List D))(f g:FV):FL:=λψ=>(f ψ).bind λx=>(g ψ).bind λy=>op x y
def xt (ds:List D):Option D:=(ny ds).bind λis=>Ga (.int is.sum)
def sw (T:String)(d:D):Option D:=Ga (.bool (EK T d))
def pj (xs:List D):Option D:=Ga (.tuple xs)
abbrev nE:FS:=λψ=>Ga (.nx ψ)
abbrev ik (g k:FS):FS:=λψ=>lT (g ψ) k
abbrev iZ (f:FV):FS:=λψ=>(f ψ).bind λd=>Ga (.rt d)
abbrev xF (f:FL):FS:=λψ=>(f ψ).bind λd=>Ga (.ro d)
abbrev mV (c:FB)(g k:FS):FS:=λψ=>(c (frz ψ)).bind λt=>if t then g ψ else k ψ
abbrev iH (i:Nat)(f:FV):FS:=λψ=>(f ψ).bind λd=>Ga (.nx (ψ.set i (.val d)))
abbrev sB (i:Nat)(f:FL):FS:=λψ=>(f ψ).bind λd=>Ga (.nx (ψ.set i (.own d)))
abbrev AH (i:Nat)(g:FS):FS:=λψ=>(g ψ).bind λo=>Ga (Ai i o)
abbrev Eo (i:Nat)(g:FS):FS:=λψ=>g (frzAt i ψ)
abbrev yA (i:Nat)(f:FV):FS:=λψ=>(go i ψ).bind λds=>(f ψ).bind λd=>if ds.length<1000000 then Ga (.nx (ψ.set i (.own (ds++[d])))) else Gb
abbrev mS (f:FL)(t:FT)(g:FS):FS:=λψ=>(f ψ).bind λds=>iV t g ds ψ
abbrev aib (f:FV)(t:FT):FS:=λψ=>(f ψ).bind λd=>(t d ψ).bind λenv1=>Ga (.nx env1)
abbrev mf (i:Nat):FT:=λd ψ=>Ga (ψ.set i (.val d))
abbrev sM:=List D->En->Option En
abbrev Cr:sM:=λds ψ=>match ds with|[]=>Ga ψ|_=>Gb
abbrev tR (t:FT)(u:sM):sM:=λds ψ=>match ds with|d::r=>(t d ψ).bind λenv1=>u r env1|[]=>Gb
abbrev Km (u:sM):FT:=λd ψ=>(xR d).bind λds=>u ds ψ
section
variable {X:Cx}{pos:Pos}
structure GG (X:Cx)(es:List Expr)(t:sM):Prop where
 p:zL X es t
 len:∀ ds ψ env',t ds ψ=Ga env'->ds.length=es.length
theorem EV:GG X [] Cr:=⟨zDV,λds ψ env' h=>by cases ds with|nil=>rfl|cons _ _=>cases h⟩
theorem wX {e:Expr}{es:List Expr}{t:FT}{u:sM}(h1:wY X e t)(h2:GG X es u)(hs:(assignEach (e::es) X.env).map (·.2)=assign e X.env::(assignEach es X.env).map (·.2):=by rfl):GG X (e::es) (tR t u) :=
 ⟨zB7 h1 h2.p hs,λds ψ env' h=>by
  cases ds with
  | nil=>cases h
  | cons d r =>
   obtain⟨e1,_,x2⟩:=gL (show(t d ψ).bind (λenv1=>u r env1)=Ga env' from h);exact congrArg JB (h2.len r e1 env' x2)⟩
theorem FH {es:List Expr}{k:Nat}{t:sM}(hc:X.calm=true)(h:GG X es t)(hn:(assignEach es X.env).length=es.length:=by rfl)(hst:(assignEach es X.env).findIdx? (·.1)=Gb:=by rfl):wY X (.Tuple es k pos) (Km t):=zGc hc h.p h.len hn hst
theorem mD (i:Nat){x:Str}(hN:X.N.Nodup)(hi:X.N[i]?=Ga x:=by rfl)(hx:wS X.env.scope x:=by first|exact k8 rfl|exact kJ rfl)(hf:X.fn x=true\/X.env.scope.names.lookup x=Ga .local:=by first|exact .inl rfl|exact .inr rfl):wY X (.Name x pos) (mf i):=MV i hN hi hx hf
theorem XF {p:Pos}{e:Expr}{fl:FL}(hc:X.calm=true)(hg:Gl X "sum")(hm:X.mg "sum"=Gb)(ha:sR X e fl)(hs:starEach [e] X.env=[(false,eval e X.env)]:=by rfl):PV X (.Call (.Name "sum" p) [e] [] pos) (sO xt fl):=zGd hc hg hm ha hs
end
structure Fn (K:jb)(mg:Str->Option Gg)(x:Str)(st:Stmt)(ps:List Str)(a:Gj)(fd:Gi):Prop where
 F:sL K x x st a fd
 b:pV K fd ps []
 m:mg x=Ga (.ref a)
theorem zGe {K:jb}{mg:Str->Option Gg}{h:Heap}{x:Str}{st:Stmt}{ps:List Str}{f:Gj}{oc:Gg}{od an:Option Gj}{osl:Array (Option Gg)}{kV doc pm cdv ct:Gg}(X:K.In h)(G:h.Ns mainGlobals mg)
  (a:kb K mainGlobals x=Ga (Ga (.ref f))) (l:K.lookup f=Ga ⟨oc,od,.func (kT x x (nM st) (lO st) (gO st) .none kV doc pm an cdv ct),osl⟩) (c:vG K cdv x=true) (k:ub K (.ref f)=true)
  (hb:∀ (kV doc pm:Gg) (an:Option Gj) (cdv ct:Gg) (us:List Gg),us.length=ps.length->bindArgs (kT x x (nM st) (lO st) (gO st) .none kV doc pm an cdv ct) ⟨us,[]⟩=pure (ps.zip us)) :
  Fn K mg x st ps f (kT x x (nM st) (lO st) (gO st) .none kV doc pm an cdv ct):=by
 have F:=Mj (st:=st) l c k;exact⟨F,F.binds hb,vU X G a⟩
theorem lY {k:Nat}{A:Around}(r:lK k A):A.units+100<cLine:=by have:=r.un;omega
noncomputable def hJ:Option sq->Option D
 | some (.rt d)=>Ga d
 | some (.ro xs)=>Ga (.list xs)
 | _=>Gb
noncomputable def rQ:Option sq->Option (List D)
 | some (.ro xs)=>Ga xs
 | _=>Gb
def iE (np n:Nat)(g:FS)(ds:List D):Option D:=if ds.length=np then hJ (g (oo n ds)) else Gb
def xz (np n:Nat)(g:FS)(ds:List D):Option (List D):=if ds.length=np then rQ (g (oo n ds)) else Gb
section
variable {P:Program}{w:World}{K:jb}{mg:Str->Option Gg}{base:Heap}{x qual:Str}{st:Stmt}{f:Gj}{fd:Gi}{N ps:List Str}{k:Nat}{g:FS}
theorem lq (F:sL K x qual st f fd)(S:gR N ps (gO st))
  (hb:∀ (cdv:Gg) (A:Around) (outer:List Env) (s:Gh) (H:Hp) (E:XK),lK k (A.deeper (envOfC qual (gO st) s.heap.objs.size f cdv))->oV (pT io P w K mg base N qual (gO st) f cdv A outer s H E).nox (lO st) g) :
  hV P w K mg base io (k+1) f fd ps (iY K (iE ps.length N.length g)):=by
 refine fnV F S (λds d h=>?_) (λcdv A outer s H E hr=>⟨g,hb cdv A outer s H E hr,λds d h=>?_⟩)
 .unfold iE at h;split at h
  .assumption
  .cases h
 .unfold iE at h;split at h
  .unfold hJ at h;split at h
   .rename_i e;cases h;exact .inl e
   .rename_i e;cases h;exact .inr ⟨_,rfl,e⟩
   .cases h
  .cases h
theorem Gw (F:sL K x qual st f fd)(S:gR N ps (gO st))
  (hb:∀ (cdv:Gg) (A:Around) (outer:List Env) (s:Gh) (H:Hp) (E:XK),lK k (A.deeper (envOfC qual (gO st) s.heap.objs.size f cdv))->oV (pT io P w K mg base N qual (gO st) f cdv A outer s H E).nox (lO st) g) :
  hV P w K mg base io (k+1) f fd ps (tJ K (xz ps.length N.length g)):=by
 refine Zv F S (λds d h=>?_) (λcdv A outer s H E hr=>⟨g,hb cdv A outer s H E hr,λds d h=>?_⟩)
 .unfold xz at h;split at h
  .assumption
  .cases h
 .unfold xz at h;split at h
  .unfold rQ at h;split at h
   .rename_i e;cases h;exact e
   .cases h
  .cases h
end
theorem zGV {K:jb}{fm:List D->Option D}{H:Hp}{a:Gj}{ns:List Int}(hS:lH K H a (ns.map V.int))(h:fm [.list (ns.map jc)]=Ga (.bool true)):iY K fm [.ref a] H (λv _=>v=.bl true) λ_ _ _=>False :=
 ⟨H,[.list (ns.map jc)],.bool true,.refl _,.cons (.lst hS (ia.ints ns)) .nil,h,λv H' F' _ _ _ _ r=>by cases r;rfl⟩
theorem Pv (d:List D):rQ (Ga (.ro d))=Ga d:=rfl
theorem mX {g k:FS}{ψ e:En}(h:g ψ=Ga (.nx e)):ik g k ψ=k e:=by show lT (g ψ) k=_;rw[h];rfl
theorem zI {g k:FS}{ψ:En}{d:D}(h:g ψ=Ga (.rt d)):ik g k ψ=Ga (.rt d):=by show lT (g ψ) k=_;rw[h];rfl
theorem wB {c:FB}{g k:FS}{ψ:En}(h:c (frz ψ)=Ga true):mV c g k ψ=g ψ:=by show(c (frz ψ)).bind _=_;rw[h];rfl
theorem sX {c:FB}{g k:FS}{ψ:En}(h:c (frz ψ)=Ga false):mV c g k ψ=k ψ:=by show(c (frz ψ)).bind _=_;rw[h];rfl
theorem oG {f:FV}{ψ:En}{d:D}(h:f ψ=Ga d):iZ f ψ=Ga (.rt d):=by show(f ψ).bind _=_;rw[h];rfl
theorem SJ {f:FL}{ψ:En}{d:List D}(h:f ψ=Ga d):xF f ψ=Ga (.ro d):=by show(f ψ).bind _=_;rw[h];rfl
theorem xh {i:Nat}{f:FV}{ψ:En}{d:D}(h:f ψ=Ga d):iH i f ψ=Ga (.nx (ψ.set i (.val d))):=by show(f ψ).bind _=_;rw[h];rfl
theorem zGf {i:Nat}{f:FL}{ψ:En}{d:List D}(h:f ψ=Ga d):sB i f ψ=Ga (.nx (ψ.set i (.own d))):=by show(f ψ).bind _=_;rw[h];rfl
theorem VQ {i:Nat}{g:FS}{ψ e:En}(h:g ψ=Ga (.nx e)):AH i g ψ=Ga (.nx (frzAt i e)):=by show(g ψ).bind _=_;rw[h];rfl
theorem pe {op:D->D->Option D}{f g:FV}{ψ:En}{a b:D}(h1:f ψ=Ga a)(h2:g ψ=Ga b):ib op f g ψ=op a b:=by show(f ψ).bind _=_;rw[h1];show(g ψ).bind _=_;rw[h2];rfl
theorem wv {op:D->Option D}{f:FV}{ψ:En}{a:D}(h1:f ψ=Ga a):un op f ψ=op a:=by show(f ψ).bind _=_;rw[h1];rfl
theorem HV {op:List D->Option D}{f:FL}{ψ:En}{a:List D}(h1:f ψ=Ga a):sO op f ψ=op a:=by show(f ψ).bind _=_;rw[h1];rfl
theorem mv {fm:List D->Option D}{g:FL}{ψ:En}{ds:List D}(h:g ψ=Ga ds):gY fm g ψ=fm ds:=by show(g ψ).bind _=_;rw[h];rfl
theorem Mh {fm:List D->Option (List D)}{g:FL}{ψ:En}{ds:List D}(h:g ψ=Ga ds):oz fm g ψ=fm ds:=by show(g ψ).bind _=_;rw[h];rfl
theorem yN {f:FV}{g:FL}{ψ:En}{d:D}{ds:List D}(h1:f ψ=Ga d)(h2:g ψ=Ga ds):gP f g ψ=Ga (d::ds):=by show(f ψ).bind _=_;rw[h1];show(g ψ).bind _=_;rw[h2];rfl
theorem xk {g:FL}{ψ:En}{ds:List D}(h:g ψ=Ga ds):mL g ψ=Ga (.list ds):=by show(g ψ).bind _=_;rw[h];rfl
theorem ZH {g:FL}{ψ:En}{ds:List D}(h:g ψ=Ga ds):rq g ψ=Ga (.tuple ds):=by show(g ψ).bind _=_;rw[h];rfl
theorem Ir {f:FV}{ψ:En}{ds:List D}(h:f ψ=Ga (.list ds)):zp f ψ=Ga ds:=by show(f ψ).bind _=_;rw[h];rfl
theorem QQ {f:FV}{ψ:En}{d:D}{ds:List D}(h:f ψ=Ga d)(h2:toS d=Ga ds):ng f ψ=Ga ds:=by show(f ψ).bind _=_;rw[h];exact h2
theorem xf {op:D->Option (List D)}{f:FV}{ψ:En}{a:D}(h1:f ψ=Ga a):mM op f ψ=op a:=by show(f ψ).bind _=_;rw[h1];rfl
theorem zGi {op:D->D->Option (List D)}{f g:FV}{ψ:En}{a b:D}(h1:f ψ=Ga a)(h2:g ψ=Ga b):yu op f g ψ=op a b:=by show(f ψ).bind _=_;rw[h1];show(g ψ).bind _=_;rw[h2];rfl
theorem wV {f:FL}{t:FT}{g:FS}{ψ:En}{ds:List D}(h:f ψ=Ga ds):mS f t g ψ=iV t g ds ψ:=by show(f ψ).bind _=_;rw[h];rfl
theorem zg {f:FV}{ψ:En}{d:D}{b:Bool}(h:f ψ=Ga d)(h2:zN d=Ga b):nJ f ψ=Ga b:=by show(f ψ).bind _=_;rw[h];exact h2
theorem rZ {op:D->D->Option D}{f g:FV}{ψ:En}{x y:D}{b:Bool}(h1:f ψ=Ga x)(h2:g ψ=Ga y)(h3:op x y=Ga (.bool b)):lh op f g ψ=Ga b:=by
 show((f ψ).bind _).bind _=_;rw[h1];show((g ψ).bind _).bind _=_;rw[h2];show(op x y).bind _=_;rw[h3];rfl
theorem LZ {f:FB}{ψ:En}{b:Bool}(h:f ψ=Ga b):rz f ψ=Ga (!b):=by show(f ψ).bind _=_;rw[h];rfl
theorem Em {f g:FB}{ψ:En}(h:f ψ=Ga true):xg f g ψ=Ga true:=by show(f ψ).bind _=_;rw[h];rfl
theorem yD {f g:FB}{ψ:En}(h:f ψ=Ga false):xg f g ψ=g ψ:=by show(f ψ).bind _=_;rw[h];rfl
theorem zGj {i:Nat}{f:FV}{ψ:En}{ds:List D}{d:D}(h1:go i ψ=Ga ds)(h2:f ψ=Ga d)(hz:ds.length<1000000):yA i f ψ=Ga (.nx (ψ.set i (.own (ds++[d])))):=by
 show(go i ψ).bind _=_;rw[h1];show(f ψ).bind _=_;rw[h2];exact Ge hz
theorem wm {fi:FL}{fc:FB}{fe:FV}{ix:List Nat}{ψ:En}{ds:List D}(h:fi ψ=Ga ds)(hz:ds.length<=1000000):iQ fi fc fe ix ψ=lw fc fe (nU ix ψ) ds:=by
 show(fi ψ).bind _=_;rw[h];exact Ge hz
theorem Ac {fe:FV}{base:En}{F:D->D}:∀ {ds:List D},(∀ d∈ds,fe (.val d::base)=Ga (F d))->lw (λ_=>Ga true) fe base ds=Ga (ds.map F)
 | [],_=>rfl
 | x::r,h=>by
  unfold lw;rw[jv,Ge rfl,h x jh,jv,Ac λd hd=>h d (jo _ hd)];rfl
theorem Bx {fc:FB}{fe:FV}{base:En}{p:D->Bool}{F:D->D}:∀ {ds:List D},(∀ d∈ds,fc (.val d::base)=Ga (p d))->(∀ d∈ds,p d=true->fe (.val d::base)=Ga (F d))->lw fc fe base ds=Ga ((ds.filter p).map F)
 | [],_,_=>rfl
 | x::r,h1,h2=>by
  have ih:=Bx (fc:=fc) (fe:=fe) (base:=base) (p:=p) (F:=F) (ds:=r) (λd hd=>h1 d (jo _ hd)) (λd hd=>h2 d (jo _ hd));unfold lw;rw[h1 x jh,jv];cases hp:p x with
  | true=>rw[Ge rfl,h2 x jh hp,jv,ih,ky hp];rfl
  | false=>rw[Gf jr,ih,kG (by rw[hp];exact jr)]
theorem IM (a b:Int):kL (.int a) (.int b)=(a==b):=by simp only[kL]
theorem NZ (a b:Int):lR (.int a) (.int b)=Ga (.bool (!(a==b))):=by
 unfold lR;have:sA (.int a) (.int b)=true:=rfl;rw[Ge this,IM]
theorem tK (a b:Int):lj (.int a) (.int b)=Ga (.bool (a==b)):=by
 unfold lj;have:sA (.int a) (.int b)=true:=rfl;rw[Ge this,IM]
theorem QW {d:D}(h:d.canLay0=true)(hd:d.depth<=100):lj d d=Ga (.bool true):=by
 unfold lj;have:sA d d=true:=by unfold sA;rw[h,JD,Gc hd];rfl
 rw[Ge this,SeqAt.eqv_refl d h]
theorem Pp {d:D}(h:d.canLay0=true)(hd:d.depth<=100):lR d d=Ga (.bool false):=by
 unfold lR;have:sA d d=true:=by unfold sA;rw[h,JD,Gc hd];rfl
 rw[Ge this,SeqAt.eqv_refl d h];rfl
theorem Dp:∀ {xs:List D},(∀ x∈xs,x.canLay0=true)->kE xs=true
 | [],_=>rfl
 | y::r,h=>by rw[kE,h y jh,Dp λx hx=>h x (jo _ hx)];rfl
theorem Dh {n:Nat}:∀ {xs:List D},(∀ x∈xs,x.depth<=n)->kq xs<=n
 | [],_=>jT _
 | y::r,h=>by rw[kq];exact Nat.max_le.mpr ⟨h y jh,Dh λx hx=>h x (jo _ hx)⟩
theorem zzZ (ns:List Int):kE (ns.map jc)=true:=Dp λx hx=>by obtain⟨n,_,rfl⟩:=jz.mp hx;rfl
theorem zu7 (ns:List Int):kq (ns.map jc)<=0:=Dh λx hx=>by obtain⟨n,_,rfl⟩:=jz.mp hx;exact jm _
theorem zz0 (a:Int)(ns:List Int):Al (.int a) (.list (ns.map jc))=Ga (.bool (ns.contains a)):=by
 have h0:=zu7 ns;have ok:yL (.int a) (ns.map jc)=true:=by
  unfold yL;rw[zzZ];have:min (kq (ns.map jc)) (PyData.depth (.int a))<=90:=by omega
  rw[Gc this];rfl
 show(if yL (.int a) (ns.map jc)=true then Ga (jP ((ns.map jc).any λy=>kL y (.int a))) else Gb)=_;rw[Ge ok,JE]
 congr 2
 rw[List.contains_eq_any_beq]
 congr 1
 funext x
 show kL (.int x) (.int a)=(a==x);rw[IM];rw[jV,beq_iff_eq,beq_iff_eq];exact eq_comm
def pU {α:Type}(lt:Nat->Nat->Option Bool):qG α->Option α
 | .ret a=>Ga a
 | .ask i j k=>(lt i j).bind λb=>pU lt (k b)
theorem SI {α:Type}{lt:Nat->Nat->Option Bool}{cmp:Nat->Nat->(Bool->Gh->Prop)->Gh->Prop}{s:Gh}(hc:∀ i j b C,lt i j=Ga b->C b s->cmp i j C s){G:α->Gh->Prop} :
  ∀ {t:qG α} {a:α},pU lt t=Ga a->G a s->t.kasWp cmp G s
 | .ret x,a,e,g=>by cases e;exact g
 | .ask i j k,a,e,g=>by
  obtain⟨b,e1,e2⟩:=gL (show(lt i j).bind (λb=>pU lt (k b))=Ga a from e);exact hc i j b _ e1 (SI hc e2 g)
section
variable {prog:Program}{w:World}{A:Around}{E:Gg->Gh->Prop}{s:Gh}{vs:List Gg}
theorem Qs {a:Gj}{n:Nat}{P:JP->Gh->Prop}{lt:Nat->Nat->Option Bool}{p:Array Nat}(ho:s.heap.get? a=Ga (seqObj "list" vs.toArray n))(h2:2<=vs.length)(h64:vs.length<64)
  (hp:pU lt (uu vs.length)=Ga p)
  (hk:∀ s1:Gh,(∀ b o,b≠a->s.heap.get? b=Ga o->s1.heap.get? b=Ga o)->∃ κ,(∀ Q:SortKind->Gh->Prop,Q κ s1->wpAny (model prog w) A (keyKind' vs.toArray) Q (λ_ _=>False) s1) /\
   ∀ i j b (C:Bool->Gh->Prop),lt i j=Ga b->C b s1->vZ prog w A κ vs i j C s1)
  (h:∀ h' c,(∀ b o,b≠a->s.heap.get? b=Ga o->h'.get? b=Ga o)->h'.get? a=Ga (seqObj "list" (vJ (p.toList.map λi=>vs.getD i kr)) c)->P (.done (.ret .none)) { s with heap:=h' }) :
  wpAny (model prog w) A (Builtin.«list.sort» ⟨[.ref a],[]⟩) P E s:=by
 have s1:=ui s.heap a (kg λ_=>(#[]:Array Gg));obtain⟨e1,ho1⟩:∃ e1,(s.heap.update a (kg λ_=>(#[]:Array Gg))).get? a=Ga (seqObj "list" #[] e1):=⟨_,get?_update_seq ho λ_=>#[]⟩;generalize hh1:s.heap.update a (kg λ_=>(#[]:Array Gg))=h1 at s1 ho1;have sl:vs.length<=sizeLine:=by rw[sizeLine_eq];omega
 rw[list_sort_plain];refine gI (listItems_at ho rfl (gI (listUpdate_at ho rfl ?_ (by rw[jl];exact sl) (jT _))));rw[hh1];refine gI (seqEpoch_at ho1 rfl (gI (wpAny_newTuple (gI (wpAny_newList (wpAny_holding ?_) (jT _))) sl)));generalize hh3:(h1.push { cls:=.type "tuple",data:=.seq vs.toArray }).push { cls:=.type "list",data:=.seq ([]:List Gg).toArray }=h3;have k3:∀ b o,h1.get? b=Ga o->h3.get? b=Ga o:=λb o e=>by rw[<- hh3];exact jf _ (jf _ e)
 have keep:∀ b o,b≠a->s.heap.get? b=Ga o->h3.get? b=Ga o:=λb o nb e=>k3 b o (s1.extBut b o nb e);dsimp only;have n2:¬vs.toArray.size<2:=by rw[jl];omega
 rw[Gf n2,Gf n2];obtain⟨κ,hkind,hask⟩:=hk { s with heap:=h3 } keep;refine gI (wpAny_mono (hkind (λκ' s'=>κ'=κ/\s'={ s with heap:=h3 }) ⟨rfl,rfl⟩) (λκ' s' ⟨x1,x2⟩=>?_) λ_ _ z=>z.elim);subst x1 x2;refine gI (wpAny_mono (PySem.W.kat_run (Q:=λst' s'=>arrOf st'=p.map (PySem.W.kas_item (vs.toArray.zip vs.toArray))/\failedOf st'=Gb/\p.size=vs.length/\s'={ s with heap:=h3 }) (G:=λp' s'=>p'=p/\s'={ s with heap:=h3 })
  rfl h2 h64 (λp' st' s' a1 a2 a3 a4=>⟨by rw[<- a4.1];exact a2,a3,by rw[<- a4.1];exact a1,a4.2⟩) (SI (λi j b C e c=>hask i j b C e c) hp ⟨rfl,rfl⟩)) ?_ λ_ _ e=>e)
 rintro⟨⟨⟩,st'⟩ s' ⟨har,hf,hsz,rfl⟩;dsimp only;rw[PySem.W.kat_snds rfl har];have ho3:h3.get? a=Ga (seqObj "list" #[] e1):=k3 _ _ ho1;have hz:(vJ (p.toList.map λi=>vs.getD i kr)).size<=sizeLine:=by rw[jl,jd,ki,hsz];exact sl
 refine gI (seqEpoch_at (s:={ s with heap:=h3 }) ho3 rfl (gI (listUpdate_at (s:={ s with heap:=h3 }) ho3 rfl ?_ (jT _) (JF hz))));rw[hf];simp only[bne_self_eq_false,kH,if_false];have s4:=ui h3 a (kg λ_=>vJ (p.toList.map λi=>vs.getD i kr));obtain⟨c,hc⟩:∃ c,(h3.update a (kg λ_=>vJ (p.toList.map λi=>vs.getD i kr))).get? a=Ga (seqObj "list" (vJ (p.toList.map λi=>vs.getD i kr)) c):=⟨_,get?_update_seq ho3 λ_=>_⟩;exact gJ (h _ c (λb o nb e=>s4.extBut b o nb (keep b o nb e)) hc)
theorem Sf {a:Gj}{n:Nat}{P:JP->Gh->Prop}(ho:s.heap.get? a=Ga (seqObj "list" vs.toArray n))(h2:vs.length<2)
  (h:∀ h' c,(∀ b o,b≠a->s.heap.get? b=Ga o->h'.get? b=Ga o)->h'.get? a=Ga (seqObj "list" vs.toArray c)->P (.done (.ret .none)) { s with heap:=h' }) :
  wpAny (model prog w) A (Builtin.«list.sort» ⟨[.ref a],[]⟩) P E s:=by
 have s1:=ui s.heap a (kg λ_=>(#[]:Array Gg));obtain⟨e1,ho1⟩:∃ e1,(s.heap.update a (kg λ_=>(#[]:Array Gg))).get? a=Ga (seqObj "list" #[] e1):=⟨_,get?_update_seq ho λ_=>#[]⟩;generalize hh1:s.heap.update a (kg λ_=>(#[]:Array Gg))=h1 at s1 ho1;have sl:vs.length<=sizeLine:=by rw[sizeLine_eq];omega
 rw[list_sort_plain];refine gI (listItems_at ho rfl (gI (listUpdate_at ho rfl ?_ (by rw[jl];exact sl) (jT _))));rw[hh1];refine gI (seqEpoch_at ho1 rfl (gI (wpAny_newTuple (gI (wpAny_newList (wpAny_holding ?_) (jT _))) sl)));generalize hh3:(h1.push { cls:=.type "tuple",data:=.seq vs.toArray }).push { cls:=.type "list",data:=.seq ([]:List Gg).toArray }=h3;have k3:∀ b o,h1.get? b=Ga o->h3.get? b=Ga o:=λb o e=>by rw[<- hh3];exact jf _ (jf _ e)
 have keep:∀ b o,b≠a->s.heap.get? b=Ga o->h3.get? b=Ga o:=λb o nb e=>k3 b o (s1.extBut b o nb e);dsimp only;have n2:vs.toArray.size<2:=by rw[jl];omega
 rw[Ge n2,Ge n2];refine gI (gJ ?_);rw[StateT.run_pure];refine gI (gJ ?_);dsimp only;have hout:(arrOf (SortSt.mk' general' (vs.toArray.zip vs.toArray) #[] 7 Gb)).map (·.2)=vs.toArray:=by
  show(vs.toArray.zip vs.toArray).map (·.2)=vs.toArray;apply Array.toList_inj.mp;rw[Array.toList_map,Array.toList_zip];exact List.map_snd_zip (jm _)
 rw[hout];have ho3:h3.get? a=Ga (seqObj "list" #[] e1):=k3 _ _ ho1;refine gI (seqEpoch_at (s:={ s with heap:=h3 }) ho3 rfl (gI (listUpdate_at (s:={ s with heap:=h3 }) ho3 rfl ?_ (jT _) (JF (by rw[jl];exact sl)))));simp only[bne_self_eq_false,kH,if_false];have s4:=ui h3 a (kg λ_=>vs.toArray);obtain⟨c,hc⟩:∃ c,(h3.update a (kg λ_=>vs.toArray)).get? a=Ga (seqObj "list" vs.toArray c):=⟨_,get?_update_seq ho3 λ_=>_⟩;exact gJ (h _ c (λb o nb e=>s4.extBut b o nb (keep b o nb e)) hc)
theorem Tv {l:Gj}{out:List Gg}{Q:Gg->Gh->Prop}(hl:s.heap.IsList l vs.toArray)(hz:vs.length<64)
  (hs:∀ (s1:Gh) (n:Nat) (P:JP->Gh->Prop) (E':Gg->Gh->Prop),(∀ b o,s.heap.get? b=Ga o->s1.heap.get? b=Ga o)->s1.heap.get? (s.heap.objs.size+1)=Ga (seqObj "list" vs.toArray n) ->
   (∀ h' c,(∀ b o,b≠s.heap.objs.size+1->s1.heap.get? b=Ga o->h'.get? b=Ga o)->h'.get? (s.heap.objs.size+1)=Ga (seqObj "list" out.toArray c)->P (.done (.ret .none)) { s1 with heap:=h' }) ->
   wpAny (model prog w) A.in1.in1 (Builtin.«list.sort» ⟨[.ref (s.heap.objs.size+1)],[]⟩) P E' s1)
  (h:∀ h' c,(∀ b o,s.heap.get? b=Ga o->h'.get? b=Ga o)->h'.get? (s.heap.objs.size+1)=Ga (seqObj "list" out.toArray c)->Q (.ref (s.heap.objs.size+1)) { s with heap:=h' }) :
  wpAny (model prog w) A (call (.builtin "sorted") [.ref l]) Q E s:=by
 have sl:vs.length<=sizeLine:=by rw[sizeLine_eq];omega
 refine qj kind_sorted plain_sorted entry_sorted (args_sorted1 _) ?_;unfold Builtin.«sorted»;refine gI (m:=checkCount "sorted" 1 1 _) (gJ (gI (collect_list hl (gI (wpAny_newList ?_ sl)) sl)));generalize hh1:(s.heap.push (seqObj "list" #[] 0)).update s.heap.objs.size (kg (·++vs.toArray))=h1;have n1:h1.objs.size=s.heap.objs.size+1:=by rw[<- hh1,Heap.size_update,size_push']
 have k1:∀ b o,s.heap.get? b=Ga o->h1.get? b=Ga o:=λb o q=>by
  have hlt:b<s.heap.objs.size:=jp q;rw[<- hh1,Heap.get?_update_ne _ _ _ _ (jH hlt),Heap.get?_push_ne _ _ _ (jH hlt)];exact q
 show wpAny _ _ _ _ _ { s with heap:=h1.push (seqObj "list" vs.toArray 0) };dsimp only;rw[n1];have hoL:(h1.push (seqObj "list" vs.toArray 0)).get? (s.heap.objs.size+1)=Ga (seqObj "list" vs.toArray 0):=by rw[<- n1];exact jy _ rfl
 have keep:∀ b o,s.heap.get? b=Ga o->(h1.push (seqObj "list" vs.toArray 0)).get? b=Ga o:=λb o q=>jf _ (k1 b o q);refine gI (wpAny_holding (wpAny_call_entry slot_list_sort ⟨_,hoL,rfl⟩ entry_list_sort ?_ (args_list_sort _)));refine hs { s with heap:=h1.push (seqObj "list" vs.toArray 0) } 0 _ _ keep hoL λh' c kk hc=>⟨_,rfl,gJ ⟨_,rfl,h h' c (λb o e=>kk b o (jH (vI (jp e))) (keep b o e)) hc⟩⟩
end
def pR:List Int->List Int->Bool
 | [],[]=>false
 | [],_::_=>true
 | _::_,[]=>false
 | x::xs,y::ys=>if x==y then pR xs ys else decide (x<y)
def AG:D->D->Option Bool
 | .int i,.int j=>Ga (decide (i<j))
 | .tuple xs,.tuple ys=>(ny xs).bind λis=>(ny ys).bind λjs=>Ga (pR is js)
 | _,_=>Gb
def Rv:D->Bool
 | .int _=>true
 | _=>false
def Eu:D->Bool
 | .tuple (x::xs)=>(ny (x::xs)).isSome
 | _=>false
def rj (ds:List D):Bool:=ds.all Rv||ds.all Eu
def xD (ds:List D)(i j:Nat):Option Bool:=(ds[i]?).bind λa=>(ds[j]?).bind λb=>AG a b
def nt (ds:List D):Option (List D):=if ds.length<2 then Ga ds else if (decide (ds.length<64)&&rj ds)=true then(pU (xD ds) (uu ds.length)).bind λp=>(if p.size<=64 then Ga (p.toList.map λi=>ds.getD i .none) else Gb) else Gb
section
variable {prog:Program}{w:World}{A:Around}{E:Gg->Gh->Prop}{s:Gh}
theorem QY {b fin:Bool}{Q:Bool->Gh->Prop}:∀ {is js:List Int} {us ws:List Gg} {i:Nat},IntsAre us is->IntsAre ws js->(i=0->b=true)->fin=decide (is.length<js.length)->Q (pR is js) s->PySem.W.KatLex prog w A b fin Q (us.zip ws) i s
 | [],[],_,_,i,.nil,.nil,_,hf,q=>by
  rw[hf];exact q
 | [],y::ys,_,_,i,.nil,.cons _ _ _,_,hf,q=>by
  have e:decide (([]:List Int).length<(y::ys).length)=true:=Gc (Nat.succ_pos _);rw[hf,e];exact q
 | _::_,[],_,_,i,.cons _ _ _,.nil,_,hf,q=>by
  rw[hf];exact q
 | x::is,y::js,_,_,i,.cons _ t h1,.cons _ u h2,hb,hf,q=>by
  show wpAny _ _ (eqBool (.int x t) (.int y u)) _ _ s;refine wpAny_eqBool_int ?_;have q':Q (if (x==y)=true then pR is js else decide (x<y)) s:=q;cases hxy:(x==y) with
  | true =>
   rw[hxy,Ge rfl] at q';rw[Ge rfl];exact QY (i:=i+1) h1 h2 (λz=>absurd z (JQ _)) (by rw[hf];simp only[jX,Nat.add_lt_add_iff_right]) q'
  | false =>
   rw[hxy,Gf jr] at q';rw[Gf jr];by_cases hi:i=0
   .subst hi;rw[hb rfl];exact oneLt_int q'
   .have e:(b&&i==0)=false:=by rw[beq_eq_false_iff_ne.mpr hi,ud]
    rw[e];exact PySem.W.kat_one _ _ (lt_int q')
end
section
variable {X:Cx}{ω:List (Gj×Obj)}{σ:St}{F H:Hp}{s:Gh}
theorem QN:∀ {is:List Int} {xs:List V} {us:List Gg},ia X.K F (is.map jc) xs->ip xs us->IntsAre us is
 | [],_,_,.nil,r=>by cases r;exact .nil
 | i::is,_,_,.cons h t,r=>by
  cases r with
  | cons r1 r2 =>
   cases h;obtain⟨tk,rfl⟩:=r1;exact .cons _ _ (QN t r2)
theorem UB {is:List Int}{v:V}{u:Gg}(I:gS X ω σ H s)(g:gM F H)(r:iM X.K F (.tuple (is.map jc)) v)(ru:iA v u):∃ a o its n,u=.ref a/\s.heap.get? a=Ga o/\o.cls=.type "tuple"/\o.data=.seq its.toArray n/\IntsAre its is:=by
 cases r with
 | tup h q =>
  cases ru;obtain⟨its,rv,⟨o,e,c,n,d⟩,_⟩:=I.tuple (nK g h);exact⟨_,o,its,n,rfl,e,c,d,QN q rv⟩
theorem Xy {d:D}(h:Eu d=true):∃ i is,d=.tuple ((i::is).map jc):=by
 cases d with
 | tuple xs =>
  cases xs with
  | nil=>cases h
  | cons x xs =>
   have h':(ny (x::xs)).isSome=true:=h;obtain⟨is,e⟩:=qo.mp h';have e2:=DL e;cases is with
   | nil=>cases e2
   | cons i is=>exact⟨i,is,by rw[e2]⟩
 | _=>cases h
theorem zz1 {d:D}(h:Rv d=true):∃ i,d=.int i:=by cases d<;>first|exact⟨_,rfl⟩|cases h
theorem nV:∀ is:List Int,ny (is.map jc)=Ga is
 | []=>rfl
 | i::is=>by
  show(ny (is.map jc)).bind (λr=>Ga (i::r))=_;rw[nV is];rfl
theorem Sb (is js:List Int):AG (.tuple (is.map jc)) (.tuple (js.map jc))=Ga (pR is js):=by
 show(ny _).bind _=_;rw[nV];show(ny _).bind _=_;rw[nV];rfl
theorem Ck {xs:List V}{its:List Gg}{ds:List D}(rv:ip xs its)(rr:ia X.K F ds xs){i:Nat}{d:D}(e:ds[i]?=Ga d):∃ v u,iM X.K F d v/\iA v u/\its.getD i kr=u:=by
 obtain⟨v,e1,r1⟩:=rr.get e;obtain⟨u,e2,r2⟩:=rv.get e1;exact⟨v,u,r1,r2,by rw[jg,e2];rfl⟩
theorem Pu {A:Around}{xs:List V}{its:List Gg}{ds:List D}(I:gS X ω σ H s)(g:gM F H)(rv:ip xs its)(rr:ia X.K F ds xs)(h2:2<=its.length)(ok:rj ds=true){s1:Gh}(k:∀ b o,s.heap.get? b=Ga o->s1.heap.get? b=Ga o) :
  ∃ κ,(∀ Q:SortKind->Gh->Prop,Q κ s1->wpAny (model X.prog X.w) A (keyKind' its.toArray) Q (λ_ _=>False) s1)/\∀ i j b (C:Bool->Gh->Prop),xD ds i j=Ga b->C b s1->vZ X.prog X.w A κ its i j C s1:=by
 have hlen:ds.length=its.length:=rr.length.trans rv.length;have look:∀ (i j:Nat) (b:Bool),xD ds i j=Ga b->∃ d e,ds[i]?=Ga d/\ds[j]?=Ga e/\AG d e=Ga b:=λi j b h=>by
  obtain⟨d,e1,h⟩:=gL h;obtain⟨e,e2,h⟩:=gL h;exact⟨d,e,e1,e2,h⟩
 unfold rj at ok;rw[kB] at ok;rcases ok with ok|ok
 .have ai:∀ (i:Nat) (d:D),ds[i]?=Ga d->∃ n,d=jc n:=λi d e=>zz1 (jL.mp ok d (j7 e));have av:∀ v∈its,∃ n t,v=qw n t:=λv hv=>by
   obtain⟨i,hi⟩:=List.mem_iff_getElem?.mp hv;have hl:i<ds.length:=by rw[hlen];exact(jn.mp hi).1
   obtain⟨n,hn⟩:=ai i _ (ji hl);obtain⟨v',u,r1,r2,e⟩:=Ck rv rr (ji hl);rw[hn] at r1;cases r1;obtain⟨t,rfl⟩:=r2;rw[jg,hi] at e;exact⟨n,t,e⟩
  refine⟨oneType',λQ q=>PySem.W.kas_kind (T:=.type "int") h2 (λv hv=>?_) (by decide) (by decide) q,λi j b C e c=>?_⟩
  .obtain⟨n,t,rfl⟩:=av v hv;exact qV rfl
  .obtain⟨d,d2,e1,e2,e3⟩:=look i j b e;obtain⟨n,rfl⟩:=ai i d e1;obtain⟨m,rfl⟩:=ai j d2 e2;obtain⟨v1,u1,r1,r2,x1⟩:=Ck rv rr e1;obtain⟨v2,u2,r3,r4,x2⟩:=Ck rv rr e2;cases r1;cases r3;obtain⟨t,rfl⟩:=r2;obtain⟨t2,rfl⟩:=r4;unfold vZ;rw[x1,x2];cases e3;exact PySem.W.kat_lt_int c
 .have ai:∀ (i:Nat) (d:D),ds[i]?=Ga d->∃ n is,d=j3 ((n::is).map jc):=λi d e=>Xy (jL.mp ok d (j7 e));have tup:∀ (i:Nat) (d:D),ds[i]?=Ga d->∃ n is a o us k,d=j3 ((n::is).map jc)/\its.getD i kr=kP a/\s1.heap.get? a=Ga o/\o.cls=.type "tuple"/\o.data=.seq us k/\IntsAre us.toList (n::is):=λi d e=>by
   obtain⟨n,is,rfl⟩:=ai i d e;obtain⟨v,u,r1,r2,x1⟩:=Ck rv rr e;obtain⟨a,o,us,kk,rfl,e1,c,dd,hi⟩:=UB I g r1 r2;exact⟨n,is,a,o,us.toArray,kk,rfl,x1,k a o e1,c,dd,by simpa using hi⟩
  have kt:∀ (ws:List Gg) (es:List D),(∀ (i:Nat) v,ws[i]?=Ga v->∃ n is a o us kk,v=kP a/\s1.heap.get? a=Ga o/\o.cls=.type "tuple"/\o.data=.seq us kk/\IntsAre us.toList (n::is))->∃ fs,PySem.W.KatTups s1.heap ws fs/\fs.length=ws.length/\∀ v∈fs,∃ n t,v=qw n t:=by
   intro ws es;induction ws with
   | nil=>intro _;exact⟨[],.nil,rfl,λv hv=>by simp at hv⟩
   | cons v r ih =>
    intro hall;obtain⟨n,is,a,o,us,kk,rfl,e1,c,dd,hi⟩:=hall 0 v rfl;obtain⟨fs,h1,h2,h3⟩:=ih λi v e=>hall (i+1) v (by simpa using e);cases hu:us.toList with
    | nil=>rw[hu] at hi;cases hi
    | cons f fr =>
     rw[hu] at hi;cases hi with
     | cons _ t hi' =>
      have hf:us[0]?=Ga (qw n t):=by rw[<- vN,hu];rfl
      refine⟨qw n t::fs,.cons e1 c dd hf h1,by rw[jX,jX,h2],λv hv=>?_⟩;rcases jw.mp hv with rfl|hv
      .exact⟨n,t,rfl⟩
      .exact h3 v hv
  obtain⟨fs,t1,t2,t3⟩:=kt its ds λi v e=>by
   have hl:i<ds.length:=by rw[hlen];exact(jn.mp e).1
   obtain⟨n,is,a,o,us,kk,_,x1,x2⟩:=tup i _ (ji hl);rw[jg,e] at x1;exact⟨n,is,a,o,us,kk,x1,x2⟩
  refine⟨tuples' true,λQ q=>PySem.W.kat_kind (T:=.type "int") t1 (by omega) (λv hv=>?_) (by decide) q,λi j b C e c=>?_⟩
  .obtain⟨n,t,rfl⟩:=t3 v hv;exact qV rfl
  .obtain⟨d,d2,e1,e2,e3⟩:=look i j b e;obtain⟨n,is,a,o,us,kk,rfl,x1,y1,_,z1,w1⟩:=tup i d e1;obtain⟨n',is',a',o',us',kk',rfl,x2,y2,_,z2,w2⟩:=tup j d2 e2;unfold vZ;rw[x1,x2];rw[Sb] at e3;cases e3;refine PySem.W.kat_lt y1 z1 y2 z2 (QY w1 w2 (λ_=>rfl) ?_ c);have l1:=w1.length;have l2:=w2.length;rw[ki] at l1 l2;rw[l1,l2]
theorem zu8:my X (.builtin "sorted") (λvs H Q=>∃ F ds rs p xs,vs=[.ref p]/\gM F H/\lH X.K H p xs/\ia X.K F ds xs/\nt ds=Ga rs/\∀ a ys,H a=Gb->ia X.K F rs ys->Q (.ref a) (upd H a (.lst ys))):=by
 intro ω s σ H vs us Q I r h;obtain⟨F,ds,rs,p,xs,rfl,g,hl,rr,e,q⟩:=h;obtain⟨u,rfl,ru⟩:=oT r;cases ru;obtain⟨its,rv,pl,hz⟩:=I.list hl;have hlen:ds.length=its.length:=rr.length.trans rv.length;have hn:H (s.heap.objs.size+1)=Gb:=I.hok.fresh (JU _);have fin:∀ (out:List Gg) (ys:List V) (h':Heap) (c:Nat),ip ys out->out.length<=sizeLine->ia X.K F rs ys->(∀ b o,s.heap.get? b=Ga o->h'.get? b=Ga o)->h'.get? (s.heap.objs.size+1)=Ga (seqObj "list" out.toArray c) ->
   EP X ω σ Q (.ref (s.heap.objs.size+1)) { s with heap:=h' }:=λout ys h' c rvo hz2 rro k hc =>
  ⟨.ref _,_,I.laid (t':=s.toks) (o:=.lst ys) k (JU _) ⟨by rw[rvo.length];exact hz2,out,c,rvo,hc⟩,rfl,q _ ys hn rro⟩
 unfold nt at e;split at e
 .rename_i hs;cases e;refine Tv (out:=its) pl.isList (by omega) (λs1 n P E' k ho hP=>Sf ho (by omega) λh' c kk hc=>hP h' c kk hc) λh' c k hc=>fin its xs h' c rv (by rw[sizeLine_eq];omega) rr k hc
 .rename_i hs;split at e
  .rename_i ok;rw[jA,decide_eq_true_eq] at ok;obtain⟨pm,e1,e2⟩:=gL e;split at e2;rotate_left
   .cases e2
   rename_i hpm;cases e2;have h2:2<=its.length:=by omega
   rw[hlen] at e1;refine Tv (out:=pm.toList.map λi=>its.getD i kr) pl.isList (by omega) (λs1 n P E' k ho hP=>Qs ho h2 (by omega) e1 (λs2 k2=>Pu I g rv rr h2 ok.2 λb o eb=>k2 b o (jH (vI (jp eb))) (k b o eb)) λh' c kk hc=>hP h' c kk hc) λh' c k hc=>?_;refine fin _ (pm.toList.map λi=>xs.getD i .non) h' c ?_ ?_ ?_ k hc
   .have:∀ l:List Nat,ip (l.map λi=>xs.getD i V.non) (l.map λi=>its.getD i kr):=λl=>by
     induction l with
     | nil=>exact .nil
     | cons i l ih =>
      refine .cons ?_ ih;dsimp only;rw[jg,jg];cases hx:xs[i]? with
      | none=>rw[rv.none_of hx];rfl
      | some v=>obtain⟨u,e,r⟩:=rv.get hx;rw[e];exact r
    exact this _
   .rw[jd,ki,sizeLine_eq];omega
   .have:∀ l:List Nat,ia X.K F (l.map λi=>ds.getD i .none) (l.map λi=>xs.getD i V.non):=λl=>by
     induction l with
     | nil=>exact .nil
     | cons i l ih =>
      refine .cons ?_ ih;dsimp only;rw[jg,jg];cases hx:ds[i]? with
      | none =>
       have:xs[i]?=Gb:=kf (by rw[<- rr.length];exact uy.mp hx);rw[this];exact .non
      | some d=>obtain⟨v,e,r⟩:=rr.get hx;rw[e];exact r
    exact this _
  .cases e
theorem zz2 {e:Expr}{f:FL}{p pos:Pos}(hg:Gl X "sorted")(hm:X.mg "sorted"=Gb)(ha:sR X e f)(hs:starEach [e] X.env=[(false,eval e X.env)]:=by rfl):PO X (.Call (.Name "sorted" p) [e] [] pos) (λψ=>(f ψ).bind nt):=by
 refine mn (xW zu8 hg hm boot_sorted ha (hs:=hs)) λσ H Q=>?_;rintro⟨H0,F,ψ,rs,r,e,q⟩;obtain⟨ds,e1,e⟩:=gL e;refine⟨H0,F,ψ,ds,r,e1,λp xs H1 F1 g1 f1 fh1 n1 hl rr=>⟨F1,ds,rs,p,xs,rfl,fh1,hl,rr,e,λa ys ha ry=>?_⟩⟩;have s2:gM H1 (upd H1 a (.lst ys)):=gM.new ha;exact q a ys _ F1 (g1.trans s2) f1 (fh1.trans s2) n1 (g1.free ha) (fh1.free ha) ij ry
end
section
variable {X:Cx}{pos:Pos}
def wM:D->D->Option D:=tQ λi j=>.int (if j<i then j else i)
theorem cB2 {a b:Expr}{f g:FV}{p:Pos}{x:Str}{id:String}{op:Int->Int->Int}(hc:my X (.builtin id) (λxs H Q=>∃ i j,xs=[.int i,.int j]/\Q (.int (op i j)) H))(hg:Gl X x)(hm:X.mg x=Gb)(hv:bootBuiltins x=Ga (.builtin id))(ha:PV X a f)(hb:PV X b g)
  (hn:x≠"__name__":=by decide) (hdb:(x==("__debug__":Str))=false:=by decide) (hs:starEach [a,b] X.env=(false,eval a X.env)::starEach [b] X.env:=by rfl) (hs2:starEach [b] X.env=[(false,eval b X.env)]:=by rfl) :
  PV X (.Call (.Name x p) [a,b] [] pos) (λψ=>(f ψ).bind λx=>(g ψ).bind λy=>tQ (λi j=>.int (op i j)) x y):=by
 refine mn (xy hc hg hm hv (lN ha (lN hb og hs2) hs) hn hdb hs (by rw[hs2];rfl)) λσ H Q=>?_;rintro⟨H0,F,ψ,d,r,e,q⟩;obtain⟨d1,e1,e3⟩:=gL e;obtain⟨d2,e2,e4⟩:=gL e3;clear e e3;refine⟨H0,F,ψ,d1,r,e1,λv H1 F1 g1 f1 fh1 n1 rv=>⟨H0,F1,ψ,d2,r.grow g1 f1 fh1 n1,e2,λv2 H2 F2 g2 f2 fh2 n2 rv2=>?_⟩⟩;cases rv<;>first|(cases e4;done)|skip
 cases rv2<;>first|(cases e4;done)|skip
 cases e4;exact⟨_,_,rfl,q _ H2 F2 (g1.trans g2) (f1.trans f2) fh2 (n1.trans n2 g1) (.int _)⟩
theorem zD6 {a b:Expr}{f g:FV}{p:Pos}(hc:X.calm=true)(hg:Gl X "min")(hm:X.mg "min"=Gb)(ha:PV X a f)(hb:PV X b g)(hs:starEach [a,b] X.env=(false,eval a X.env)::starEach [b] X.env:=by rfl)(hs2:starEach [b] X.env=[(false,eval b X.env)]:=by rfl) :
  PV X (.Call (.Name "min" p) [a,b] [] pos) (λψ=>(f ψ).bind λx=>(g ψ).bind λy=>wM x y):=cB2 (DE hc) hg hm boot_min ha hb (hs:=hs) (hs2:=hs2)
theorem ia.rep {K:jb}{F:Hp}{ds:List D}{xs:List V}(r:ia K F ds xs):∀ n,ia K F (jU n ds).flatten (jU n xs).flatten
 | 0=>.nil
 | n+1=>by rw[kY,kY,uE,uE];exact r.append (r.rep n)
def mI (c:FB)(g:FS):Nat->FS
 | 0,_=>Gb
 | n+1,ψ=>(c (frz ψ)).bind λb=>if b then(g ψ).bind λo=>match o with
   | .nx e=>mI c g n e
   | .ct e=>mI c g n e
   | .bk e=>Ga (.nx e)
   | .rt d=>Ga (.rt d)
   | .ro ds=>Ga (.ro ds)
   | .rm a kvs=>Ga (.rm a kvs)
   | .rc d e=>Ga (.rc d e)
  else Ga (.nx ψ)
theorem Sj (n:Nat){c:Expr}{body:List Stmt}{fc:FB}{g:FS}(hp:PassesOwn (model X.prog X.w) X.A X.env X.xe)(hc:PB X c fc)(hb:oV X body g):ot X (.While c body [] pos) (mI fc g n):=by
 refine sS (DU hp hc hb) λE σ H=>?_;rintro⟨H0,F,ψ,o,r,e,p⟩;refine⟨λm σ H=>∃ F2 ψ,RS X.K H0 F2 H ψ σ/\gM F F2/\lb F F2 H0/\mI fc g m ψ=Ga o,⟨n,F,ψ,r,.refl _,.refl _ _,e⟩,?_⟩;rintro m σ' H' ⟨F2,env2,r2,f2,n2,e2⟩;cases m with
 | zero=>cases e2
 | succ m =>
  obtain⟨b,x1,x2⟩:=gL (show(fc (frz env2)).bind _=Ga o from e2);refine⟨H0,H',frz env2,b,r2.frz,x1,λH3 g3=>?_⟩;have r3:=r2.later g3;have p2:=p.mono f2 n2;cases b with
  | false =>
   cases x2;exact sv (p2 σ' H3 F2 (.refl _) (.refl _ _) r3)
  | true =>
   obtain⟨o1,x3,x4⟩:=gL (show(g env2).bind _=Ga o from x2);refine sG ⟨λσ4 H4=>∃ F4 ψ,RS X.K H0 F4 H4 ψ σ4/\gM F F4/\lb F F4 H0/\mI fc g m ψ=Ga o,λσ4 H4 h4=>⟨m,k7 _,h4⟩,H0,F2,env2,o1,r3,x3,?_⟩;cases o1 with
   | nx e5=>exact λσ6 H6 F6 f6 n6 r6=>⟨F6,e5,r6,f2.trans f6,n2.up n6,x4⟩
   | ct e5=>exact λσ6 H6 F6 f6 n6 r6=>⟨F6,e5,r6,f2.trans f6,n2.up n6,x4⟩
   | bk e5=>cases x4;exact p2
   | rt d=>cases x4;exact p2
   | ro d=>cases x4;exact p2
   | rm a d=>cases x4;exact p2
   | rc a d=>cases x4;exact p2
theorem zCc {op op':CmpOp}{r r':R2}{k k':D->D->Option D}{a b c:Expr}{f g h:FV}(ho:lU X (compareOp op) r)(ho':lU X (compareOp op') r')(hr:sV X.K r k)(hr':sV X.K r' k')(ha:PV X a f)(hb:PV X b g)(hc:PV X c h)
  (hm:lastMarks [op,op'] [b,c]=false:=by with_unfolding_all rfl) :
  PB X (.Compare a [op,op'] [b,c] pos) (λψ=>((f ψ).bind λx=>(g ψ).bind λy=>((k x y).bind lM).bind λt=>if t then(h ψ).bind λz=>k' y z else Ga (.bool false)).bind lM):=by
 refine FA (Ea ho ho' ha hb hc hm) λσ H Q=>?_;rintro⟨H0,F,ψ,bb,rs,e0,q⟩;obtain⟨d,e,eb⟩:=gL e0;cases AJ eb;obtain⟨x,e1,e⟩:=gL e;obtain⟨y,e2,e⟩:=gL e;obtain⟨t,e3,e⟩:=gL e;obtain⟨d1,e4,e5⟩:=gL e3;cases AJ e5;refine⟨H0,F,ψ,x,rs,e1,λv H1 F1 g1 f1 fh1 n1 rv=>⟨H0,F1,ψ,y,rs.grow g1 f1 fh1 n1,e2,λu H2 F2 g2 f2 fh2 n2 ru=>?_⟩⟩;refine hr F2 H2 v u x y _ _ fh2 (rv.mono f2) ru e4 λw H3 F3 g3 f3 fh3 n3 rw3=>?_;cases rw3;refine⟨t,rfl,?_⟩;have gg:gM H H3:=(g1.trans g2).trans g3;have ff:gM F F3:=(f1.trans f2).trans f3;have nn:lb F F3 H:=(n1.trans n2 g1).trans n3 (g1.trans g2);cases t with
 | true =>
  obtain⟨z,e6,e7⟩:=gL (show(h ψ).bind (λz=>k' y z)=Ga (.bool bb) from e);refine sG ⟨H0,F3,ψ,z,rs.grow gg ff fh3 nn,e6,λw4 H4 F4 g4 f4 fh4 n4 rw4=>?_⟩;refine hr' F4 H4 u w4 y z _ _ fh4 ((ru.mono f3).mono f4) rw4 e7 λw5 H5 F5 g5 f5 fh5 n5 rw5=>?_;cases rw5;exact⟨bb,rfl,q H5 ((gg.trans g4).trans g5)⟩
 | false=>cases e;exact sv ⟨false,rfl,q H3 gg⟩
end
abbrev XC (k k':D->D->Option D)(f g h:FV):FB:=λψ=>((f ψ).bind λx=>(g ψ).bind λy=>((k x y).bind lM).bind λt=>if t then(h ψ).bind λz=>k' y z else Ga (.bool false)).bind lM
abbrev Cs (f:FL):FL:=λψ=>(f ψ).bind nt
abbrev Dw (f:FL)(g:FV):FV:=λψ=>(f ψ).bind λx=>(g ψ).bind λy=>yw x y
def Ef (lo c:Int)(n:Nat):It:=⟨λi _=>i<n,λi H x H'=>H'=H/\x=.int (lo+i*c),λi _=>n<=i⟩
theorem zs9 {P:Program}{w:World}{K:jb}{tg:Expr}(it:Gj)(lo c:Int)(n:Nat):yG P w K tg (Ef lo c n) [it] it (λi h=>IsRangeIter h it (lo+(i:Nat)*c) ((n:Int)-(i:Nat)) c) where
 mem:=by simp
 obj:=λi h st b hb=>by
  cases jj.mp hb;exact⟨_,st,λv z=>by cases(show Data.fields _=Data.cell v from z)⟩
 keep:=λi h h' st k=>k it (by simp) _ st
 item:=by
  intro X hP hw hK hc i ω s σ H E I hf st hg;subst hP hw hK;obtain⟨f0,f1,f2,f3,f4,f5⟩:=hf it (by simp);refine(Walks.range (prog:=X.prog) (w:=X.w) (I.ok.hd hc) it lo c n).item i s _ _ hg st λv h' tk hv st' kk=>?_;obtain⟨t,rfl⟩:=hv;have I1:gS X ω σ H { s with heap:=h',toks:=tk }:=I.turned (λb o hb e=>kk b o (λz=>hb (jj.mp z)) e) f0 f1 f3 f4 f5;exact⟨_,rfl,zG (s:={ s with heap:=h',toks:=tk }) (n:="range_iterator") st' rfl rfl (by decide) ⟨.int (lo+i*c),H,I1,⟨t,rfl⟩,⟨rfl,rfl⟩,st',λb hb=>(hf b hb).1⟩⟩
 done:=by
  intro X hP hw hK hc i ω s σ H E I hf st hg;subst hP hw hK;obtain⟨f0,f1,f2,f3,f4,f5⟩:=hf it (by simp);exact wpAny_pyNext_range_end (I.ok.hd hc) st (by have:n<=i:=hg;omega) λh' eb=>⟨rfl,I.turned (t':=s.toks) (λb o hb e=>eb b o hb e) f0 f1 f3 f4 f5⟩
 self:=λ_ _ _ _ _ st h=>wpAny_pyIter_rangeiter st h
def wL (lo c:Int)(n:Nat):List D:=(je n).map λk=>.int (lo+(k:Nat)*c)
theorem ztA {K:jb}{F:Hp}{lo c:Int}{n:Nat}:pY K (Ef lo c n) F (wL lo c n):=by
 intro H g i;refine⟨λhi=>(by rw[wL,jd,jD] at hi;exact hi:n<=i),λd hd=>?_⟩;have hi:i<n:=by have:=(jn.mp hd).1;rw[wL,jd,jD] at this;exact this
 refine⟨hi,λx H' y=>?_⟩;obtain⟨rfl,rfl⟩:=y;have:d=.int (lo+(i:Nat)*c):=by
  have h2:(wL lo c n)[i]?=Ga (.int (lo+(i:Nat)*c)):=by rw[wL,jC,kN hi];rfl
  rw[h2] at hd;exact(jJ hd).symm
 subst this;exact⟨.refl _,F,.refl _,g,.refl _ _,.int _⟩
def wD:D->D->D->Option (List D)
 | .int a,.int b,.int c=>if (v4 a b c&&decide (0<c)&&decide (c<1000000))=true then Ga (wL a c (jQ a b c).toNat) else Gb
 | _,_,_=>Gb
abbrev Ov (op:D->D->D->Option (List D))(f g h:FV):FL:=λψ=>(f ψ).bind λx=>(g ψ).bind λy=>(h ψ).bind λz=>op x y z
section
variable {X:Cx}{tg:Expr}{pos:Pos}
theorem zw2 {a b c:Int}(hc:0<c):(((jQ a b c).toNat:Nat):Int)=jQ a b c:=by
 unfold jQ;rw[Ge hc];split
 .rename_i h;have:0<=(b-a-1)/c:=Int.ediv_nonneg (by omega) (by omega);omega
 .rfl
theorem zD7 {a b c:Expr}{f g h:FV}{p:Pos}(hg:Gl X "range")(hm:X.mg "range"=Gb)(ha:PV X a f)(hb:PV X b g)(hc:PV X c h)(hs:starEach [a,b,c] X.env=(false,eval a X.env)::starEach [b,c] X.env:=by rfl)(hs2:starEach [b,c] X.env=(false,eval b X.env)::starEach [c] X.env:=by rfl)
  (hs3:starEach [c] X.env=[(false,eval c X.env)]:=by rfl):Ab X tg (.Call (.Name "range" p) [a,b,c] [] pos) (Ov wD f g h):=by
 intro ω s σ H R I hw;obtain⟨H0,F,ψ,ds,r,e,q⟩:=hw;obtain⟨d1,e1,x2⟩:=gL e;obtain⟨d2,e2,x3⟩:=gL x2;obtain⟨d3,e3,x4⟩:=gL x3;clear e x2 x3;refine Call_ (re I hg hm boot_range (PyProof.Rows.callWith_type1 (iR (lN ha (lN hb (lN hc og hs3) hs2) hs pos ω s σ H (λvs H2=>∃ lo hi st:Int,vs=[.int lo,.int hi,.int st]/\v4 lo hi st=true/\0<st/\st<1000000/\R (Ef lo st (jQ lo hi st).toNat) H2) I
  ⟨H0,F,ψ,d1,r,e1,λv H1 F1 g1 f1 fh1 n1 rv=>⟨H0,F1,ψ,d2,r.grow g1 f1 fh1 n1,e2,λv2 H2 F2 g2 f2 fh2 n2 rv2=>⟨H0,F2,ψ,d3,(r.grow g1 f1 fh1 n1).grow g2 f2 fh2 n2,e3,λv3 H3 F3 g3 f3 fh3 n3 rv3=>?_⟩⟩⟩) λus s1 ⟨vs,H2,I2,rvs,lo,hi,st,ev,h1,h2,h3,hR⟩=>?_) hs (by rw[hs2,hs3];rfl)))
 .cases rv<;>first|(cases x4;done)|skip
  cases rv2<;>first|(cases x4;done)|skip
  cases rv3<;>first|(cases x4;done)|skip
  rename_i lo hi st;unfold wD at x4;dsimp only at x4;split at x4
  .rename_i cnd;cases x4;simp only[jA,decide_eq_true_eq] at cnd;exact⟨lo,hi,st,rfl,cnd.1.1,cnd.1.2,cnd.2,q _ H3 F3 ((g1.trans g2).trans g3) ((f1.trans f2).trans f3) fh3 ((n1.trans n2 g1).trans n3 (g1.trans g2)) λF2 f2=>ztA⟩
  .cases x4
 .subst ev;cases rvs with
  | cons ra rb =>
   cases rb with
   | cons rb rc =>
    cases rc with
    | cons rc rd =>
     cases rd;obtain⟨t1,rfl⟩:=ra;obtain⟨t2,rfl⟩:=rb;obtain⟨t3,rfl⟩:=rc;refine call_range_3 (by omega) ?_ (k8 (PyProof.noPylong_small (by omega)));refine wpAny_pyIter_range (IsRange.new ..) h1 ?_;have I3:gS X ω σ H2 { s1 with heap:=s1.heap.push { cls:=.type "range",data:=.fields #[.int lo t1,.int hi t2,.int st t3] },toks:=s1.toks }:=I2.kept λb o e=>jf _ e;refine⟨(s1.heap.push { cls:=.type "range",data:=.fields #[.int lo t1,.int hi t2,.int st t3] }).objs.size,[(s1.heap.push { cls:=.type "range",data:=.fields #[.int lo t1,.int hi t2,.int st t3] }).objs.size],_,_,H2,rfl,I3.kept (t':=s1.toks) λb o e=>jf _ e,zs9 _ lo st (jQ lo hi st).toNat,?_,λb hb=>?_,hR⟩
     .have z1:lo+((0:Nat):Int)*st=lo:=by rw[qy,Int.zero_mul,Int.add_zero]
      have z2:(((jQ lo hi st).toNat:Nat):Int)-((0:Nat):Int)=jQ lo hi st:=by rw[zw2 h2];omega
      show IsRangeIter _ _ (lo+((0:Nat):Int)*st) ((((jQ lo hi st).toNat:Nat):Int)-((0:Nat):Int)) st;rw[z1,z2];exact jy _ rfl
     .cases jj.mp hb;exact I3.fpOk (jm _) (I3.hok.fresh (jm _))
end
theorem SS {t:FT}{g:FS}(I:En->Prop):∀ {ds:List D} {ψ:En},I ψ->(∀ d∈ds,∀ ψ,I ψ->∃ e1 e2,t d ψ=Ga e1/\g e1=Ga (.nx e2)/\I e2)->∃ e,iV t g ds ψ=Ga (.nx e)/\I e
 | [],ψ,h,_=>⟨ψ,rfl,h⟩
 | x::r,ψ,h,st=>by
  obtain⟨e1,e2,q1,q2,q3⟩:=st x jh ψ h;obtain⟨e,z1,z2⟩:=SS I (ds:=r) q3 (λd hd=>st d (jo _ hd));refine⟨e,?_,z2⟩;unfold iV;rw[q1,jv,q2];exact z1
def AN (n:Nat):qG (Array Nat)->Bool
 | .ret p=>p.toList.isPerm (je n)
 | .ask i j k=>decide (i<n)&&decide (j<n)&&AN n (k true)&&AN n (k false)
theorem zz3:∀ n<7,AN n (uu n)=true:=by nofun
theorem Da {xs:List D}{j:Nat}{v:D}(h:xs[j]?=Ga v):atI xs (j:Int)=Ga v:=atI_nat h
theorem tX {n:Nat}(h:n<1000000):la (.int (n:Int))=Ga (lX 0 n):=by
 unfold la;dsimp only;rw[Ge (by constructor<;>omega),j5]
theorem rP (n:Nat):lX 0 n=(je n).map λ(k:Nat)=>jc (k:Int):=by
 unfold lX;apply jR;intro k _;rw[v8]
theorem zd (lo:Int)(n:Nat):(lX lo n).length=n:=by unfold lX;rw[jd,jD]
theorem wT {i j:Int}(h:0<j):lQ (.int i) (.int j)=Ga (.int (i%j)):=by
 show(if decide (0<j) then _ else _)=_;rw[Ge (Gc h)]
theorem AU {i j:Int}(h:0<j)(h2:j<1073741824):nw (.int i) (.int j)=Ga (.int (i/j)):=by
 show(if decide (0<j)&&decide (j<1073741824) then _ else _)=_;rw[Gc h,Gc h2];rfl
theorem MA {i j:Int}(h:tZ i j=true):nk (.int i) (.int j)=Ga (.int (i*j)):=by
 show(if tZ i j then _ else _)=_;rw[Ge h]
abbrev FP:=En->Option (Option Int)
def ZZ (K:jb)(f:FP):TO:=λσ H Q=>∃ H0 F ψ o,RS K H0 F H ψ σ/\f ψ=Ga o/\∀ H' F',gM H H'->gM F F'->gM F' H'->lb F F' H->Q o H'
abbrev EE (X:Cx)(e:Option Expr)(f:FP):Prop:=L2.PO X e (ZZ X.K f)
abbrev EN:FP:=λ_=>Ga Gb
def FG:D->Option (Option Int)
 | .int i=>Ga (Ga i)
 | _=>Gb
abbrev se (f:FV):FP:=λψ=>(f ψ).bind FG
def pS (xs:List D)(lo hi:Option Int):List D:=(xs.drop (HT.sIx xs.length 0 lo)).take (HT.sIx xs.length xs.length hi-HT.sIx xs.length 0 lo)
def sP:D->Option Int->Option Int->Option D
 | .list xs,lo,hi=>Ga (.list (pS xs lo hi))
 | .tuple xs,lo,hi=>if HT.sIx xs.length 0 lo=0/\HT.sIx xs.length xs.length hi=xs.length then Gb else Ga (.tuple (pS xs lo hi))
 | _,_,_=>Gb
theorem ia.cut {K:jb}{F:Hp}{ds:List D}{xs:List V}(r:ia K F ds xs)(lo hi:Option Int):ia K F (pS ds lo hi) (sE xs lo hi):=by
 unfold pS sE;rw[r.length];exact(r.drop _).take _
section
variable {X:Cx}{pos p2:Pos}
theorem wg:EE X Gb EN:=by
 intro ω s σ H Q I h;obtain⟨H0,F,ψ,o,r,e,q⟩:=h;cases e;exact GX ω s σ H Q I (q H F (.refl _) (.refl _) r.fh (.refl _ _))
theorem rO {e:Expr}{f:FV}(h:PV X e f):EE X (Ga e) (se f):=by
 intro ω s σ H Q I hw;obtain⟨H0,F,ψ,o,r,e1,q⟩:=hw;obtain⟨d,e2,e3⟩:=gL e1;refine Hc h ω s σ H Q I ⟨H0,F,ψ,d,r,e2,λv H' F' g1 f1 fh1 n1 rv=>?_⟩;cases rv<;>first|(cases e3;done)|skip
 cases e3;exact⟨_,rfl,q H' F' g1 f1 fh1 n1⟩
theorem sQ {a:Expr}{lo hi:Option Expr}{f:FV}{g h:FP}(ha:PV X a f)(hl:EE X lo g)(hh:EE X hi h):PV X (.Subscript a (.Slice lo hi Gb p2) pos) (λψ=>(f ψ).bind λx=>(g ψ).bind λl=>(h ψ).bind λu=>sP x l u):=by
 refine mn (Ek (He.or Hh) ha hl hh) λσ H Q=>?_;rintro⟨H0,F,ψ,d,r,e,q⟩;obtain⟨x,e1,e4⟩:=gL e;obtain⟨l,e2,e5⟩:=gL e4;obtain⟨u,e3,e6⟩:=gL e5;clear e e4 e5;refine⟨H0,F,ψ,x,r,e1,λv H1 F1 g1 f1 fh1 n1 rv=>⟨H0,F1,ψ,l,r.grow g1 f1 fh1 n1,e2,λH2 F2 g2 f2 fh2 n2=>⟨H0,F2,ψ,u,(r.grow g1 f1 fh1 n1).grow g2 f2 fh2 n2,e3,λH3 F3 g3 f3 fh3 n3=>?_⟩⟩⟩;have rv3:=rv.mono (f2.trans f3);cases rv3<;>first|(cases e6;done)|skip
 case lst a xs ds h1 h2 =>
  cases e6;refine k8 ⟨a,xs,rfl,fh3.seq h1,λp hp=>?_⟩;obtain⟨s1,s2,s3,s4⟩:=xQ (o:=.lst (sE xs l u)) fh3 hp;exact q _ _ _ (((g1.trans g2).trans g3).trans s1) (((f1.trans f2).trans f3).trans s2) s3 (((n1.trans n2 g1).trans n3 (g1.trans g2)).trans s4 ((g1.trans g2).trans g3)) (.lst (lH.of ij) ((h2.cut l u).mono s2))
 case tup a xs ds h1 h2 =>
  unfold sP at e6;dsimp only at e6;split at e6
  .cases e6
  .rename_i hw;cases e6;refine kJ ⟨a,xs,rfl,nK fh3 h1,by rw[<- h2.length];exact hw,λp hp=>?_⟩;obtain⟨s1,s2,s3,s4⟩:=xQ (o:=.tup (sE xs l u)) fh3 hp;exact q _ _ _ (((g1.trans g2).trans g3).trans s1) (((f1.trans f2).trans f3).trans s2) s3 (((n1.trans n2 g1).trans n3 (g1.trans g2)).trans s4 ((g1.trans g2).trans g3)) (.tup (mU.of ij) ((h2.cut l u).mono s2))
end
abbrev zM (f:FV)(g h:FP):FV:=λψ=>(f ψ).bind λx=>(g ψ).bind λl=>(h ψ).bind λu=>sP x l u
section
variable {X:Cx}{pos:Pos}
end
def DZ:List Int->Option Int
 | []=>Gb
 | i::r=>Ga (r.foldl (λa b=>if b<a then b else a) i)
def Cm:List Int->Option Int
 | []=>Gb
 | i::r=>Ga (r.foldl (λa b=>if a<b then b else a) i)
def yf (ds:List D):Option D:=(ny ds).bind λis=>(DZ is).bind λm=>Ga (.int m)
def tm (ds:List D):Option D:=(ny ds).bind λis=>(Cm is).bind λm=>Ga (.int m)
theorem AS:∀ (r:List Int) (i:Int),(r.foldl (λa b=>if b<a then b else a) i=i\/r.foldl (λa b=>if b<a then b else a) i∈r)/\r.foldl (λa b=>if b<a then b else a) i<=i/\∀ a∈r,r.foldl (λa b=>if b<a then b else a) i<=a
 | [],i=>⟨.inl rfl,ur _,λa h=>by cases h⟩
 | b::r,i=>by
  obtain⟨h1,h2,h3⟩:=AS r (if b<i then b else i);rw[uB];refine⟨?_,?_,λa ha=>?_⟩
  .rcases h1 with z|z
   .by_cases hb:b<i
    .rw[Ge hb] at z ⊢;exact .inr (by rw[z];exact jh)
    .rw[Gf hb] at z ⊢;exact .inl z
   .exact .inr (jo _ z)
  .refine qH h2 ?_;split
   .rename_i hb;exact Int.le_of_lt hb
   .exact ur _
  .rcases jw.mp ha with rfl|ha
   .refine qH h2 ?_;split
    .exact ur _
    .rename_i hb;exact Int.not_lt.mp hb
   .exact h3 a ha
theorem Bg:∀ (r:List Int) (i:Int),(r.foldl (λa b=>if a<b then b else a) i=i\/r.foldl (λa b=>if a<b then b else a) i∈r)/\i<=r.foldl (λa b=>if a<b then b else a) i/\∀ a∈r,a<=r.foldl (λa b=>if a<b then b else a) i
 | [],i=>⟨.inl rfl,ur _,λa h=>by cases h⟩
 | b::r,i=>by
  obtain⟨h1,h2,h3⟩:=Bg r (if i<b then b else i);rw[uB];refine⟨?_,?_,λa ha=>?_⟩
  .rcases h1 with z|z
   .by_cases hb:i<b
    .rw[Ge hb] at z ⊢;exact .inr (by rw[z];exact jh)
    .rw[Gf hb] at z ⊢;exact .inl z
   .exact .inr (jo _ z)
  .refine qH ?_ h2;split
   .rename_i hb;exact Int.le_of_lt hb
   .exact ur _
  .rcases jw.mp ha with rfl|ha
   .refine qH ?_ h2;split
    .exact ur _
    .rename_i hb;exact Int.not_lt.mp hb
   .exact h3 a ha
theorem zw4 {is:List Int}{m:Int}(h:DZ is=Ga m):m∈is/\∀ a∈is,m<=a:=by
 cases is with
 | nil=>cases h
 | cons i r =>
  cases h;obtain⟨h1,h2,h3⟩:=AS r i;refine⟨?_,λa ha=>?_⟩
  .rcases h1 with z|z
   .rw[z];exact jh
   .exact jo _ z
  .rcases jw.mp ha with rfl|ha
   .exact h2
   .exact h3 a ha
theorem zw5 {is:List Int}{m:Int}(h:Cm is=Ga m):m∈is/\∀ a∈is,a<=m:=by
 cases is with
 | nil=>cases h
 | cons i r =>
  cases h;obtain⟨h1,h2,h3⟩:=Bg r i;refine⟨?_,λa ha=>?_⟩
  .rcases h1 with z|z
   .rw[z];exact jh
   .exact jo _ z
  .rcases jw.mp ha with rfl|ha
   .exact h2
   .exact h3 a ha
section
variable {X:Cx}{pos:Pos}
theorem zw6 (hc:X.calm=true):my X (.builtin "min") (λxs H Q=>∃ (p:Gj) (is:List Int) (m:Int),xs=[.ref p]/\lH X.K H p (is.map V.int)/\DZ is=Ga m/\Q (.int m) H):=by
 intro ω s σ H xs us Q I r h;obtain⟨p,is,m,rfl,hl,hm,q⟩:=h;obtain⟨hm,hle⟩:=zw4 hm;obtain⟨u,rfl,ru⟩:=oT r;cases ru;obtain⟨its,rv,pl,hz⟩:=I.list hl;have hi:IntsAre its is:=sZ rv;obtain⟨ys,ey⟩:=hi.allInts.items;have en:is=ys.toList.map (·.1):=hi.numsOf.symm.trans (by rw[<- nums_intItems,<- ey]);have el:is.length=ys.size:=by rw[en,jd,ki]
 have hne:0<ys.size:=by rw[<- el];exact vK hm
 have hl':s.heap.IsList p (intItems ys):=by rw[<- ey];exact pl.isList
 refine min_intList (I.ok.hd hc) hl' hne λv h' tk hv hk=>?_;obtain⟨t,rfl⟩:=intItems_at hv;obtain⟨b1,b2⟩:=argBest_lt (numAt ys) (ys.size-1);have mem:numAt ys (argBest (λi j=>decide (numAt ys i<numAt ys j)) (ys.size-1))∈is:=by rw[numAt_eq,<- en];exact JY (by omega)
 have le:numAt ys (argBest (λi j=>decide (numAt ys i<numAt ys j)) (ys.size-1))<=m:=by
  obtain⟨j,hj,ej⟩:=JZ hm;have:=b2 j (by omega);rw[numAt_eq ys j,<- en,ej] at this;exact this
 exact⟨.int m,H,I.kept hk,⟨t,by rw[Int.le_antisymm le (hle _ mem)]⟩,q⟩
theorem zw7 (hc:X.calm=true):my X (.builtin "max") (λxs H Q=>∃ (p:Gj) (is:List Int) (m:Int),xs=[.ref p]/\lH X.K H p (is.map V.int)/\Cm is=Ga m/\Q (.int m) H):=by
 intro ω s σ H xs us Q I r h;obtain⟨p,is,m,rfl,hl,hm,q⟩:=h;obtain⟨hm,hle⟩:=zw5 hm;obtain⟨u,rfl,ru⟩:=oT r;cases ru;obtain⟨its,rv,pl,hz⟩:=I.list hl;have hi:IntsAre its is:=sZ rv;obtain⟨ys,ey⟩:=hi.allInts.items;have en:is=ys.toList.map (·.1):=hi.numsOf.symm.trans (by rw[<- nums_intItems,<- ey]);have el:is.length=ys.size:=by rw[en,jd,ki]
 have hne:0<ys.size:=by rw[<- el];exact vK hm
 have hl':s.heap.IsList p (intItems ys):=by rw[<- ey];exact pl.isList
 refine max_intList (I.ok.hd hc) hl' hne λv h' tk hv hk=>?_;obtain⟨t,rfl⟩:=intItems_at hv;obtain⟨b1,b2⟩:=argBest_gt (numAt ys) (ys.size-1);have mem:numAt ys (argBest (λi j=>decide (numAt ys i>numAt ys j)) (ys.size-1))∈is:=by rw[numAt_eq,<- en];exact JY (by omega)
 have le:m<=numAt ys (argBest (λi j=>decide (numAt ys i>numAt ys j)) (ys.size-1)):=by
  obtain⟨j,hj,ej⟩:=JZ hm;have:=b2 j (by omega);rw[numAt_eq ys j,<- en,ej] at this;exact this
 exact⟨.int m,H,I.kept hk,⟨t,by rw[Int.le_antisymm (hle _ mem) le]⟩,q⟩
theorem Wv {p:Pos}{e:Expr}{fl:FL}(hc:X.calm=true)(hg:Gl X "min")(hm:X.mg "min"=Gb)(ha:sR X e fl)(hs:starEach [e] X.env=[(false,eval e X.env)]:=by rfl) :
  PV X (.Call (.Name "min" p) [e] [] pos) (sO yf fl):=by
 refine mn (xW (zw6 hc) hg hm boot_min ha (hs:=hs)) λσ H Q=>?_;rintro⟨H0,F,ψ,d,r,e,q⟩;obtain⟨ds,e1,e⟩:=gL e;obtain⟨is,e2,e⟩:=gL e;obtain⟨m,e3,e⟩:=gL e;cases e;refine⟨H0,F,ψ,ds,r,e1,λp xs H1 F1 g1 f1 fh1 n1 hl rr=>⟨p,is,m,rfl,?_,e3,q _ H1 F1 g1 f1 fh1 n1 (.int _)⟩⟩;rw[DL e2] at rr;rw[<- rr.ints_inv];exact hl
theorem Pr {p:Pos}{e:Expr}{fl:FL}(hc:X.calm=true)(hg:Gl X "max")(hm:X.mg "max"=Gb)(ha:sR X e fl)(hs:starEach [e] X.env=[(false,eval e X.env)]:=by rfl) :
  PV X (.Call (.Name "max" p) [e] [] pos) (sO tm fl):=by
 refine mn (xW (zw7 hc) hg hm boot_max ha (hs:=hs)) λσ H Q=>?_;rintro⟨H0,F,ψ,d,r,e,q⟩;obtain⟨ds,e1,e⟩:=gL e;obtain⟨is,e2,e⟩:=gL e;obtain⟨m,e3,e⟩:=gL e;cases e;refine⟨H0,F,ψ,ds,r,e1,λp xs H1 F1 g1 f1 fh1 n1 hl rr=>⟨p,is,m,rfl,?_,e3,q _ H1 F1 g1 f1 fh1 n1 (.int _)⟩⟩;rw[DL e2] at rr;rw[<- rr.ints_inv];exact hl
def pD:List D->Option (List Bool)
 | []=>Ga []
 | .bool b::r=>(pD r).bind λbs=>Ga (b::bs)
 | _=>Gb
theorem LO:∀ {ds:List D} {bs:List Bool},pD ds=Ga bs->ds=bs.map jP
 | [],bs,h=>by cases h;rfl
 | .bool b::r,bs,h=>by
  obtain⟨cs,e1,e2⟩:=gL (show(pD r).bind (λbs=>Ga (b::bs))=Ga bs from h);cases e2;rw[LO e1];rfl
 | .none::_,_,h=>by cases h
 | .int _::_,_,h=>by cases h
 | .str _::_,_,h=>by cases h
 | .list _::_,_,h=>by cases h
 | .tuple _::_,_,h=>by cases h
 | .dict _::_,_,h=>by cases h
theorem ox:∀ bs:List Bool,pD (bs.map jP)=Ga bs
 | []=>rfl
 | b::r=>by show(pD (r.map jP)).bind _=_;rw[ox r];rfl
theorem ia.bools_inv {K:jb}{F:Hp}:∀ {bs:List Bool} {vs:List V},ia K F (bs.map jP) vs->vs=bs.map V.bl
 | [],_,h=>by cases h;rfl
 | b::r,_,h=>by
  cases h with
  | cons h t=>cases h;rw[ia.bools_inv t];rfl
def su (ds:List D):Option D:=(pD ds).bind λbs=>Ga (.bool (bs.all id))
def Co (ds:List D):Option D:=(pD ds).bind λbs=>Ga (.bool (bs.any id))
theorem ZO (bs:List Bool):(je bs.length).all (λi=>bs.getD i false)=bs.all id:=by
 rw[jV,jL,jL];constructor
 .intro h x hx;obtain⟨i,hi,rfl⟩:=vm hx;have:=h i (jk.mpr hi);rw[jg,ji hi] at this;exact this
 .intro h i hi;have hi:=jk.mp hi;rw[jg,ji hi];exact h _ (k9 hi)
theorem zw9 (bs:List Bool):(je bs.length).any (λi=>bs.getD i false)=bs.any id:=by
 rw[jV,uv,uv];constructor
 .rintro⟨i,hi,h⟩;have hi:=jk.mp hi;rw[jg,ji hi] at h;exact⟨_,k9 hi,h⟩
 .rintro⟨x,hx,h⟩;obtain⟨i,hi,rfl⟩:=vm hx;exact⟨i,jk.mpr hi,by rw[jg,ji hi];exact h⟩
theorem Py {bs:List Bool}{its:List Gg}(rv:ip (bs.map V.bl) its):∀ (i:Nat) (v:Gg),its.toArray[i]?=Ga v->v=uP (bs.getD i false):=by
 intro i v hv;have hv':its[i]?=Ga v:=by simpa using hv
 have hlen:(bs.map V.bl).length=its.length:=rv.length;have:i<its.length:=(jn.mp hv').1;have hk:i<bs.length:=by rw[jd] at hlen;omega
 obtain⟨w',e1,e2⟩:=rv.get (i:=i) (x:=.bl bs[i]) (by rw[jC,ji hk];rfl);rw[hv'] at e1;cases e1;cases e2;rw[jg,ji hk];rfl
theorem zxA (hc:X.calm=true):my X (.builtin "all") (λxs H Q=>∃ (p:Gj) (bs:List Bool),xs=[.ref p]/\lH X.K H p (bs.map V.bl)/\Q (.bl (bs.all id)) H):=by
 intro ω s σ H xs us Q I r h;obtain⟨p,bs,rfl,hl,q⟩:=h;obtain⟨u,rfl,ru⟩:=oT r;cases ru;obtain⟨its,rv,pl,hz⟩:=I.list hl;have hp:p<s.heap.objs.size:=by obtain⟨o,n,e,_⟩:=pl;exact jp e
 refine call_all_walk (wpAny_pyIter_list pl.isList ⟨s.heap.objs.size,[s.heap.objs.size,p],[s.heap.objs.size],_,_,_,λj=>bs.getD j false,rfl,Walks.list (show X.A.in1.handled=Gb from I.ok.hd hc) _ p (jH hp) its.toArray,⟨⟨_,jy _ rfl,rfl,rfl⟩,?_⟩,?_,?_⟩)
 .obtain⟨o,n,e,c,_,d⟩:=pl;exact⟨o,jf _ e,c,n,d⟩
 .intro i v s1 Q1 E1 hv hQ;rw[Py rv i v hv];exact wpAny_truthy_bool hQ
 .intro h' tk hk;have el:its.toArray.size=bs.length:=by rw[jl,<- rv.length,jd]
  rw[el,ZO];refine⟨.bl (bs.all id),H,I.kept λb o e=>hk b o ?_ (jf _ e),rfl,q⟩;intro z;cases jj.mp z;exact absurd (jp e) (jY _)
theorem Xw (hc:X.calm=true):my X (.builtin "any") (λxs H Q=>∃ (p:Gj) (bs:List Bool),xs=[.ref p]/\lH X.K H p (bs.map V.bl)/\Q (.bl (bs.any id)) H):=by
 intro ω s σ H xs us Q I r h;obtain⟨p,bs,rfl,hl,q⟩:=h;obtain⟨u,rfl,ru⟩:=oT r;cases ru;obtain⟨its,rv,pl,hz⟩:=I.list hl;have hp:p<s.heap.objs.size:=by obtain⟨o,n,e,_⟩:=pl;exact jp e
 refine call_any_walk (wpAny_pyIter_list pl.isList ⟨s.heap.objs.size,[s.heap.objs.size,p],[s.heap.objs.size],_,_,_,λj=>bs.getD j false,rfl,Walks.list (show X.A.in1.handled=Gb from I.ok.hd hc) _ p (jH hp) its.toArray,⟨⟨_,jy _ rfl,rfl,rfl⟩,?_⟩,?_,?_⟩)
 .obtain⟨o,n,e,c,_,d⟩:=pl;exact⟨o,jf _ e,c,n,d⟩
 .intro i v s1 Q1 E1 hv hQ;rw[Py rv i v hv];exact wpAny_truthy_bool hQ
 .intro h' tk hk;have el:its.toArray.size=bs.length:=by rw[jl,<- rv.length,jd]
  rw[el,zw9];refine⟨.bl (bs.any id),H,I.kept λb o e=>hk b o ?_ (jf _ e),rfl,q⟩;intro z;cases jj.mp z;exact absurd (jp e) (jY _)
theorem KY {p:Pos}{e:Expr}{fl:FL}(hc:X.calm=true)(hg:Gl X "all")(hm:X.mg "all"=Gb)(ha:sR X e fl)(hs:starEach [e] X.env=[(false,eval e X.env)]:=by rfl) :
  PV X (.Call (.Name "all" p) [e] [] pos) (sO su fl):=by
 refine mn (xW (zxA hc) hg hm boot_all ha (hs:=hs)) λσ H Q=>?_;rintro⟨H0,F,ψ,d,r,e,q⟩;obtain⟨ds,e1,e⟩:=gL e;obtain⟨bs,e2,e⟩:=gL e;cases e;refine⟨H0,F,ψ,ds,r,e1,λp xs H1 F1 g1 f1 fh1 n1 hl rr=>⟨p,bs,rfl,?_,q _ H1 F1 g1 f1 fh1 n1 (.bl _)⟩⟩;rw[LO e2] at rr;rw[<- rr.bools_inv];exact hl
theorem zGk {p:Pos}{e:Expr}{fl:FL}(hc:X.calm=true)(hg:Gl X "any")(hm:X.mg "any"=Gb)(ha:sR X e fl)(hs:starEach [e] X.env=[(false,eval e X.env)]:=by rfl) :
  PV X (.Call (.Name "any" p) [e] [] pos) (sO Co fl):=by
 refine mn (xW (Xw hc) hg hm boot_any ha (hs:=hs)) λσ H Q=>?_;rintro⟨H0,F,ψ,d,r,e,q⟩;obtain⟨ds,e1,e⟩:=gL e;obtain⟨bs,e2,e⟩:=gL e;cases e;refine⟨H0,F,ψ,ds,r,e1,λp xs H1 F1 g1 f1 fh1 n1 hl rr=>⟨p,bs,rfl,?_,q _ H1 F1 g1 f1 fh1 n1 (.bl _)⟩⟩;rw[LO e2] at rr;rw[<- rr.bools_inv];exact hl
abbrev Eb:FS:=λ_=>Gb
theorem EC {st:Stmt}:ot X st Eb:=by
 intro ω s σ H D I hw;obtain⟨H0,F,ψ,o,r,e,p⟩:=hw;cases e
end
section
variable {X:Cx}{tg:Expr}{pos:Pos}
end
section
variable {prog:Program}{w:World}{A:Around}{E:Gg->Gh->Prop}{s:Gh}
theorem zvA:typeLookup (.type "list_reverseiterator") "__len__"=pure Gb:=by rw[typeLookup_type,builtinLookup_eq_fast];kernel_rfl
theorem zz4:typeLookup (.type "list_reverseiterator") "__length_hint__"=pure (Ga (.builtin "list_reverseiterator.__length_hint__")):=by rw[typeLookup_type,builtinLookup_eq_fast];kernel_rfl
theorem XY {x:Gj}{Q:Bool->Gh->Prop}(hT:s.TypeIs (.ref x) "list_reverseiterator")(hQ:Q false s):wpAny (model prog w) A (kQ (.ref x)) Q E s:=by
 unfold kQ;refine gI (wpAny_specialOf hT zvA ?_);show wpAny _ _ (specialOf (kP x) (jE "__length_hint__") >>= _) _ _ _;refine gI (wpAny_specialOf hT zz4 ?_);generalize hid:("list_reverseiterator.__length_hint__":String)=id0
 wp_delta
 rw[show splitId id0=Ga ("list_reverseiterator","__length_hint__") from by subst hid;decide +kernel];subst hid;refine gI (wpAny_isInstance (T:="list_reverseiterator") (b:=true) hT (by rw[isSubtype_type];kernel_rfl) ?_);refine wpAny_ite_split (λz=>absurd z (by decide)) λ_=>?_;refine wpAny_ite_split (λ_=>?_) λz=>absurd (by nofun) z;refine wpAny_ite_split (λz=>absurd z (by nofun)) λ_=>?_;exact gJ hQ
theorem zCf {I:Gj}{fp wr:List Gj}{n:Nat}{P:Nat->Gg->Prop}{St:Nat->Heap->Prop}{Q:Gg->Gh->Prop}
  (W:Walks prog w A.in1.in1 I fp wr n P St) (hT:∀ i (s:Gh),St i s.heap->s.TypeIs (.ref I) "list_reverseiterator")
  (hint:∀ (s1:Gh) (Q1:Bool->Gh->Prop) (E1:Gg->Gh->Prop),s1.TypeIs (.ref I) "list_reverseiterator"->Q1 false s1->wpAny (model prog w) A.in1.in1 (kQ (.ref I)) Q1 E1 s1)
  (st0:St 0 s.heap) (hfp:s.heap.objs.size∉fp) (hI:I∈fp) (hn:n<=sizeLine)
  (hQ:∀ h' tk acc c,(∀ b o,b∉wr->s.heap.get? b=Ga o->h'.get? b=Ga o)->h'.get? s.heap.objs.size=Ga { cls:=.type "list",data:=.seq acc c }->ItemsOf P acc n->Q (.ref s.heap.objs.size) { s with heap:=h',toks:=tk }) :
  wpAny (model prog w) A (call (.type "list") [.ref I]) Q E s:=by
 have W':=W.toS;refine callType_codes (Q₁:=λob s1=>ob=kP s.heap.objs.size/\s1={ s with heap:=s.heap.push { cls:=.type "list",data:=.seq #[] } }) F.called_list (F.typeCall_list_1 _) F.entry_list_init (code_list_new _ ⟨rfl,rfl⟩) λob s1 z=>?_;obtain⟨rfl,rfl⟩:=z;have n0:(s.heap.push { cls:=.type "list",data:=.seq #[] }).get? s.heap.objs.size=Ga { cls:=.type "list",data:=.seq #[] }:=jy _ rfl;have nI:s.heap.objs.size≠I:=λz=>hfp (z▸hI);refine⟨⟨_,n0,rfl⟩,F.args_list_init_2 _ _,?_⟩;show wpAny _ _ (uU (.ref s.heap.objs.size) >>= λold=>qz (.ref s.heap.objs.size) (λ_=>#[]) >>= λ_=>letGo old.toList.reverse >>= λ_=>j4 (.ref s.heap.objs.size) (.ref I) .none) _ _ _;refine gI ?_;unfold uU;refine gI (wpAny_seqItems n0 rfl (gJ ?_));show wpAny _ _ (updateSeq s.heap.objs.size (λ_=>#[]) >>= λ_=>letGo (#[]:Array Gg).toList.reverse >>= λ_=>j4 (.ref s.heap.objs.size) (.ref I) .none) _ _ _;refine gI (wpAny_updateSeq n0 rfl ?_);have n1:=ux (kg (λ_=>(#[]:Array Gg))) n0 rfl;have kp:∀ b o,s.heap.get? b=Ga o->((s.heap.push { cls:=.type "list",data:=.seq #[] }).update s.heap.objs.size (kg (λ_=>(#[]:Array Gg)))).get? b=Ga o:=λb o e =>
  (kW _ _ (uo (jH (jp e)))).trans (jf _ e)
 have st1:=W.frame 0 _ _ st0 λb _ o e=>kp b o e;generalize (s.heap.push { cls:=.type "list",data:=.seq #[] }).update s.heap.objs.size (kg (λ_=>(#[]:Array Gg)))=h1 at n1 kp st1;refine gI (wpAny_letGo ?_);unfold j4;refine gI (wpAny_typeOf (hT 0 { s with heap:=h1 } st1) ?_);rw[show uJ (.ref s.heap.objs.size) (.ref I)=false from by simp[uJ,nI]];simp only[show(uQ "list_reverseiterator"==uQ "list")=false by decide,show(uQ "list_reverseiterator"==uQ "tuple")=false by decide,uI,kH,if_false];refine gI (W.self 0 _ _ _ st1 ?_);refine gI (wpAny_holding (hint _ _ _ (hT 0 { s with heap:=h1 } st1) ?_));refine wpAny_ite_split (λz=>absurd z (by decide)) λ_=>?_;refine gJ ⟨plainId_quiet F.plain_extend_loop _,codeAny_extend_loopS W' hn s.heap.objs.size hfp .none n 0 { s with heap:=h1 } #[] _ rfl (jT _) st1 n1 (ItemsOf.nil P) λs' acc c m nn it=>?_⟩;refine⟨rfl,?_⟩;rw[Moved.eq_with m];refine hQ s'.heap s'.toks acc c (λb o hb e=>m.heap b o (λz=>?_) (kp b o e)) nn it;rcases jw.mp z with z|z
 .exact absurd (jp e) (by rw[z];exact jY _)
 .exact hb z
end
abbrev Ct (f:FL):FL:=λψ=>(f ψ).bind λxs=>Ga xs.reverse
section
variable {X:Cx}{pos:Pos}
theorem Hu:∀ (xs:List V) (us:List Gg),xs.length=us.length->(∀ (i:Nat) (x:V) (u:Gg),xs[i]?=Ga x->us[i]?=Ga u->iA x u)->ip xs us
 | [],[],_,_=>.nil
 | [],_::_,h,_=>by cases h
 | _::_,[],h,_=>by cases h
 | x::xs,u::us,h,r=>.cons (r 0 x u rfl rfl) (Hu xs us (qI h) λi y z e1 e2=>r (i+1) y z e1 e2)
theorem KU {e:Expr}{f:FL}{p p2 pos2:Pos}(hc:X.calm=true)(hg:Gl X "list")(hm:X.mg "list"=Gb)(hg2:Gl X "reversed")(hm2:X.mg "reversed"=Gb)(ha:sR X e f)(hs:starEach [e] X.env=[(false,eval e X.env)]:=by rfl)
  (hs2:starEach [.Call (.Name "reversed" p2) [e] [] pos2] X.env=[(false,eval (.Call (.Name "reversed" p2) [e] [] pos2) X.env)]:=by rfl) :
  PO X (.Call (.Name "list" p) [.Call (.Name "reversed" p2) [e] [] pos2] [] pos) (Ct f):=by
 intro ω s σ H Q I h;obtain⟨H0,F,ψ,ds,r,e0,q⟩:=h;obtain⟨d1,e1,e2⟩:=gL e0;cases e2;clear e0;refine Call_ (re I hg hm boot_list (PyProof.Rows.callWith_type1 ?_ hs2 (by rfl)));rw[hs2];refine uS ?_;refine Call_ (re I hg2 hm2 boot_reversed (PyProof.Rows.callWith_type1 (iR (lN ha og hs pos2 ω s σ H (λvs H2=>∃ l xs F2,vs=[.ref l]/\lH X.K H2 l xs/\gM H H2/\gM F F2/\gM F2 H2/\lb F F2 H/\ia X.K F2 d1 xs) I
  ⟨H0,F,ψ,d1,r,e1,λa xs H1 F1 g1 f1 fh1 n1 hl rr=>⟨a,xs,F1,rfl,hl,g1,f1,fh1,n1,rr⟩⟩) λus s1 ⟨vs,H2,I2,rvs,l,xs,F2,ev,hl,g2,f2,fh2,n2,rr⟩=>?_) hs (by rfl)))
 subst ev;obtain⟨u,rfl,ru⟩:=oT rvs;cases ru;obtain⟨its,rv,pl,hz⟩:=I2.list hl;have ll:l<s1.heap.objs.size:=by obtain⟨o,n,e,_⟩:=pl;exact jp e
 refine call_reversed_list pl.isList ?_;refine vF ?_;have I3:gS X ω σ H2 { s1 with heap:=s1.heap.push (revObj l ((its.toArray.size:Int)-1)),toks:=s1.toks }:=I2.kept λb o e=>jf _ e;have hit:(s1.heap.push (revObj l ((its.toArray.size:Int)-1))).IsRevIter s1.heap.objs.size l ((its.toArray.size:Int)-1):=⟨_,jy _ rfl,rfl,rfl⟩;have hl3:(s1.heap.push (revObj l ((its.toArray.size:Int)-1))).IsList l its.toArray:=by obtain⟨o,n,e,c,_,d⟩:=pl;exact⟨o,jf _ e,c,n,d⟩
 have W:=Walks.listRev (prog:=X.prog) (w:=X.w) (A:=X.A.in1.in1) (show X.A.in1.in1.handled=Gb from I2.ok.hd hc) s1.heap.objs.size l (jH ll) its.toArray;refine zCf W (λi s2 z=>z.2.1.typeIs) (λs2 Q2 E2 z1 z2=>XY z1 z2) ⟨jT _,(by rw[show(its.toArray.size:Int)-1-((0:Nat):Int)=(its.toArray.size:Int)-1 by omega];exact hit),hl3⟩ ?_ (by simp) ?_ λh' tk acc c k na it=>?_
 .rw[u9];simp only[jw,uN,or_false,not_or];exact⟨Nat.succ_ne_self _,vf (vI ll)⟩
 .rw[jl,<- rv.length];exact hz
 .have sz:acc.size=its.length:=by rw[it.1,jl]
  have vr:ip xs.reverse acc.toList:=by
   refine Hu _ _ (by have a:=rv.length;have b:=ki (xs:=acc);rw[kD];omega) λi x u hx hu=>?_;have hu':=it.2 i u (by rw[<- vN];exact hu);have li:i<xs.length:=by have:=(jn.mp hx).1;rw[kD] at this;exact this
   rw[qW li] at hx;obtain⟨u',e1,e2⟩:=rv.get hx;have e3:its[its.length-1-i]?=Ga u:=by rw[jl,qX] at hu';exact hu'
   rw[<- rv.length,e1] at e3;cases e3;exact e2
  have hS:s1.heap.objs.size<(s1.heap.push (revObj l ((its.toArray.size:Int)-1))).objs.size:=by rw[u9];exact k7 _
  have f3:H2 (s1.heap.push (revObj l ((its.toArray.size:Int)-1))).objs.size=Gb:=I3.fresh;have I4:gS X ω σ (upd H2 (s1.heap.push (revObj l ((its.toArray.size:Int)-1))).objs.size (.lst xs.reverse)) { s1 with heap:=h',toks:=tk }:=by
   refine gS.laid (X:=X) (s:=s1) (t':=tk) I2 (λb o e=>k b o ?_ (jf _ e)) (uk hS) ?_
   .intro z;cases jj.mp z;exact absurd (jp e) (jY _)
   .refine⟨by rw[kD];exact hz,acc.toList,c,vr,?_⟩;rw[va];exact na
  have s2:gM H2 (upd H2 (s1.heap.push (revObj l ((its.toArray.size:Int)-1))).objs.size (.lst xs.reverse)):=gM.new f3;exact⟨.ref _,_,I4,rfl,q _ xs.reverse _ F2 (g2.trans s2) f2 (fh2.trans s2) n2 (g2.free f3) (fh2.free f3) ij rr.reverse⟩
end
theorem LV {X:Cx}{pos:Pos}{x:Str}{n:Int}(hm:∃ t,X.mg x=Ga (.int n t))(hg:Gl X x:=by rfl)(hd:(x==("__debug__":Str))=false:=by decide):PV X (.Name x pos) (λ_=>Ga (.int n)):=by
 obtain⟨t,h⟩:=hm;exact zD2 (v:=.int n) h ⟨_,rfl⟩ (λ_ _=>.int _) hg hd
theorem Zp {a:Gj}{ks:List D}{as:List Gj}{ep:Nat}:∀ h1 h2:Heap,oJ a ks as ep h1->(∀ o,h1.get? a=Ga o->h2.get? a=Ga o)->oJ a ks as ep h2:=by
 rintro h1 h2 ⟨o,es,ho,r⟩ k;exact⟨o,es,k _ ho,r⟩
theorem QR {P:Program}{w:World}{H:Hp}{h:Heap}{a:Gj}{ks:List D}{as:List Gj}{ep:Nat}(p:oJ a ks as ep h):mR P w H h a (.ext (oJ a ks as ep)):=by
 obtain⟨o,es,ho,r⟩:=id p;exact⟨p,⟨o,ho⟩,Zp⟩
theorem Sw {P:Program}{w:World}{H:Hp}{h:Heap}{a:Gj}{ks:List D}{as:List Gj}{ep:Nat}(ok:HOk P w H h)(e:H a=Ga (.ext (oJ a ks as ep))):oJ a ks as ep h:=(show mR P w H h a (.ext _) from ok a _ e).1
theorem zz6:rM []:=⟨λ_ h=>(by cases h),λ_ h=>(by cases h),uw,jT _⟩
def nR (ks:List D)(as:List Gj):List (D×Gj×Gg):=(ks.zip as).map λp=>(p.1,p.2,uP true)
theorem Sc {P:Program}{w:World}(ks:List D)(as:List Gj):sY ks as=(nR ks as).map (entryOfKey (xq P w)):=by
 unfold sY nR;rw[jN];rfl
theorem CO:∀ {ks:List D} {as:List Gj},ks.length=as.length->(nR ks as).map (·.1)=ks
 | [],[],_=>rfl
 | [],_::_,h=>by cases h
 | _::_,[],h=>by cases h
 | k::ks,a::as,h=>congrArg (k::·) (CO (ks:=ks) (as:=as) (qI h))
theorem QS:∀ {ks:List D} {as:List Gj} (k:D) (b:Gj),ks.length=as.length->nR ks as++[(k,b,uP true)]=nR (ks++[k]) (as++[b])
 | [],[],k,b,_=>rfl
 | [],_::_,_,_,h=>by cases h
 | _::_,[],_,_,h=>by cases h
 | j::ks,a::as,k,b,h=>congrArg ((j,a,uP true)::·) (QS (ks:=ks) (as:=as) k b (qI h))
theorem Sk:∀ {ks:List D} {as:List Gj} (k:D),(nR ks as).map (putAt k (.bool true))=nR ks as
 | [],[],k=>rfl
 | [],_::_,_=>rfl
 | _::_,[],_=>rfl
 | j::ks,a::as,k=>by
  show putAt k (.bool true) (j,a,uP true)::(nR ks as).map (putAt k (.bool true))=(j,a,uP true)::nR ks as;rw[Sk (ks:=ks) (as:=as) k];refine congrArg (·::nR ks as) ?_;unfold putAt;split<;>rfl
theorem Rw:∀ {ks:List D} {as:List Gj} {x:D×Gj×Gg},x∈nR ks as->∃ i:Nat,ks[i]?=Ga x.1/\as[i]?=Ga x.2.1
 | [],[],x,h=>by cases h
 | [],_::_,x,h=>by cases h
 | _::_,[],x,h=>by cases h
 | k::ks,a::as,x,h=>by
  rcases jw.mp (show x∈(k,a,uP true)::nR ks as from h) with rfl|h
  .exact⟨0,rfl,rfl⟩
  .obtain⟨i,h1,h2⟩:=Rw h;exact⟨i+1,h1,h2⟩
theorem Ul {ks:List D}{as:List Gj}(hl:ks.length=as.length)(k:D):(atKey (nR ks as) k).isSome=decide (k∈ks):=by
 unfold atKey;rw[JA];rw[jV,List.find?_isSome,decide_eq_true_eq];constructor
 .rintro⟨x,hx,e⟩;have:x.1=k:=of_decide_eq_true e;rw[<- this,<- CO hl];exact jz.mpr ⟨x,hx,rfl⟩
 .intro h;rw[<- CO hl] at h;obtain⟨x,hx,e⟩:=jz.mp h;exact⟨x,hx,Gc e⟩
noncomputable def pB (ks:List D)(k:D):List D:=if k∈ks then ks else ks++[k]
section
variable {X:Cx}{ω:List (Gj×Obj)}{σ:St}{F H:Hp}{s:Gh}{a:Gj}{ks:List D}{as:List Gj}{ep:Nat}
theorem Tc (q:ia X.K F ks (as.map V.ref)):ks.length=as.length:=by have:=q.length;rw[jd] at this;exact this
theorem Vn (I:gS X ω σ H s)(g:gM F H)(e:H a=Ga (.ext (oJ a ks as ep)))(ok:rM ks)(q:ia X.K F ks (as.map V.ref)):s.heap.DictOfH (xq X.prog X.w) a (nR ks as):=by
 obtain⟨o,es,ho,hc,hd,he⟩:=Sw I.hok e;refine⟨o,es,ep,ho,hc,hd,he.trans (Sc ks as),λx hx=>?_,by rw[CO (Tc q)];exact ok.nd⟩;obtain⟨i,h1,h2⟩:=Rw hx;obtain⟨v,e1,e2⟩:=q.get h1;rw[jC,h2] at e1;cases e1;exact⟨ok.key _ (j7 h1),iM.reads I g e2 (Lc (ok.key _ (j7 h1))) rfl⟩
end
section
variable {X:Cx}{pos:Pos}
theorem zxI:PE X (.Dict [] [] pos) (λσ H Q=>∀ p,H p=Gb->(p==sysModules)=false->Q (.ref p) (upd H p (.ext (oJ p [] [] 0)))):=λω s σ H Q I h =>
 wpAny_Dict_empty ⟨.ref s.heap.objs.size,_,I.laid (a:=s.heap.objs.size) (o:=.ext (oJ s.heap.objs.size [] [] 0)) (t':=s.toks) (λ_ _ q=>jf _ q) (jm _) (QR ⟨_,#[],jy _ rfl,⟨rfl,rfl,rfl⟩,rfl,rfl⟩),rfl,
  h _ (I.hok.fresh (jm _)) (beq_eq_false_iff_ne.mpr (uo (jH I.big)))⟩
abbrev Mt (i:Nat):FS:=λψ=>Ga (.nx (ψ.set i (.dic [])))
theorem WA (i:Nat){x:Str}{p pos':Pos}(hN:X.N.Nodup)(hi:X.N[i]?=Ga x:=by rfl)(hx:wS X.env.scope x:=by first|exact k8 rfl|exact kJ rfl)
  (hs:swapsWith (.Dict [] [] p) (Ga (.Name x pos')) pos.line X.env=pure false:=by rfl) (hf:X.fn x=true\/X.env.scope.names.lookup x=Ga .local:=by first|exact .inl rfl|exact .inr rfl) :
  ot X (.Assign [.Name x pos'] (.Dict [] [] p) pos) (Mt i):=by
 intro ω s σ H D I hw;refine yp hN hi hx zxI hs hf ω s σ H D I ?_;obtain⟨H0,F,ψ,o,r,e,p⟩:=hw;cases e;have hl:i<σ.length:=by rw[I.len];exact(jn.mp hi).1
 intro a ha sm;have g:gM H (upd H a (.ext (oJ a [] [] 0))):=gM.new ha;exact p _ _ F (.refl _) (.refl _ _) ((r.later g).putG hl ⟨a,[],0,rfl,ij,r.fh.free ha,r.h0.free ha,.nil,sm,zz6⟩ λj s o _ ej=>r.ne_free ha j s o ej)
def OU (K:jb):BR:=λo i v H Q=>∃ a ks as ep k b F,o=.ref a/\i=.ref b/\v=.bl true/\H a=Ga (.ext (oJ a ks as ep))/\rM ks/\gM F H/\ia K F ks (as.map V.ref)/\iM K F k (.ref b)/\iq k 8=true /\
 ∀ as' ep',(if k∈ks then as'=as else as'=as++[b])->Q (upd H a (.ext (oJ a (pB ks k) as' ep')))
theorem Wc (hu:X.A.units+100<cLine):Mw X (OU X.K):=by
 intro ω s σ H o i v ov iv u Q I ro ri rv h;obtain⟨a,ks,as,ep,k,b,F,rfl,rfl,rfl,ha,ok,g,q,rk,kk,hQ⟩:=h;cases ro;cases ri;cases rv;have hD:=Vn I g ha ok q;have hl:=Tc q;obtain⟨bs,rd⟩:=iM.reads I g rk (Lc kk) (u:=.ref b) rfl;refine wpAny_setItem_heap (knd:=xq X.prog X.w) (show X.A.units+1+20<cLine by omega) ⟨kk,_,rd⟩ hD (λh' hm hs=>?_) ?_
 .obtain⟨o',es',ep',ho,hc,hd,he,_,_⟩:=id hm;have fin:∀ as',(if k∈ks then as'=as else as'=as++[b])->storedH (nR ks as) k b (.bool true)=nR (pB ks k) as'->∃ H',gS X ω σ H' { s with heap:=h',toks:=s.toks+si k }/\Q H':=λas' c e=>by
   refine⟨_,Bs I (by rw[ha];trivial) hs ⟨o',ho⟩ (QR ⟨o',es',ho,hc,hd,?_⟩),hQ as' ep' c⟩;rw[he,e,<- Sc]
  by_cases hm2:k∈ks
  .refine fin as (by rw[Ge hm2]) ?_;have:(atKey (nR ks as) k).isSome=true:=by rw[Ul hl,Gc hm2]
   unfold storedH pB;rw[Ge this,Ge hm2,Sk]
  .refine fin (as++[b]) (by rw[Gf hm2]) ?_;have:¬(atKey (nR ks as) k).isSome=true:=by rw[Ul hl,Gd hm2];exact jr
   unfold storedH pB;rw[Gf this,Gf hm2,QS k b hl]
 .show(nR ks as).length<=sizeLine;have:(nR ks as).length=ks.length:=by rw[<- jd (f:=λx:D×Gj×Gg=>x.1),CO hl]
  rw[this,sizeLine_eq];exact jF ok.len (by decide)
def wK:D->Bool
 | .tuple _=>true
 | _=>false
theorem Wt {d:D}(h:wK d=true):∃ xs,d=.tuple xs:=by cases d<;>first|exact⟨_,rfl⟩|cases h
noncomputable def AL (i:Nat)(f:FV):FS:=λψ=>(f ψ).bind λk=>match ψ[i]? with
 | some (.dic ks)=>if (iq k 8&&wK k)=true/\ks.length<1000000 then Ga (.nx (ψ.set i (.dic (pB ks k)))) else Gb
 | _=>Gb
theorem zz8 {ks:List D}{k:D}(ok:rM ks)(hk:iq k 8=true)(ht:∃ xs,k=.tuple xs)(hl:ks.length<1000000):rM (pB ks k):=by
 unfold pB;split
 .exact ok
 .rename_i hn;refine⟨λx hx=>?_,λx hx=>?_,?_,by rw[ju];exact hl⟩
  .rcases jI.mp hx with z|z
   .exact ok.key x z
   .rw[jj.mp z];exact hk
  .rcases jI.mp hx with z|z
   .exact ok.tup x z
   .rw[jj.mp z];exact ht
  .rw[ug];refine⟨ok.nd,ko.mpr ⟨by simp,uw⟩,λx hx y hy=>?_⟩;rw[jj.mp hy];exact λz=>hn (z▸hx)
theorem ZD (i:Nat){x:Str}{ke:Expr}{f:FV}{p p2 pt:Pos}{jt}(hu:X.A.units+100<cLine)(hk:PV X ke f)(hN:X.N[i]?=Ga x:=by rfl)(hv:wo X.env.scope x:=by first|exact k8 rfl|exact kJ (k8 rfl)|exact kJ (kJ rfl))
  (hd:(x==("__debug__":Str))=false:=by decide) (hcd:(x==("__classdict__":Str))=false:=by decide)
  (hs:swapsWithSole [.Subscript (.Name x p) ke p2] (.Constant (.bool true) jt pt) pos.line X.env=pure false:=by rfl) (hw:swappedStores [.Subscript (.Name x p) ke p2] (.Constant (.bool true) jt pt) X.env=pure Gb:=by rfl)
  (h1:(assignEach [.Subscript (.Name x p) ke p2] X.env).map (·.2)=[assign (.Subscript (.Name x p) ke p2) X.env]:=by rfl)
  (ha:∀ v,assign (.Subscript (.Name x p) ke p2) X.env v=(do
   let ov <- holding [v] (eval (.Name x p) X.env)
   let iv <- holding [v,ov] (eval ke X.env)
   standAt p2
   holding [v,ov,iv] (setItem ov iv v)
   release [v,ov,iv] []):=by intro _;rfl) :
  ot X (.Assign [.Subscript (.Name x p) ke p2] (.Constant (.bool true) jt pt) pos) (AL i f):=by
 refine sS (Dz (Ey (pos:=pt)) (Ln (ph (pos:=p) hN hv hd hcd) hk (Wc hu) ha) hs hw h1) λE σ H=>?_;rintro⟨H0,F,ψ,o,r,e,p⟩;obtain⟨k,e1,e2⟩:=gL e;clear e;split at e2;rotate_left
 .cases e2
 rename_i ks z;split at e2;rotate_left
 .cases e2
 rename_i c;cases e2;obtain⟨c1,c2⟩:=c;rw[jA] at c1;obtain⟨xs,rfl⟩:=Wt c1.2;obtain⟨u,x3,a,as,ep,x4,ha1,fa,h0a,rr,sm,ok⟩:=r.sl i _ z;subst x4;refine⟨.ref a,x3,H0,F,ψ,.tuple xs,r,e1,λv H1 F1 g1 f1 fh1 n1 rv=>?_⟩;have r1:=r.grow g1 f1 fh1 n1;obtain⟨u,x5,a',as',ep',x6,ha2,fa2,h0a2,rr2,sm2,ok2⟩:=r1.sl i _ z;subst x6;rw[x3] at x5;cases x5;cases rv with
 | @tup b vs _ hb rb =>
  refine⟨a,ks,as',ep',.tuple xs,b,F1,rfl,rfl,rfl,ha2,ok2,fh1,rr2,.tup hb rb,c1.1,λas2 ep2 hc=>?_⟩;refine p σ _ F1 f1 (n1.dn r.h0) (r1.chgG z rfl x3 ⟨a,as2,ep2,rfl,ij,fa2,h0a2,?_,sm2,zz8 ok2 c1.1 ⟨_,rfl⟩ c2⟩);unfold pB;split at hc
  .rename_i hm;rw[Ge hm,hc];exact rr2
  .rename_i hm;rw[Gf hm,hc,j0];exact rr2.append (.cons (.tup hb rb) .nil)
def Of:List (D×D)->Bool
 | (.none,.none)::_=>true
 | _=>false
theorem zCh (ks:List D):Of (ks.map λk=>(k,jP true))=false:=by
 cases ks with
 | nil=>rfl
 | cons k r=>cases k<;>rfl
noncomputable def aia (k:D):D->Option D
 | .dict kvs=>if (iq k 8&&wK k&&!Of kvs)=true then Ga (.bool (decide (k∈kvs.map (·.1)))) else Gb
 | _=>Gb
def wH:D->Option (List D)
 | .dict kvs=>if Of kvs=true then Gb else Ga (kvs.map (·.1))
 | _=>Gb
theorem SG (ks:List D):wH (.dict (ks.map λk=>(k,jP true)))=Ga ((ks.map λk=>(k,jP true)).map (·.1)):=by
 unfold wH;dsimp only;rw[zCh,Gf jr]
theorem Tz:∀ {ks:List D} {as:List Gj} {i:Nat} {b:Gj},ks.length=as.length->as[i]?=Ga b->∃ e,(sY ks as)[i]?=Ga e/\e.key=.ref b
 | [],[],i,b,_,h=>by simp at h
 | [],_::_,_,_,h,_=>by cases h
 | _::_,[],_,_,h,_=>by cases h
 | k::ks,a::as,0,b,_,h=>by cases h;exact⟨_,rfl,rfl⟩
 | k::ks,a::as,i+1,b,hl,h=>Tz (ks:=ks) (as:=as) (i:=i) (b:=b) (qI hl) h
theorem VR {ks:List D}{as:List Gj}(hl:ks.length=as.length):(sY ks as).length=as.length:=by
 unfold sY;rw[jd,List.length_zip,hl,JD]
theorem zCi {h:Heap}{d:Gj}{ks:List D}{as:List Gj}{ep:Nat}(p:oJ d ks as ep h):pp h d (sY ks as).toArray ep:=by
 obtain⟨o,es,ho,hc,hd,he⟩:=p;refine⟨o,ho,hc,?_⟩;rw[<- he,va];exact hd
end
section
variable {prog:Program}{w:World}{A:Around}{E:Gg->Gh->Prop}{s:Gh}
theorem ztD:typeLookup (.type "dict") "__len__"=pure (Ga (.builtin "dict.__len__")):=by rw[typeLookup_type,builtinLookup_eq_fast];kernel_rfl
theorem zxJ {x:Gj}{Q:Bool->Gh->Prop}(hT:s.TypeIs (.ref x) "dict")(hQ:Q false s):wpAny (model prog w) A (kQ (.ref x)) Q E s:=by
 unfold kQ;refine gI (wpAny_specialOf hT ztD ?_);generalize hid:("dict.__len__":String)=id0
 wp_delta
 rw[show splitId id0=Ga ("dict","__len__") from by subst hid;decide +kernel];subst hid;refine gI (wpAny_isInstance (T:="dict") (b:=true) hT (by rw[isSubtype_type];kernel_rfl) ?_);refine wpAny_ite_split (λz=>absurd z (by decide)) λ_=>?_;refine wpAny_ite_split (λ_=>?_) λz=>absurd (by nofun) z;exact gI (wpAny_typeOf hT (gJ hQ))
theorem Zc {d:Gj}{es:Array DictEntry}{ep:Nat}{Q:Gg->Gh->Prop}(hh:A.handled=Gb)(sm:(d==sysModules)=false)(hd:pp s.heap d es ep)(hn:es.size<=sizeLine)
  (hQ:∀ h' tk acc c,(∀ b o,s.heap.get? b=Ga o->h'.get? b=Ga o)->h'.get? s.heap.objs.size=Ga { cls:=.type "list",data:=.seq acc c }->ItemsOf (λi v=>∃ e,es[i]?=Ga e/\v=e.key) acc es.size->Q (.ref s.heap.objs.size) { s with heap:=h',toks:=tk }) :
  wpAny (model prog w) A (call (.type "list") [.ref d]) Q E s:=by
 have hlt:d<s.heap.objs.size:=by obtain⟨o,e,_⟩:=hd;exact jp e
 refine callType_codes (Q₁:=λob s1=>ob=kP s.heap.objs.size/\s1={ s with heap:=s.heap.push { cls:=.type "list",data:=.seq #[] } }) F.called_list (F.typeCall_list_1 _) F.entry_list_init (code_list_new _ ⟨rfl,rfl⟩) λob s1 z=>?_;obtain⟨rfl,rfl⟩:=z;have n0:(s.heap.push { cls:=.type "list",data:=.seq #[] }).get? s.heap.objs.size=Ga { cls:=.type "list",data:=.seq #[] }:=jy _ rfl;refine⟨⟨_,n0,rfl⟩,F.args_list_init_2 _ _,?_⟩;show wpAny _ _ (uU (.ref s.heap.objs.size) >>= λold=>qz (.ref s.heap.objs.size) (λ_=>#[]) >>= λ_=>letGo old.toList.reverse >>= λ_=>j4 (.ref s.heap.objs.size) (.ref d) .none) _ _ _;refine gI ?_;unfold uU;refine gI (wpAny_seqItems n0 rfl (gJ ?_));show wpAny _ _ (updateSeq s.heap.objs.size (λ_=>#[]) >>= λ_=>letGo (#[]:Array Gg).toList.reverse >>= λ_=>j4 (.ref s.heap.objs.size) (.ref d) .none) _ _ _;refine gI (wpAny_updateSeq n0 rfl ?_);have n1:=ux (kg (λ_=>(#[]:Array Gg))) n0 rfl;have kp:∀ b o,s.heap.get? b=Ga o->((s.heap.push { cls:=.type "list",data:=.seq #[] }).update s.heap.objs.size (kg (λ_=>(#[]:Array Gg)))).get? b=Ga o:=λb o e =>
  (kW _ _ (uo (jH (jp e)))).trans (jf _ e)
 generalize (s.heap.push { cls:=.type "list",data:=.seq #[] }).update s.heap.objs.size (kg (λ_=>(#[]:Array Gg)))=h1 at n1 kp;have hd1:pp h1 d es ep:=hd.kept λo e=>kp d o e;refine gI (wpAny_letGo ?_);unfold j4;refine gI (wpAny_typeOf (T:="dict") (pp.ty (s:={ s with heap:=h1 }) hd1) ?_);rw[show uJ (.ref s.heap.objs.size) (.ref d)=false from by simp[uJ,vf hlt]];simp only[show(uQ "dict"==uQ "list")=false by decide,show(uQ "dict"==uQ "tuple")=false by decide,uI,kH,if_false];refine gI (YT (s:={ s with heap:=h1 }) sm hd1 ?_);have kp2:∀ b o,h1.get? b=Ga o->(h1.push { cls:=.type "dict_keyiterator",data:=.fields #[.ref d,.int 0 0,.int es.size 0,.int ep 0] }).get? b=Ga o:=λb o e=>jf _ e;have it0:(h1.push { cls:=.type "dict_keyiterator",data:=.fields #[.ref d,.int 0 0,.int es.size 0,.int ep 0] }).IsKeyIter h1.objs.size d 0 es.size ep:=⟨_,jy _ rfl,rfl,rfl⟩;have dI:d≠h1.objs.size:=by obtain⟨o,e,_⟩:=hd1;exact jH (jp e)
 have sI:s.heap.objs.size≠h1.objs.size:=jH (jp n1);have hd2:=hd1.kept λo e=>kp2 d o e;have n2:=kp2 _ _ n1;generalize h1.push { cls:=.type "dict_keyiterator",data:=.fields #[.ref d,.int 0 0,.int es.size 0,.int ep 0] }=h2 at kp2 it0 hd2 n2;refine gI (wpAny_holding (zxJ (pp.ty (s:={ s with heap:=h2 }) hd2) ?_));refine wpAny_ite_split (λ_=>?_) λz=>absurd (by decide) z;refine gI (wpAny_rule (gI ?_));show wpAny _ _ (updateSeq s.heap.objs.size (·.push .none) >>= λ_=>updateSeq s.heap.objs.size (·.pop)) _ _ _;refine gI (wpAny_updateSeq n2 rfl ?_);have n3:=ux (kg (·.push kr)) n2 rfl;refine wpAny_updateSeq (hz:=by seq_fits) n3 rfl ?_;have n4:=ux (kg (·.pop)) n3 rfl;have kp3:∀ b o,b≠s.heap.objs.size->h2.get? b=Ga o->((h2.update s.heap.objs.size (kg (·.push kr))).update s.heap.objs.size (kg (·.pop))).get? b=Ga o :=
  λb o hb e=>(kW _ _ (uo hb)).trans ((kW _ _ (uo hb)).trans e)
 have it4:=it0.at λo e=>kp3 _ o (uo sI) e;have hd4:=hd2.kept λo e=>kp3 _ o (jH hlt) e;generalize (h2.update s.heap.objs.size (kg (·.push kr))).update s.heap.objs.size (kg (·.pop))=h4 at n4 kp3 it4 hd4;have W:=(ZY (prog:=prog) (w:=w) (A:=A.in1.in1) (show A.in1.in1.handled=Gb from hh) h1.objs.size d dI es ep).toS;refine gJ ⟨plainId_quiet F.plain_extend_loop _,codeAny_extend_loopS W hn s.heap.objs.size ?_ .none es.size 0 { s with heap:=h4 } #[] _ rfl (jT _) ⟨it4,hd4⟩ n4 (ItemsOf.nil _) λs' acc c m nn it=>?_⟩
 .simp only[jw,uN,or_false,not_or];exact⟨sI,vf hlt⟩
 .refine⟨rfl,?_⟩;rw[Moved.eq_with m];refine hQ s'.heap s'.toks acc c (λb o e=>m.heap b o (λz=>?_) (kp3 _ _ (jH (jp e)) (kp2 _ _ (kp b o e)))) nn it;simp only[jw,uN,or_false] at z;rcases z with z|z
  .exact absurd (jp e) (by rw[z];exact jY _)
  .exact absurd (jp (kp b o e)) (by rw[z];exact jY _)
end
section
variable {X:Cx}{pos:Pos}
theorem zvC (hc:X.calm=true):my X (.type "list") (λxs H Q=>∃ (d:Gj) (ks:List D) (as:List Gj) (ep:Nat),xs=[.ref d]/\(d==sysModules)=false/\H d=Ga (.ext (oJ d ks as ep))/\ks.length=as.length/\as.length<=1000000/\∀ l,H l=Gb->Q (.ref l) (upd H l (.lst (as.map V.ref)))):=by
 intro ω s σ H xs us Q I r h;obtain⟨d,ks,as,ep,rfl,sm,hd,hl,hz,q⟩:=h;obtain⟨u,rfl,ru⟩:=oT r;cases ru;have sz:(sY ks as).toArray.size=as.length:=by rw[jl,VR hl]
 have hz':as.length<=sizeLine:=by rw[sizeLine_eq];exact jF hz (by decide)
 refine Zc (es:=(sY ks as).toArray) (ep:=ep) (I.ok.hd hc) sm (zCi (Sw I.hok hd)) (by rw[sz];exact hz') λh' tk acc c k na it=>?_;rw[sz] at it;have vr:ip (as.map V.ref) acc.toList:=by
  refine Hu _ _ (by have a1:=it.1;have a2:=ki (xs:=acc);rw[jd];omega) λi x u hx hu=>?_;obtain⟨e,e1,e2⟩:=it.2 i u (by rw[<- vN];exact hu);rw[jC] at hx;obtain⟨b,hb,rfl⟩:=qJ.mp hx;obtain⟨e',e3,e4⟩:=Tz hl hb;rw[qX,e3] at e1;cases e1;rw[e2,e4];rfl
 refine⟨.ref _,_,gS.laid (X:=X) (s:=s) (a:=s.heap.objs.size) (o:=.lst (as.map V.ref)) (t':=tk) I k (jm _) ⟨by rw[jd];exact hz',acc.toList,c,vr,?_⟩,rfl,q _ I.fresh⟩;rw[va];exact na
theorem Xx {e:Expr}{f:FV}{p:Pos}(hc:X.calm=true)(hg:Gl X "list")(hm:X.mg "list"=Gb)(ha:PV X e f)(hs:starEach [e] X.env=[(false,eval e X.env)]:=by rfl):PO X (.Call (.Name "list" p) [e] [] pos) (mM wH f):=by
 refine mn (Te (zvC hc) hg hm boot_list ha (hs:=hs)) λσ H Q=>?_;rintro⟨H0,F,ψ,ds,r,e,q⟩;obtain⟨d',e1,e⟩:=gL e;refine⟨H0,F,ψ,_,r,e1,λv H1 F1 g1 f1 fh1 n1 rv=>?_⟩;cases rv<;>first|(cases e;done)|skip
 rename_i a ks as ep sm ha ok rr;rw[SG] at e;cases e;rw[NR] at q;have hl:ks.length=as.length:=by have:=rr.length;rw[jd] at this;exact this
 refine⟨a,ks,as,ep,rfl,sm,fh1 _ _ ha,hl,by rw[<- hl];exact ok.len,λl hl'=>?_⟩;have s2:gM H1 (upd H1 l (.lst (as.map V.ref))):=gM.new hl';exact q l _ _ F1 (g1.trans s2) f1 (fh1.trans s2) n1 (g1.free hl') (fh1.free hl') ij rr
end
section
variable {X:Cx}{pos:Pos}
end
theorem zAc {a:Gj}{ws:List (Int×V)}{ep:Nat}:∀ h1 h2:Heap,pz a ws ep h1->(∀ o,h1.get? a=Ga o->h2.get? a=Ga o)->pz a ws ep h2:=by
 rintro h1 h2 ⟨o,es,ho,r⟩ k;exact⟨o,es,k _ ho,r⟩
theorem QL {P:Program}{w:World}{H:Hp}{h:Heap}{a:Gj}{ws:List (Int×V)}{ep:Nat}(p:pz a ws ep h):mR P w H h a (.ext (pz a ws ep)):=by
 obtain⟨o,es,ho,r⟩:=id p;exact⟨p,⟨o,ho⟩,zAc⟩
theorem zD9 {P:Program}{w:World}{H:Hp}{h:Heap}{a:Gj}{ws:List (Int×V)}{ep:Nat}(ok:HOk P w H h)(e:H a=Ga (.ext (pz a ws ep))):pz a ws ep h:=(show mR P w H h a (.ext _) from ok a _ e).1
theorem ou.pairs {P:Program}{w:World}:∀ {ws:List (Int×V)} {es:List DictEntry},ou ws es->∃ vs:List (Int×Gg),KV ws vs/\Pairs (intKind P w) es vs
 | _,_,.nil=>⟨[],.nil,.nil⟩
 | _,_,.cons (k:=k) (e:=e) hk hh hv t=>by
  obtain⟨vs,h1,h2⟩:=t.pairs (P:=P) (w:=w);exact⟨(k,e.val)::vs,.cons ⟨rfl,hv⟩ h1,.cons hk rfl h2⟩
theorem ou.keys {P:Program}{w:World}:∀ {ws:List (Int×V)} {es:List DictEntry},ou ws es->∀ e∈es,∃ k,(intKind P w).is k e.key=true/\e.hash=(intKind P w).hash k
 | _,_,.nil,e,h=>by cases h
 | _,_,.cons (k:=k) hk hh hv t,e,h=>by
  rcases jw.mp h with rfl|h
  .exact⟨k,hk,hh⟩
  .exact t.keys e h
theorem Rq {P:Program}{w:World}:∀ {ws:List (Int×V)} {vs:List (Int×Gg)} {es:List DictEntry},KV ws vs->Pairs (intKind P w) es vs->(∀ e∈es,∃ k,(intKind P w).is k e.key=true/\e.hash=(intKind P w).hash k)->ou ws es
 | _,_,_,.nil,.nil,_=>.nil
 | (k,v)::ws,kv::vs,e::es,.cons a t,.cons h1 h2 t2,hk=>by
  obtain⟨k',z1,z2⟩:=hk e jh;have ek:k'=kv.1:=(intKind P w).inj _ _ _ z1 h1;have e0:k=kv.1:=a.1;refine .cons ?_ ?_ ?_ (Rq t t2 λe h=>hk e (jo _ h))
  .rw[e0];exact h1
  .rw[z2,ek,e0];rfl
  .rw[h2];exact a.2
theorem PM {κ:Type}:∀ {ws:List (κ×V)} {vs:List (κ×Gg)},KV ws vs->vs.map (·.1)=ws.map (·.1)
 | _,_,.nil=>rfl
 | _,_,.cons h t=>by
  rw[jK,jK,PM t];exact congrArg (·::_) h.1.symm
theorem lg.fst {K:jb}{F:Hp}:∀ {l:List (Int×D)} {m:List (Int×V)},lg K F l m->m.map (·.1)=l.map (·.1)
 | _,_,.nil=>rfl
 | _,_,.cons h t=>congrArg (_::·) t.fst
def pP (kvs:List (Int×D))(k:Int)(d:D):List (Int×D) :=
 if (kvs.any λkv=>decide (kv.1=k))=true then kvs.map (λkv=>if kv.1=k then(kv.1,d) else kv) else kvs++[(k,d)]
theorem lg.anyk {K:jb}{F:Hp}(k:Int):∀ {l:List (Int×D)} {m:List (Int×V)},lg K F l m->(m.any λkv=>decide (kv.1=k))=(l.any λkv=>decide (kv.1=k))
 | _,_,.nil=>rfl
 | _,_,.cons h t=>by rw[vp,vp,t.anyk k]
theorem lg.mapk {K:jb}{F:Hp}{k:Int}{d:D}{v:V}(q:iM K F d v):∀ {l:List (Int×D)} {m:List (Int×V)},lg K F l m->lg K F (l.map λkv=>if kv.1=k then(kv.1,d) else kv) (m.map λkv=>if kv.1=k then(kv.1,v) else kv)
 | _,_,.nil=>.nil
 | (j,e)::_,(_,u)::_,.cons h t=>by
  rw[jK,jK];by_cases c:j=k
  .rw[Ge c,Ge c];exact .cons q (t.mapk q)
  .rw[Gf c,Gf c];exact .cons h (t.mapk q)
theorem lg.app {K:jb}{F:Hp}:∀ {l l2:List (Int×D)} {m m2:List (Int×V)},lg K F l m->lg K F l2 m2->lg K F (l++l2) (m++m2)
 | _,_,_,_,.nil,q=>q
 | _,_,_,_,.cons h t,q=>.cons h (t.app q)
theorem lg.put {K:jb}{F:Hp}{k:Int}{d:D}{v:V}{l:List (Int×D)}{m:List (Int×V)}(r:lg K F l m)(q:iM K F d v):lg K F (pP l k d) (rB m k v):=by
 unfold pP rB;rw[r.anyk k];split
 .exact r.mapk q
 .exact r.app (.cons q .nil)
theorem zqR (kvs:List (Int×D))(k:Int)(d:D):(kvs.map λkv=>if kv.1=k then(kv.1,d) else kv).map (·.1)=kvs.map (·.1):=by
 rw[jN];refine jR λx _=>?_;show(if x.1=k then(x.1,d) else x).1=x.1;split<;>rfl
theorem zCk {kvs:List (Int×D)}{k:Int}{d:D}(ok:wj kvs)(hl:kvs.length<1000000):wj (pP kvs k d):=by
 unfold pP;split
 .exact⟨by rw[zqR];exact ok.nd,by rw[jd];exact ok.len⟩
 .rename_i c;refine⟨?_,by rw[ju];exact hl⟩;rw[j0,ug];refine⟨ok.nd,ko.mpr ⟨by simp,uw⟩,λx hx y hy=>?_⟩;rw[jj.mp hy];rintro rfl;obtain⟨p,h1,h2⟩:=jz.mp hx;exact c (uv.mpr ⟨p,h1,Gc h2⟩)
section
variable {X:Cx}{ω:List (Gj×Obj)}{σ:St}{F H:Hp}{s:Gh}{a:Gj}{kvs:List (Int×D)}{ws:List (Int×V)}{ep:Nat}
theorem Bz (I:gS X ω σ H s)(e:H a=Ga (.ext (pz a ws ep)))(nd:(ws.map (·.1)).Nodup):∃ vs:List (Int×Gg),KV ws vs/\s.heap.DictOf (intKind X.prog X.w) a vs:=by
 obtain⟨o,es,ho,hc,hd,he⟩:=zD9 I.hok e;obtain⟨vs,h1,h2⟩:=he.pairs (P:=X.prog) (w:=X.w);exact⟨vs,h1,o,es,ep,ho,hc,hd,λe h=>he.keys e (vX.mpr h),h2,by rw[PM h1];exact nd⟩
theorem zEa {k:Int}{v:V}{u r:Gg}{A:Around}{E:Gg->Gh->Prop}{Q:Unit->Gh->Prop}(I:gS X ω σ H s)(e:H a=Ga (.ext (pz a ws ep)))(nd:(ws.map (·.1)).Nodup)(hz:ws.length<=1000000)(ru:iA (.int k) u)(rv:iA v r)
  (h:∀ s' ep',gS X ω σ (upd H a (.ext (pz a (rB ws k v) ep'))) s'->Q () s'):wpAny (model X.prog X.w) A (setItem (.ref a) u r) Q E s:=by
 obtain⟨vs,rel,dd⟩:=Bz I e nd;obtain⟨t,rfl⟩:=ru;have hz':vs.length<=sizeLine:=by rw[<- rel.length,sizeLine_eq];exact jF hz (by decide)
 refine wpAny_setItem_pairs (knd:=intKind X.prog X.w) (hsz:=hz') (k:=k) (show vW k (.int k t)=true by simp[vW]) dd λh' dd' hs=>?_;obtain⟨o',es',ep',ho,hc,hd,hk,hp,_⟩:=dd';refine h _ ep' (Bs I (by rw[e];trivial) hs ⟨o',ho⟩ (QL ⟨o',es',ho,hc,hd,?_⟩));exact Rq (rel.put k rv) hp λe h=>hk e (vX.mp h)
end
theorem lg.length {K:jb}{F:Hp}:∀ {l:List (Int×D)} {m:List (Int×V)},lg K F l m->l.length=m.length
 | _,_,.nil=>rfl
 | _,_,.cons _ t=>congrArg JB t.length
theorem lg.nd {K:jb}{F:Hp}{l:List (Int×D)}{m:List (Int×V)}(r:lg K F l m)(ok:wj l):(m.map (·.1)).Nodup:=by rw[r.fst];exact ok.nd
theorem lg.le {K:jb}{F:Hp}{l:List (Int×D)}{m:List (Int×V)}(r:lg K F l m)(ok:wj l):m.length<=1000000:=by rw[<- r.length];exact ok.len
section
variable {X:Cx}{pos:Pos}
theorem zAd:PE X (.Dict [] [] pos) (λσ H Q=>∀ p,H p=Gb->(p==sysModules)=false->Q (.ref p) (upd H p (.ext (pz p [] 0)))):=λω s σ H Q I h =>
 wpAny_Dict_empty ⟨.ref s.heap.objs.size,_,I.laid (a:=s.heap.objs.size) (o:=.ext (pz s.heap.objs.size [] 0)) (t':=s.toks) (λ_ _ q=>jf _ q) (jm _) (QL ⟨_,#[],jy _ rfl,⟨rfl,rfl,rfl⟩,rfl,.nil⟩),rfl,
  h _ (I.hok.fresh (jm _)) (beq_eq_false_iff_ne.mpr (uo (jH I.big)))⟩
abbrev LD (i:Nat):FS:=λψ=>Ga (.nx (ψ.set i (.dki Gb [])))
theorem PC (i:Nat){x:Str}{p pos':Pos}(hN:X.N.Nodup)(hi:X.N[i]?=Ga x:=by rfl)(hx:wS X.env.scope x:=by first|exact k8 rfl|exact kJ rfl)
  (hs:swapsWith (.Dict [] [] p) (Ga (.Name x pos')) pos.line X.env=pure false:=by rfl) (hf:X.fn x=true\/X.env.scope.names.lookup x=Ga .local:=by first|exact .inl rfl|exact .inr rfl) :
  ot X (.Assign [.Name x pos'] (.Dict [] [] p) pos) (LD i):=by
 intro ω s σ H D I hw;refine yp hN hi hx zAd hs hf ω s σ H D I ?_;obtain⟨H0,F,ψ,o,r,e,p⟩:=hw;cases e;have hl:i<σ.length:=by rw[I.len];exact(jn.mp hi).1
 intro a ha sm;have g:gM H (upd H a (.ext (pz a [] 0))):=gM.new ha;exact p _ _ F (.refl _) (.refl _ _) ((r.later g).putG hl ⟨a,[],0,rfl,ij,r.fh.free ha,r.h0.free ha,.nil,sm,⟨uw,jT _⟩,λ_ z=>by cases z⟩ λj s o _ ej=>r.ne_free ha j s o ej)
def OF (td ty tv:TE):TS:=λD σ H=>tv σ H λv H1=>td σ H1 λx H2=>ty σ H2 λy H3=>∃ (a:Gj) (ws:List (Int×V)) (ep:Nat) (k:Int),x=.ref a/\y=.int k/\H3 a=Ga (.ext (pz a ws ep))/\(ws.map (·.1)).Nodup/\ws.length<=1000000 /\
 ∀ ep',D.nx σ (upd H3 a (.ext (pz a (rB ws k v) ep')))
theorem zCl {o i value:Expr}{pos':Pos}{td ty tv:TE}(ho:PE X o td)(hi:PE X i ty)(hv:PE X value tv)(hs:swapsWith value (Ga (.Subscript o i pos')) pos.line X.env=pure false) :
  PS X (.Assign [.Subscript o i pos'] value pos) (OF td ty tv):=by
 intro ω s σ H D I h;refine wpAny_Assign_Subscript (iR (hv ω s σ H _ I h) λr s1 ⟨v,H1,I1,rv,q1⟩=>iR (ho ω s1 σ H1 _ I1 q1) λu s2 ⟨x,H2,I2,rx,q2⟩=>iR (hi ω s2 σ H2 _ I2 q2) λiv s3 ⟨y,H3,I3,ry,a,ws,ep,k,ex,ey,g,nd,hz,q3⟩=>?_) hs;subst ex ey;obtain rfl:u=kP a:=rx;exact zEa I3 g nd hz ry rv λs4 ep' I4=>⟨σ,_,I4,q3 ep'⟩
def xG (i:Nat)(f g:FV):FS:=λψ=>(g ψ).bind λv=>(f ψ).bind λk=>match ψ[i]?,k with
 | some (.dki oa kvs),.int n=>if kvs.length<1000000 then Ga (.nx (ψ.set i (.dki oa (pP kvs n v)))) else Gb
 | _,_=>Gb
theorem SA (i:Nat){x:Str}{ke value:Expr}{f g:FV}{p p2:Pos}(hk:PV X ke f)(hval:PV X value g)(hN:X.N[i]?=Ga x:=by rfl)(hv:wo X.env.scope x:=by first|exact k8 rfl|exact kJ (k8 rfl)|exact kJ (kJ rfl))
  (hd:(x==("__debug__":Str))=false:=by decide) (hcd:(x==("__classdict__":Str))=false:=by decide)
  (hs:swapsWith value (Ga (.Subscript (.Name x p) ke p2)) pos.line X.env=pure false:=by rfl) :
  ot X (.Assign [.Subscript (.Name x p) ke p2] value pos) (xG i f g):=by
 refine sS (zCl (ph (pos:=p) hN hv hd hcd) hk hval hs) λE σ H=>?_;rintro⟨H0,F,ψ,o,r,e,p⟩;obtain⟨v,e0,e⟩:=gL e;obtain⟨k,e1,e2⟩:=gL e;clear e;split at e2;rotate_left
 .cases e2
 rename_i oa kvs n z;split at e2;rotate_left
 .cases e2
 rename_i c;cases e2;refine⟨H0,F,ψ,v,r,e0,λvv H1 F1 g1 f1 fh1 n1 rv=>?_⟩;have r1:=r.grow g1 f1 fh1 n1;obtain⟨u,x3,a,ws,ep,x4,ha1,fa,h0a,rr,sm,ok,ho⟩:=r1.sl i _ z;subst x4;refine⟨.ref a,x3,H0,F1,ψ,.int n,r1,e1,λkk H2 F2 g2 f2 fh2 n2 rk=>?_⟩;cases rk;have r2:=r1.grow g2 f2 fh2 n2;obtain⟨u,x5,a',ws',ep',x6,ha2,fa2,h0a2,rr2,sm2,ok2,ho2⟩:=r2.sl i _ z;subst x6;rw[x3] at x5;cases x5;refine⟨a,ws',ep',n,rfl,rfl,ha2,rr2.nd ok2,rr2.le ok2,λep2=>?_⟩;exact p σ _ F2 (f1.trans f2) (((n1.dn r.h0).up (n2.dn r1.h0))) (r2.chgG z rfl x3 ⟨a,_,ep2,rfl,ij,fa2,h0a2,rr2.put (rv.mono f2),sm2,zCk ok2 c,ho2⟩)
theorem ou.length:∀ {ws:List (Int×V)} {es:List DictEntry},ou ws es->es.length=ws.length
 | _,_,.nil=>rfl
 | _,_,.cons _ _ _ t=>congrArg JB t.length
theorem ou.get:∀ {ws:List (Int×V)} {es:List DictEntry} {i:Nat} {k:Int},ou ws es->(ws.map (·.1))[i]?=Ga k->∃ e t,es[i]?=Ga e/\e.key=.int k t
 | _,_,i,_,.nil,h=>by simp at h
 | _,_,0,_,.cons hk _ _ _,h=>by
  cases h;obtain⟨t,z⟩:=Jx hk;exact⟨_,t,rfl,z⟩
 | _,_,i+1,k,.cons _ _ _ t,h=>t.get (i:=i) (k:=k) h
def GB:List (D×D)->Option (List (Int×D))
 | []=>Ga []
 | (.int k,d)::r=>(GB r).bind λl=>Ga ((k,d)::l)
 | _=>Gb
def pH:D->Option (List (Int×D))
 | .dict ((.none,.none)::l)=>GB l
 | _=>Gb
theorem TQ:∀ kvs:List (Int×D),GB (kvs.map λp=>(jc p.1,p.2))=Ga kvs
 | []=>rfl
 | (k,d)::r=>by
  show(GB (r.map λp=>(jc p.1,p.2))).bind _=_;rw[TQ r];rfl
theorem CW (kvs:List (Int×D)):pH (rE kvs)=Ga kvs:=TQ kvs
theorem iM.int_dict {K:jb}{F:Hp}{d:D}{v:V}{kvs:List (Int×D)}(r:iM K F d v)(e:pH d=Ga kvs):∃ a ws ep,v=.ref a/\(a==sysModules)=false/\F a=Ga (.ext (pz a ws ep))/\wj kvs/\lg K F kvs ws:=by
 cases r with
 | @dci a kvs' ws ep hs h ok r =>
  have e':pH (rE kvs')=Ga kvs:=e;rw[CW] at e';cases e';exact⟨a,ws,ep,rfl,hs,h,ok,r⟩
 | @dic a ks as ep hs h ok r =>
  cases ks with
  | nil=>cases e
  | cons k r=>cases k<;>cases e
 | _=>cases e
def nD (kvs:List (Int×D))(k:Int):Option D:=(kvs.find? λp=>decide (p.1=k)).map (·.2)
theorem lg.at {K:jb}{F:Hp}(k:Int):∀ {l:List (Int×D)} {m:List (Int×V)},lg K F l m->(nD l k=Gb/\oU m k=Gb)\/∃ d v,nD l k=Ga d/\oU m k=Ga v/\iM K F d v
 | _,_,.nil=>.inl ⟨rfl,rfl⟩
 | (j,d)::l,(_,v)::m,.cons h t=>by
  unfold nD oU;by_cases c:j=k
  .exact .inr ⟨d,v,by rw[kz (p:=λ(p:Int×D)=>decide (p.1=k)) (Gc c)];rfl,by rw[kz (p:=λ(kv:Int×V)=>decide (kv.1=k)) (Gc c)];rfl,h⟩
  .rw[kx (p:=λ(p:Int×D)=>decide (p.1=k)) (by simpa using c),kx (p:=λ(kv:Int×V)=>decide (kv.1=k)) (by simpa using c)];exact t.at k
def yz (d:D):D->Option D
 | .int k=>(pH d).bind λkvs=>nD kvs k
 | _=>Gb
def Ox (d:D):D->Option D
 | .int k=>(pH d).bind λkvs=>Ga ((nD kvs k).getD .none)
 | _=>Gb
def zE (d k x:D):Option D:=match k with
 | .int k=>(pH d).bind λkvs=>Ga ((nD kvs k).getD x)
 | _=>Gb
def tw (k d:D):Option D:=match k with
 | .int k=>(pH d).bind λkvs=>Ga (.bool (!(nD kvs k).isSome))
 | _=>Gb
theorem FU {k:Int}{u:Gg}(r:iA (.int k) u):(intKind X.prog X.w).is k u=true:=by
 obtain⟨t,rfl⟩:=r;show vW k (.int k t)=true;simp[vW]
theorem Fk {a b:Expr}{f g:FV}(ha:PV X a f)(hb:PV X b g)(hs:Il b:=by exact λ_ _=>rfl):PV X (.Subscript a b pos) (ib yz f g):=by
 intro ω s σ H Q I hw;obtain⟨H0,F,ψ,d,r,e,q⟩:=hw;obtain⟨x,e1,e⟩:=gL e;obtain⟨y,e2,e⟩:=gL e;obtain⟨k,rfl⟩:∃ k:Int,y=.int k:=by cases y<;>first|(cases e;done)|exact⟨_,rfl⟩
 refine GY PySem.F.slot_dict_getitem.lookup hs (iR (ha ω s σ H (λv H1=>∃ F1,gM H H1/\gM F F1/\gM F1 H1/\lb F F1 H/\iM X.K F1 x v) I ⟨H0,F,ψ,x,r,e1,λv H1 F1 g1 f1 fh1 n1 rv=>⟨F1,g1,f1,fh1,n1,rv⟩⟩) λu s1 ⟨v,H1,I1,rx,F1,g1,f1,fh1,n1,rv⟩=>?_);refine iR (hb ω s1 σ H1 (λv2 H2=>∃ F2,gM H1 H2/\gM F1 F2/\gM F2 H2/\lb F1 F2 H1/\iM X.K F2 (.int k) v2) I1 ⟨H0,F1,ψ,.int k,r.grow g1 f1 fh1 n1,e2,λv2 H2 F2 g2 f2 fh2 n2 rv2=>⟨F2,g2,f2,fh2,n2,rv2⟩⟩) λu2 s2 ⟨v2,H2,I2,rx2,F2,g2,f2,fh2,n2,rv2⟩=>?_;cases rv2;obtain⟨kvs,e3,e4⟩:=gL (show(pH x).bind (λkvs=>nD kvs k)=Ga d from e);obtain⟨a,ws,ep,rfl,sm,fa,ok,rr⟩:=(rv.mono f2).int_dict e3;cases rx;obtain⟨vs,rel,dd⟩:=Bz I2 (fh2 _ _ fa) (rr.nd ok);rcases rr.at k with ⟨z1,z2⟩|⟨d',v',z1,z2,z3⟩
 .rw[z1] at e4;cases e4
 .rw[z1] at e4;cases e4;obtain⟨w',hw,rw'⟩:=rX.some_of (v:=v') (o:=valueAt vs k) (by rw[<- z2];exact rel.val k);exact⟨dd.typeIs,wpAny_getItem_of (FU rx2) dd.mapOf hw ⟨v',H2,I2.tok _,rw',q v' H2 F2 (g1.trans g2) (f1.trans f2) fh2 (n1.trans n2 g1) z3⟩⟩
theorem zAf:∀ a b d,tw a b=Ga d->∃ k,d=.bool k:=λa b d h=>by
 unfold tw at h;split at h
 .obtain⟨kvs,_,h⟩:=gL h;cases h;exact⟨_,rfl⟩
 .cases h
theorem zxN {K:jb}{F:Hp}{k:Int}{l:List (Int×D)}{m:List (Int×V)}{vs:List (Int×Gg)}(rr:lg K F l m)(rel:KV m vs):(valueAt vs k).isSome=(nD l k).isSome:=by
 rw[<- (rel.val k).isSome_eq];rcases rr.at k with ⟨z1,z2⟩|⟨d',v',z1,z2,z3⟩<;>rw[z1,z2]<;>rfl
theorem zCm:lU X (compareOp .NotIn) (xr X.K tw):=by
 intro ω s σ H x y v u Q I rx ry h;obtain⟨F,k,b,d,g,ra,rb,e,q⟩:=h;cases ra<;>first|(cases e;done)|skip
 rename_i k;obtain⟨kvs,e3,e4⟩:=gL (show(pH b).bind (λkvs=>Ga (jP (!(nD kvs k).isSome)))=Ga d from e);cases e4;obtain⟨a,ws,ep,rfl,sm,fa,ok,rr⟩:=rb.int_dict e3;cases ry;obtain⟨vs,rel,dd⟩:=Bz I (g _ _ fa) (rr.nd ok);refine wpAny_notIn_of (FU rx) sm dd.mapOf ?_;rw[zxN rr rel];exact⟨.bl _,H,I.tok _,rfl,q _ rfl⟩
theorem zEb {a b:Expr}{f g:FV}(ha:PV X a f)(hb:PV X b g)(hm:behindInMarks .NotIn b=false:=by first|rfl|with_unfolding_all rfl):PB X (.Compare a [.NotIn] [b] pos) (lh tw f g):=wO zCm (wU zAf) ha hb hm
end
section
variable {P:Program}{w:World}{K:jb}{mg:Str->Option Gg}{base:Heap}{x qual:Str}{st:Stmt}{f:Gj}{fd:Gi}{N ps:List Str}{k:Nat}{g:FS}
end
section
variable {X:Cx}{pos:Pos}
variable {k:Nat}{f:Gj}{fd:Gi}{ps:List Str}{x:Str}{p pc:Pos}{e:Expr}{es:List Expr}{g:FL}
end
section
variable {prog:Program}{w:World}{A:Around}{E:Gg->Gh->Prop}{s:Gh}
end
section
variable {X:Cx}{pos:Pos}
end
section
variable {prog:Program}{w:World}{A:Around}{R:Result->Gh->Prop}{s:Gh}
end
section
variable {X:Cx}{ω:List (Gj×Obj)}{σ:St}{H2:Hp}{s2:Gh}{elt iter tg:Expr}{x xb:Str}{px pos:Pos}{ifs:List Expr}{scope:Scope}{cl:List (Str×Gj)}{fr:List Str}{ix:List Nat}
end
abbrev tg2:FT:=Km (tR (mf 0) (tR (mf 1) Cr))
section
variable {X:Cx}{elt iter tg:Expr}{x xb:Str}{px pxb pt pos:Pos}{tk:Nat}{ifs:List Expr}{scope:Scope}{fr:List Str}{ix:List Nat}{fi:FL}{fc:FB}{fe:FV}
structure Iv (X:Cx)(scope:Scope)(tg:Expr)(x xb:Str)(fr:List Str)(ifs:List Expr)(elt:Expr)(fc:FB)(fe:FV):Prop where
 h:∀ cl C s H fp ω,wY (mq X scope cl C (x::xb::fr) s H fp ω) tg tg2 /\
  HY (mq X scope cl C (x::xb::fr) s H fp ω) ifs (yF X.K ifs fc)/\PV (mq X scope cl C (x::xb::fr) s H fp ω) elt fe
 hn:ifs=[]->fc=λ_=>Ga true
theorem Iv.tc (B:Iv X scope tg x xb fr ifs elt fc fe):∀ σ H Q,tT X.K fc σ H Q->yF X.K ifs fc σ H Q:=by
 intro σ H Q h;cases ifs with
 | nil =>
  obtain⟨H0,F,ψ,b,r,e,q⟩:=h;rw[B.hn rfl] at e;cases e;exact q H (.refl _)
 | cons c r=>exact h
end
abbrev Vw (op:D->D->D->Option D)(f g h:FV):FV:=λψ=>(f ψ).bind λx=>(g ψ).bind λy=>(h ψ).bind λz=>op x y z
def DW:D->D->Option D:=tQ λi j=>.int (vE i j)
def Cq:D->Option D
 | .int i=>Ga (.int (if i<0 then -i else i))
 | _=>Gb
section
variable {X:Cx}{pos:Pos}
theorem VA {a b:Expr}{f g:FV}(ha:PV X a f)(hb:PV X b g):PV X (.BinOp a .BitXor b pos) (λψ=>(f ψ).bind λx=>(g ψ).bind λy=>DW x y):=tu ME (pK λ_ _ _=>.int _) ha hb
theorem Xb:my X (.builtin "abs") (λxs H Q=>∃ i:Int,xs=[.int i]/\Q (.int (if i<0 then -i else i)) H):=by
 intro ω s σ H xs us Q I r h;obtain⟨i,rfl,q⟩:=h;obtain⟨u,rfl,ru⟩:=oT r;obtain⟨t,rfl⟩:=ru;exact call_abs_int λu tk=>⟨.int _,H,I.tok _,⟨_,rfl⟩,q⟩
theorem XO {e:Expr}{f:FV}{p:Pos}(hg:Gl X "abs")(hm:X.mg "abs"=Gb)(ha:PV X e f)(hs:starEach [e] X.env=[(false,eval e X.env)]:=by rfl):PV X (.Call (.Name "abs" p) [e] [] pos) (un Cq f):=by
 refine mn (xW Xb hg hm boot_abs ha (hs:=hs)) λσ H Q=>?_;rintro⟨H0,F,ψ,d,r,e,q⟩;obtain⟨d',e1,e⟩:=gL e;refine⟨H0,F,ψ,d',r,e1,λv H1 F1 g1 f1 fh1 n1 rv=>?_⟩;cases rv<;>first|(cases e;done)|skip
 cases e;exact⟨_,rfl,q _ H1 F1 g1 f1 fh1 n1 (.int _)⟩
theorem Qe {ω:List (Gj×Obj)}{σ:St}{H:Hp}{s:Gh}{a:Gj}{ws:List (Int×V)}{ep:Nat}(I:gS X ω σ H s)(e:H a=Ga (.ext (pz a ws ep)))(nd:(ws.map (·.1)).Nodup) :
  s.TypeIs (.ref a) "dict"/\∀ b,kP a=.ref b->∃ ob,s.heap.get? b=Ga ob/\ob.dict=Gb:=by
 obtain⟨vs,rel,dd⟩:=Bz I e nd;refine⟨dd.typeIs,λb q=>?_⟩;cases q;obtain⟨ob,_,_,h1,h2,_⟩:=dd;exact⟨ob,h1,h2.2.1⟩
theorem zGW {o e:Expr}{fo fe:FV}{apos cpos:Pos}(ho:PV X o fo)(he:PV X e fe)(m:M1 X o "get" apos e cpos:=by exact⟨rfl,rfl,rfl,rfl⟩):PV X (.Call (.Attribute o "get" apos) [e] [] cpos) (ib Ox fo fe):=by
 intro ω s σ H Q I hw;obtain⟨H0,F,ψ,d,r,e0,q⟩:=hw;obtain⟨x,e1,e0⟩:=gL e0;obtain⟨y,e2,e0⟩:=gL e0;obtain⟨k,rfl⟩:∃ k:Int,y=.int k:=by cases y<;>first|(cases e0;done)|exact⟨_,rfl⟩
 obtain⟨kvs,e3,e4⟩:=gL (show(pH x).bind (λkvs=>Ga ((nD kvs k).getD .none))=Ga d from e0);cases e4;refine wpAny_Call_method m.base m.few m.line qA u5 qY (iR (ho ω s σ H (λv H1=>∃ F1,gM H H1/\gM F F1/\gM F1 H1/\lb F F1 H/\iM X.K F1 x v) I ⟨H0,F,ψ,x,r,e1,λv H1 F1 g1 f1 fh1 n1 rv=>⟨F1,g1,f1,fh1,n1,rv⟩⟩) λu s1 ⟨v,H1,I1,rx,F1,g1,f1,fh1,n1,rv⟩=>?_);obtain⟨a,ws,ep,rfl,sm,fa,ok,rr⟩:=rv.int_dict e3;cases rx;obtain⟨t1,t2⟩:=Qe I1 (fh1 _ _ fa) (rr.nd ok);refine⟨t1,t2,?_⟩;rw[m.trees];refine uT rfl (uX (uS (iR (he ω s1 σ H1 (λv2 H2=>∃ F2,gM H1 H2/\gM F1 F2/\gM F2 H2/\lb F1 F2 H1/\iM X.K F2 (.int k) v2) I1 ⟨H0,F1,ψ,.int k,r.grow g1 f1 fh1 n1,e2,λv2 H2 F2 g2 f2 fh2 n2 rv2=>⟨F2,g2,f2,fh2,n2,rv2⟩⟩) λu2 s2 ⟨v2,H2,I2,rx2,F2,g2,f2,fh2,n2,rv2⟩=>vF ?_)));cases rv2;obtain⟨vs,rel,dd⟩:=Bz I2 (fh2 _ _ (f2 _ _ fa)) (rr.nd ok);refine call_meetsIn u5 dd.typeIs qK (PySem.F.args_dict_get_2 _ _) (meets_dict_get (intKind X.prog X.w) a (FU rx2) sm) ⟨_,dd.mapOf,?_⟩;have rr2:=rr.mono f2;rcases rr2.at k with ⟨z1,z2⟩|⟨d',v',z1,z2,z3⟩
 .rw[z1] at q;have:=rel.val k;rw[z2] at this;exact⟨_,H2,I2.tok _,this.getD (d:=.non) (d':=.none) rfl,q .non H2 F2 (g1.trans g2) (f1.trans f2) fh2 (n1.trans n2 g1) .non⟩
 .rw[z1] at q;have:=rel.val k;rw[z2] at this;exact⟨_,H2,I2.tok _,this.getD (d:=.non) (d':=.none) rfl,q v' H2 F2 (g1.trans g2) (f1.trans f2) fh2 (n1.trans n2 g1) z3⟩
theorem PP {o e f:Expr}{fo fe ff:FV}{apos cpos:Pos}(ho:PV X o fo)(he:PV X e fe)(hf:PV X f ff)(m:M2 X o "get" apos e f cpos:=by exact⟨rfl,rfl,rfl,rfl⟩):PV X (.Call (.Attribute o "get" apos) [e,f] [] cpos) (Vw zE fo fe ff):=by
 intro ω s σ H Q I hw;obtain⟨H0,F,ψ,d,r,e0,q⟩:=hw;obtain⟨x,e1,e0⟩:=gL e0;obtain⟨y,e2,e0⟩:=gL e0;obtain⟨z,ez,e0⟩:=gL e0;obtain⟨k,rfl⟩:∃ k:Int,y=.int k:=by cases y<;>first|(cases e0;done)|exact⟨_,rfl⟩
 obtain⟨kvs,e3,e4⟩:=gL (show(pH x).bind (λkvs=>Ga ((nD kvs k).getD z))=Ga d from e0);cases e4;refine wpAny_Call_method m.base m.few m.line qA u5 qY (iR (ho ω s σ H (λv H1=>∃ F1,gM H H1/\gM F F1/\gM F1 H1/\lb F F1 H/\iM X.K F1 x v) I ⟨H0,F,ψ,x,r,e1,λv H1 F1 g1 f1 fh1 n1 rv=>⟨F1,g1,f1,fh1,n1,rv⟩⟩) λu s1 ⟨v,H1,I1,rx,F1,g1,f1,fh1,n1,rv⟩=>?_);obtain⟨a,ws,ep,rfl,sm,fa,ok,rr⟩:=rv.int_dict e3;cases rx;obtain⟨t1,t2⟩:=Qe I1 (fh1 _ _ fa) (rr.nd ok);refine⟨t1,t2,?_⟩;rw[m.trees];have r1:=r.grow g1 f1 fh1 n1;refine uT rfl (uX (uS (iR (he ω s1 σ H1 (λv2 H2=>∃ F2,gM H1 H2/\gM F1 F2/\gM F2 H2/\lb F1 F2 H1/\iM X.K F2 (.int k) v2) I1 ⟨H0,F1,ψ,.int k,r1,e2,λv2 H2 F2 g2 f2 fh2 n2 rv2=>⟨F2,g2,f2,fh2,n2,rv2⟩⟩) λu2 s2 ⟨v2,H2,I2,rx2,F2,g2,f2,fh2,n2,rv2⟩ =>
  uS (iR (hf ω s2 σ H2 (λv3 H3=>∃ F3,gM H2 H3/\gM F2 F3/\gM F3 H3/\lb F2 F3 H2/\iM X.K F3 z v3) I2 ⟨H0,F2,ψ,z,r1.grow g2 f2 fh2 n2,ez,λv3 H3 F3 g3 f3 fh3 n3 rv3=>⟨F3,g3,f3,fh3,n3,rv3⟩⟩) λu3 s3 ⟨v3,H3,I3,rx3,F3,g3,f3,fh3,n3,rv3⟩=>vF ?_))))
 cases rv2;obtain⟨vs,rel,dd⟩:=Bz I3 (fh3 _ _ (f3 _ _ (f2 _ _ fa))) (rr.nd ok);refine call_meetsIn u5 dd.typeIs qK (PySem.F.args_dict_get_3 _ _ _) (meets_dict_get_default (intKind X.prog X.w) a (FU rx2) sm u3) ⟨_,dd.mapOf,?_⟩;have rr2:=(rr.mono f2).mono f3;have gg:=(g1.trans g2).trans g3;have ff:=(f1.trans f2).trans f3;have nn:=(n1.trans n2 g1).trans n3 (g1.trans g2);rcases rr2.at k with ⟨z1,z2⟩|⟨d',v',z1,z2,z3⟩
 .rw[z1] at q;have:=rel.val k;rw[z2] at this;exact⟨_,H3,I3.tok _,this.getD (d:=v3) (d':=u3) rx3,q v3 H3 F3 gg ff fh3 nn rv3⟩
 .rw[z1] at q;have:=rel.val k;rw[z2] at this;exact⟨_,H3,I3.tok _,this.getD (d:=v3) (d':=u3) rx3,q v' H3 F3 gg ff fh3 nn z3⟩
theorem zvD:yO X "list.extend" (λx vs H Q=>∃ l b xs zs,x=.ref l/\vs=[.ref b]/\H l=Ga (.lst xs)/\lH X.K H b zs/\xs.length+zs.length<=1000000/\Q .non (upd H l (.lst (xs++zs)))):=by
 intro ω s σ H x vs v us Q I rx rv h;obtain⟨l,b,xs,zs,rfl,rfl,hH,hB,hz,q⟩:=h;cases rx;obtain⟨u,rfl,ru⟩:=rv.one;cases ru;obtain⟨z,its,n,r,hl,e⟩:=I.lstM hH;obtain⟨its2,r2,⟨o2,n2,e2,c2,k2,d2⟩,z2⟩:=I.list hB;have hl2:=r2.length;have hsz:its.length+its2.length<=sizeLine:=by rw[sizeLine_eq];omega
 refine wpAny_call_entry qr ⟨_,e,rfl⟩ PySem.F.entry_list_extend ?_ (PySem.F.args_list_extend_2 _ _);show wpAny _ _ (j4 (.ref l) (.ref b) .none) _ _ s;unfold j4;refine gI (wpAny_typeOf (T:="list") ⟨o2,e2,c2⟩ ?_);rw[Ge (by simp)];refine gI (listItems_at e2 d2 ?_);refine gI (listItems_at e rfl ?_);rw[Gf (by
  rw[show vo (its.toArray.size+its2.toArray.size)=false from Ec (by rw[jl,jl];exact hsz),ud];exact jr)]
 refine gI (listUpdate_at e rfl ?_ (by rw[jl];omega) (by rw[JG,jl,jl];omega));refine gJ ?_;exact⟨_,rfl,.non,_,I.lset (t':=s.toks) (its':=its++its2) hH e (by simp) (r.append r2) (by rw[ju];omega),rfl,q⟩
def tz (ds es:List D):Option (List D):=if ds.length+es.length<=1000000 then Ga (ds++es) else Gb
abbrev Ed (i:Nat)(f:FV):FS:=λψ=>(go i ψ).bind λds=>(f ψ).bind λd=>(yi d).bind λes=>(tz ds es).bind λrs=>Ga (.nx (ψ.set i (.own rs)))
theorem zZ (i:Nat){x:Str}{e:Expr}{f:FV}{p p2 p3:Pos}(h:PV X e f)(hN:X.N[i]?=Ga x:=by rfl)(hv:wo X.env.scope x:=by first|exact k8 rfl|exact kJ (k8 rfl)|exact kJ (kJ rfl))
  (hst:starEach [e] X.env=[(false,eval e X.env)]:=by rfl) (hline:(p2.endLine==p3.line)=true:=by rfl)
  (hd:(x==("__debug__":Str))=false:=by decide) (hcd:(x==("__classdict__":Str))=false:=by decide)
  (hs:swapsWith (.Call (.Attribute (.Name x p) "extend" p2) [e] [] p3) Gb pos.line X.env=pure false:=by rfl) :
  ot X (.Expr (.Call (.Attribute (.Name x p) "extend" p2) [e] [] p3) pos) (Ed i f):=by
 refine sS (BA (GL qx qr PySem.F.type_list_extend zvD (ph (pos:=p) hN hv hd hcd) (lN h og hst) rfl (by rw[hst];rfl) hline hst rfl) hs) λE σ H=>?_;rintro⟨H0,F,ψ,o,r,e,p⟩;obtain⟨ds,e1,e⟩:=gL e;obtain⟨d,e2,e⟩:=gL e;obtain⟨es,e3,e⟩:=gL e;obtain⟨rs,e4,e⟩:=gL e;cases e;cases QI e3;unfold tz at e4;split at e4;rotate_left
 .cases e4
 rename_i hz;cases e4;unfold go at e1;split at e1;rotate_left
 .cases e1
 rename_i ds' z;cases e1;obtain⟨u,e3,a,xs,e4,ha,fa,h0a,rr⟩:=r.sl i _ z;subst e4;refine⟨.ref a,e3,.inl ⟨rfl,xs,lH.of ha⟩,H0,F,ψ,.list es,r,e2,λv H' F' g f1 fh n rv=>?_⟩;have r2:=r.grow g f1 fh n;obtain⟨u2,e5,a2,xs2,e6,ha2,fa2,h0a2,rr2⟩:=r2.sl i _ z;rw[e3] at e5;cases e5;cases e6;cases rv with
 | lst hb rb =>
  refine⟨a,_,xs2,_,rfl,rfl,ha2,fh.seq hb,?_,?_⟩
  .rw[<- rr2.length,<- rb.length];exact hz
  .exact p σ _ F' f1 (n.dn r.h0) (r2.chg z e3 (rr2.append rb))
end
section
variable {prog:Program}{w:World}{A:Around}{E:Gg->Gh->Prop}{s:Gh}{vs:List Gg}
theorem ztE {l:Gj}{Q:List Gg->Gh->Prop}(hl:IsTup s.heap l vs.toArray)
  (h:∀ h',(∀ b o,s.heap.get? b=Ga o->h'.get? b=Ga o)->(∃ o,h'.get? s.heap.objs.size=Ga o)->Q vs { s with heap:=h' }) (hsz:vs.length<=sizeLine) :
  wpAny (model prog w) A (collect (.ref l)) Q E s:=by
 obtain⟨o,ho,hc,n,hd⟩:=id hl;unfold collect;refine gI (wpAny_runValue (codeAny_builtin entry_proto_collect' ?_));show wpAny _ _ (do again (.builtin "list.__iadd__" ⟨[<- newList [],.ref l],[]⟩)) _ _ s;refine gI (wpAny_newList (gJ ⟨Code.quiet_builtin _ (by nofun),codeAny_builtin entry_list_iadd' ?_⟩));show wpAny _ _ (j4 (.ref s.heap.objs.size) (.ref l) (.ref s.heap.objs.size)) _ _ { s with heap:=s.heap.push (seqObj "list" #[] 0) };unfold j4;have ho':(s.heap.push (seqObj "list" #[] 0)).get? l=Ga o:=jf _ ho;refine gI (wpAny_typeOf (T:="tuple") ⟨o,ho',hc⟩ ?_);rw[Ge (by simp)];refine gI (listItems_at ho' hd ?_);refine gI (listItems_at (xs:=#[]) (n:=0) (jy _ rfl) rfl ?_);rw[Gf (by simp)];refine gI (listUpdate_at (xs:=#[]) (n:=0) (jy _ rfl) rfl ?_ (jT _) (by show(#[]++vs.toArray).size<=sizeLine+1;simp only[JG,jl,vt];omega));refine gJ ?_;show wpAny (model prog w) A (do
   let o <- load s.heap.objs.size
   match o.data with
   | .seq xs _=>pure xs.toList
   | _=>unsupported "internal:collect") Q E { s with heap:=(s.heap.push (seqObj "list" #[] 0)).update s.heap.objs.size (kg (·++vs.toArray)) }
 refine gI (wpAny_load (get?_update_seq (jy _ rfl) _) ?_);show wpAny _ _ (pure ((#[]:Array Gg)++vs.toArray).toList) Q E _;rw[show((#[]:Array Gg)++vs.toArray).toList=vs by simp];refine gJ (h _ (λb o hb=>?_) ⟨_,get?_update_seq (jy _ rfl) _⟩);exact(kW _ _ (vf (jp hb))).trans (jf _ hb)
theorem PJ {v:Gg}{out:List Gg}{Q:Gg->Gh->Prop}(hz:vs.length<64)
  (hcol:∀ (A':Around) (Q':List Gg->Gh->Prop) (E':Gg->Gh->Prop),A'.handled=A.handled->(∀ h' tk,(∀ b o,s.heap.get? b=Ga o->h'.get? b=Ga o)->(∃ o,h'.get? s.heap.objs.size=Ga o)->Q' vs { s with heap:=h',toks:=tk })->wpAny (model prog w) A' (collect v) Q' E' s)
  (hs:∀ (s1:Gh) (a n:Nat) (P:JP->Gh->Prop) (E':Gg->Gh->Prop),(∀ b o,s.heap.get? b=Ga o->s1.heap.get? b=Ga o)->s.heap.objs.size<=a->s1.heap.get? a=Ga (seqObj "list" vs.toArray n) ->
   (∀ h' c,(∀ b o,b≠a->s1.heap.get? b=Ga o->h'.get? b=Ga o)->h'.get? a=Ga (seqObj "list" out.toArray c)->P (.done (.ret .none)) { s1 with heap:=h' }) ->
   wpAny (model prog w) A.in1.in1 (Builtin.«list.sort» ⟨[.ref a],[]⟩) P E' s1)
  (h:∀ h' tk a c,(∀ b o,s.heap.get? b=Ga o->h'.get? b=Ga o)->s.heap.objs.size<=a->h'.get? a=Ga (seqObj "list" out.toArray c)->Q (.ref a) { s with heap:=h',toks:=tk }) :
  wpAny (model prog w) A (call (.builtin "sorted") [v]) Q E s:=by
 have sl:vs.length<=sizeLine:=by rw[sizeLine_eq];omega
 refine qj kind_sorted plain_sorted entry_sorted (args_sorted1 _) ?_;unfold Builtin.«sorted»;refine gI (m:=checkCount "sorted" 1 1 _) (gJ (gI (hcol _ _ _ rfl λh1 tk k1 t1=>gI (wpAny_newList ?_ sl))));obtain⟨o1,ho1⟩:=t1;have hsz:s.heap.objs.size<=h1.objs.size:=uk (jp ho1);have hoL:(h1.push (seqObj "list" vs.toArray 0)).get? h1.objs.size=Ga (seqObj "list" vs.toArray 0):=jy _ rfl;have keep:∀ b o,s.heap.get? b=Ga o->(h1.push (seqObj "list" vs.toArray 0)).get? b=Ga o:=λb o q=>jf _ (k1 b o q);refine gI (wpAny_holding (wpAny_call_entry slot_list_sort ⟨_,hoL,rfl⟩ entry_list_sort ?_ (args_list_sort _)));refine hs { s with heap:=h1.push (seqObj "list" vs.toArray 0),toks:=tk } h1.objs.size 0 _ _ keep hsz hoL λh' c kk hc=>⟨_,rfl,gJ ⟨_,rfl,h h' tk h1.objs.size c (λb o e=>kk b o (jH (jB (jp e) hsz)) (keep b o e)) hsz hc⟩⟩
end
section
variable {P:Program}{w:World}{K:jb}{mg:Str->Option Gg}{base:Heap}{f:Gj}{fd:Gi}{ps:List Str}{k:Nat}
theorem Ur:hV P w K mg base io k f fd ps (tJ K λ_=>Gb):=by
 have no:∀ vs H Q E,¬tJ K (λ_=>Gb) vs H Q E:=λvs H Q E h=>by obtain⟨_,_,_,_,_,e,_⟩:=h;cases e
 exact⟨λvs H Q E h=>absurd h (no vs H Q E),λA outer s H args us vs Q E _ _ _ _ h=>absurd h (no vs H Q E)⟩
end
section
variable {X:Cx}{pos:Pos}
theorem zxQ {ω:List (Gj×Obj)}{σ:St}{H:Hp}{s:Gh}{v:Gg}{F:Hp}{ds rs:List D}{xs:List V}{its:List Gg}{Q:VK}(I:gS X ω σ H s)(g:gM F H)(rv:ip xs its)(rr:ia X.K F ds xs)(e:nt ds=Ga rs)
  (hcol:∀ (A':Around) (Q':List Gg->Gh->Prop) (E':Gg->Gh->Prop),A'.handled=X.A.handled->(∀ h' tk,(∀ b o,s.heap.get? b=Ga o->h'.get? b=Ga o)->(∃ o,h'.get? s.heap.objs.size=Ga o)->Q' its { s with heap:=h',toks:=tk })->wpAny (model X.prog X.w) A' (collect v) Q' E' s)
  (q:∀ a ys,H a=Gb->ia X.K F rs ys->Q (.ref a) (upd H a (.lst ys))):wpAny (model X.prog X.w) X.A (call (.builtin "sorted") [v]) (EP X ω σ Q) X.xe s:=by
 have hlen:ds.length=its.length:=rr.length.trans rv.length;have fin:∀ (out:List Gg) (ys:List V) (h':Heap) (tk:Nat) (a c:Nat),ip ys out->out.length<=sizeLine->ia X.K F rs ys->(∀ b o,s.heap.get? b=Ga o->h'.get? b=Ga o)->s.heap.objs.size<=a->h'.get? a=Ga (seqObj "list" out.toArray c) ->
   EP X ω σ Q (.ref a) { s with heap:=h',toks:=tk }:=λout ys h' tk a c rvo hz2 rro k ha hc =>
  ⟨.ref _,_,I.laid (t':=tk) (o:=.lst ys) k ha ⟨by rw[rvo.length];exact hz2,out,c,rvo,hc⟩,rfl,q _ ys (I.hok.fresh ha) rro⟩
 unfold nt at e;split at e
 .rename_i hs;cases e;refine PJ (out:=its) (by omega) hcol (λs1 a n P E' k ha ho hP=>Sf ho (by omega) λh' c kk hc=>hP h' c kk hc) λh' tk a c k ha hc=>fin its xs h' tk a c rv (by rw[sizeLine_eq];omega) rr k ha hc
 .rename_i hs;split at e
  .rename_i ok;rw[jA,decide_eq_true_eq] at ok;obtain⟨pm,e1,e2⟩:=gL e;split at e2;rotate_left
   .cases e2
   rename_i hpm;cases e2;have h2:2<=its.length:=by omega
   rw[hlen] at e1;refine PJ (out:=pm.toList.map λi=>its.getD i kr) (by omega) hcol (λs1 a n P E' k ha ho hP=>Qs ho h2 (by omega) e1 (λs2 k2=>Pu I g rv rr h2 ok.2 λb o eb=>k2 b o (jH (jB (jp eb) ha)) (k b o eb)) λh' c kk hc=>hP h' c kk hc) λh' tk a c k ha hc=>?_;refine fin _ (pm.toList.map λi=>xs.getD i .non) h' tk a c ?_ ?_ ?_ k ha hc
   .have:∀ l:List Nat,ip (l.map λi=>xs.getD i V.non) (l.map λi=>its.getD i kr):=λl=>by
     induction l with
     | nil=>exact .nil
     | cons i l ih =>
      refine .cons ?_ ih;dsimp only;rw[jg,jg];cases hx:xs[i]? with
      | none=>rw[rv.none_of hx];rfl
      | some v=>obtain⟨u,e,r⟩:=rv.get hx;rw[e];exact r
    exact this _
   .rw[jd,ki,sizeLine_eq];omega
   .have:∀ l:List Nat,ia X.K F (l.map λi=>ds.getD i .none) (l.map λi=>xs.getD i V.non):=λl=>by
     induction l with
     | nil=>exact .nil
     | cons i l ih =>
      refine .cons ?_ ih;dsimp only;rw[jg,jg];cases hx:ds[i]? with
      | none =>
       have:xs[i]?=Gb:=kf (by rw[<- rr.length];exact uy.mp hx);rw[this];exact .non
      | some d=>obtain⟨v,e,r⟩:=rr.get hx;rw[e];exact r
    exact this _
  .cases e
theorem zvE:my X (.builtin "sorted") (λvs H Q=>∃ F ds rs p xs,vs=[.ref p]/\gM F H/\mU X.K H p xs/\ia X.K F ds xs/\nt ds=Ga rs/\∀ a ys,H a=Gb->ia X.K F rs ys->Q (.ref a) (upd H a (.lst ys))):=by
 intro ω s σ H vs us Q I r h;obtain⟨F,ds,rs,p,xs,rfl,g,hl,rr,e,q⟩:=h;obtain⟨u,rfl,ru⟩:=oT r;cases ru;obtain⟨its,rv,pl,hz⟩:=I.tuple hl;exact zxQ I g rv rr e (λA' Q' E' _ k=>ztE pl (λh' k1 k2=>k h' s.toks k1 k2) (by rw[<- rv.length];exact hz)) q
theorem zxR {e:Expr}{f:FV}{p pos:Pos}(hg:Gl X "sorted")(hm:X.mg "sorted"=Gb)(ha:PV X e f)(hs:starEach [e] X.env=[(false,eval e X.env)]:=by rfl):PO X (.Call (.Name "sorted" p) [e] [] pos) (Cs (Xg f)):=by
 refine mn (xW zvE hg hm boot_sorted ha (hs:=hs)) λσ H Q=>?_;rintro⟨H0,F,ψ,rs,r,e,q⟩;obtain⟨ds,e1,e⟩:=gL e;obtain⟨d,e2,e3⟩:=gL e1;cases Rk e3;refine⟨H0,F,ψ,.tuple ds,r,e2,λv H1 F1 g1 f1 fh1 n1 rv=>?_⟩;cases rv with
 | tup hl rr =>
  refine⟨F1,ds,rs,_,_,rfl,fh1,nK fh1 hl,rr,e,λa ys ha ry=>?_⟩;have s2:gM H1 (upd H1 a (.lst ys)):=gM.new ha;exact q a ys _ F1 (g1.trans s2) f1 (fh1.trans s2) n1 (g1.free ha) (fh1.free ha) ij ry
end
section
variable {X:Cx}{pos:Pos}
variable {k:Nat}{f:Gj}{fd:Gi}{ps:List Str}{x y:Str}{p p' pc:Pos}{e:Expr}{es:List Expr}{g:FL}
end
section
variable {X:Cx}{pos:Pos}{a b:Expr}{f g:FV}
end
section
variable {X:Cx}
end
def butC (H:Hp)(cs:List Gj):Hp:=λb=>if b∈cs then Gb else H b
theorem Aw {H:Hp}{cs:List Gj}{b:Gj}(h:b∈cs):butC H cs b=Gb:=Ge h
theorem nX {H:Hp}{cs:List Gj}{b:Gj}(h:b∉cs):butC H cs b=H b:=Gf h
theorem Fh {H:Hp}{cs:List Gj}{b:Gj}{o:HO}(h:butC H cs b=Ga o):b∉cs/\H b=Ga o:=by
 by_cases hb:b∈cs
 .rw[Aw hb] at h;cases h
 .rw[nX hb] at h;exact⟨hb,h⟩
def putC (G H:Hp)(cs:List Gj):Hp:=λb=>if b∈cs then G b else H b
theorem Cz {G H:Hp}{cs:List Gj}{b:Gj}(h:b∈cs):putC G H cs b=G b:=Ge h
theorem xj {G H:Hp}{cs:List Gj}{b:Gj}(h:b∉cs):putC G H cs b=H b:=Gf h
def OO (H:Hp)(c:Gj):Prop:=∃ o v,H c=Ga (.frz o (.own c))/\o.data=.cell v
def mE (H:Hp)(cs:List Gj):Prop:=∀ c∈cs,OO H c
theorem MY {H:Hp}{cs:List Gj}(m:mE H cs){l:List Gg}(g:ls H l):ls (butC H cs) l :=
 ⟨g.1,λpos cv e=>by
  obtain⟨c,o,vs,v,e1,e2,e3,e4⟩:=g.2 pos cv e;refine⟨c,o,vs,v,e1,?_,e3,e4⟩;rw[nX λz=>?_]
  .exact e2
  .obtain⟨o',v',h1,h2⟩:=m c z;rw[e2] at h1;cases h1;rw[e3] at h2;cases h2⟩
theorem Di {G H:Hp}{cs:List Gj}(n:∀ c∈cs,H c=Gb):∀ c o,H c=Ga o->putC G H cs c=Ga o:=λc o h=>by
 rw[xj λz=>by rw[n c z] at h;cases h];exact h
theorem gM.withC {H H':Hp}{cs:List Gj}(m:mE H cs)(s:gM (butC H cs) H')(n:∀ c∈cs,H' c=Gb):gM H (putC H H' cs):=λb o h=>by
 by_cases hb:b∈cs
 .rw[Cz hb];obtain⟨o',v',h1,_⟩:=m b hb;rw[h1] at h;cases h;exact h1
 .rw[xj hb];exact((s b o (by rw[nX hb];exact h)).from λ_ z=>MY m z).to λ_ z=>z.sub (Di n)
theorem gM.withC2 {F' H' F H:Hp}{cs:List Gj}(mF:mE F cs)(e:∀ c∈cs,F c=H c)(s:gM F' H')(nF:∀ c∈cs,F' c=Gb)(n:∀ c∈cs,H' c=Gb):gM (putC F F' cs) (putC H H' cs):=λb o h=>by
 by_cases hb:b∈cs
 .rw[Cz hb] at h ⊢;obtain⟨o',v',h1,_⟩:=mF b hb;rw[h1] at h;cases h;rw[<- e b hb];exact h1
 .rw[xj hb] at h ⊢;refine((s b o h).from λl z=>?_).to λ_ z=>z.sub (Di n);refine⟨z.1,λpos cv e=>?_⟩;obtain⟨c,x,vs,v,e1,e2,e3,e4⟩:=z.2 pos cv e;refine⟨c,x,vs,v,e1,?_,e3,e4⟩;rw[xj λq=>?_] at e2
  .exact e2
  .rw[Cz q] at e2;obtain⟨o',v',h1,h2⟩:=mF c q;rw[e2] at h1;cases h1;rw[e3] at h2;cases h2
mutual
theorem iM.butC {K:jb}{F:Hp}{cs:List Gj}(m:mE F cs):∀ {d:D} {v:V},iM K F d v->iM K (T3.butC F cs) d v
 | _,_,.non=>.non
 | _,_,.bl b=>.bl b
 | _,_,.int i=>.int i
 | _,_,.str x=>.str x
 | _,_,.tup h r=>.tup (by
   rcases h with (h|⟨o,h⟩)|h
   .exact .inl (.inl (by rw[nX λz=>by obtain⟨o',v',h1,_⟩:=m _ z;rw[h] at h1;cases h1];exact h))
   .exact .inl (.inr ⟨o,by rw[nX λz=>by obtain⟨o',v',h1,_⟩:=m _ z;rw[h] at h1;cases h1];exact h⟩)
   .exact .inr h) (ia.butC m r)
 | _,_,.lst h r=>.lst (by
   rcases h with (h|⟨o,h⟩)|h
   .exact .inl (.inl (by rw[nX λz=>by obtain⟨o',v',h1,_⟩:=m _ z;rw[h] at h1;cases h1];exact h))
   .exact .inl (.inr ⟨o,by rw[nX λz=>by obtain⟨o',v',h1,_⟩:=m _ z;rw[h] at h1;cases h1];exact h⟩)
   .exact .inr h) (ia.butC m r)
 | _,_,.dic hs h ok r=>.dic hs (by rw[nX λz=>by obtain⟨o',v',h1,_⟩:=m _ z;rw[h] at h1;cases h1];exact h) ok (ia.butC m r)
 | _,_,.dci hs h ok r=>.dci hs (by rw[nX λz=>by obtain⟨o',v',h1,_⟩:=m _ z;rw[h] at h1;cases h1];exact h) ok (lg.butC m r)
theorem ia.butC {K:jb}{F:Hp}{cs:List Gj}(m:mE F cs):∀ {ds:List D} {vs:List V},ia K F ds vs->ia K (T3.butC F cs) ds vs
 | _,_,.nil=>.nil
 | _,_,.cons h t=>.cons (iM.butC m h) (ia.butC m t)
theorem lg.butC {K:jb}{F:Hp}{cs:List Gj}(m:mE F cs):∀ {l:List (Int×D)} {w:List (Int×V)},lg K F l w->lg K (T3.butC F cs) l w
 | _,_,.nil=>.nil
 | _,_,.cons h t=>.cons (iM.butC m h) (lg.butC m t)
end
theorem HOk.butC {P:Program}{w:World}{H:Hp}{h:Heap}{cs:List Gj}(m:mE H cs)(x:HOk P w H h):HOk P w (T3.butC H cs) h:=λa o e=>by
 obtain⟨hb,e⟩:=Fh e;refine(x a o e).stay (λ_ _ _ q=>q) (λb q=>?_) λb xs q=>?_
 .rw[nX λz=>by obtain⟨o',v',h1,_⟩:=m _ z;rw[q] at h1;cases h1];exact q
 .rw[nX λz=>by obtain⟨o',v',h1,_⟩:=m _ z;rw[q] at h1;cases h1];exact q
theorem Un.putC {fs:List Gj}{H H':Hp}{h h':Heap}{cs:List Gj}(m:mE H cs)(u:Un fs [] (T3.butC H cs) H' h h')(n:∀ c∈cs,H' c=Gb):Un fs [] H (T3.putC H H' cs) h h':=by
 have out:∀ {b:Gj},H b=Gb->b∉cs:=λ{b} e z=>by obtain⟨o',v',h1,_⟩:=m _ z;rw[e] at h1;cases h1
 have bn:∀ {b:Gj},H b=Gb->T3.butC H cs b=Gb:=λ{b} e=>by rw[nX (out e)];exact e
 refine⟨λb o q nb hb hx=>u.keep b o q (bn nb) hb hx,λb o q nb hb hx=>u.slot b o q (bn nb) hb hx,λb o q nb hx=>by rw[xj (out nb)];exact u.free b o q (bn nb) hx,u.there,λb xs q=>?_,λb o x q=>?_,λb ps q=>?_⟩
 .have nb:b∉cs:=λz=>by obtain⟨o',v',h1,_⟩:=m _ z;rw[q] at h1;cases h1
  rw[xj nb];exact u.tups b xs (by rw[nX nb];exact q)
 .by_cases nb:b∈cs
  .rw[Cz nb];exact q
  .rw[xj nb];exact u.frzs b o x (by rw[nX nb];exact q)
 .have nb:b∉cs:=λz=>by obtain⟨o',v',h1,_⟩:=m _ z;rw[q] at h1;cases h1
  rw[xj nb];exact u.tbls b ps (by rw[nX nb];exact q)
theorem HOk.putC {P:Program}{w:World}{H H':Hp}{h h':Heap}{cs:List Gj}(m:mE H cs)(x:HOk P w H' h')(n:∀ c∈cs,H' c=Gb)(k:∀ c∈cs,∀ o v,H c=Ga (.frz o (.own c))->o.data=.cell v->h'.get? c=Ga o):HOk P w (T3.putC H H' cs) h':=λa o e=>by
 by_cases ha:a∈cs
 .rw[Cz ha] at e;obtain⟨o',v',h1,h2⟩:=m a ha;rw[h1] at e;cases e;have g:=k a ha o' v' h1 h2;exact⟨g,o',g⟩
 .rw[xj ha] at e;exact(x a o e).stay (λ_ _ _ q=>q) (λb q=>Di n b _ q) λb xs q=>Di n b _ q
structure wJ (x:Str)(fr:List Str)(scope:Scope):Prop where
 kind:scope.kind=.function
 co:scope.isCoroutine=false
 gen:scope.isGenerator=false
 nocell:∀ y∈scope.names,y.2≠.cell
 par:scope.names.lookup x=Ga .local
 free:∀ y∈scope.names,y.2=.free->y.1∈fr
 frf:∀ y∈fr,scope.names.lookup y=Ga .free
 nd:(x::fr).Nodup
structure wF (K:jb)(F:Hp)(fr:List Str)(ds:List D)(cl:List (Str×Gj))(cs:List Gj):Prop where
 look:∀ (j:Nat) (y:Str) (d:D),fr[j]?=Ga y->ds[j]?=Ga d->∃ c o u v,cl.lookup y=Ga c/\c∈cs/\F c=Ga (.frz o (.own c))/\o.data=.cell (Ga u)/\iA v u/\iM K F d v
 all:∀ y c,cl.lookup y=Ga c->c∈cs
 has:∀ y∈fr,∃ c,cl.lookup y=Ga c
 cells:mE F cs
 inj:∀ x y c,cl.lookup x=Ga c->cl.lookup y=Ga c->x=y
 len:ds.length=fr.length
 only:∀ c∈cs,∃ y,cl.lookup y=Ga c
theorem mE.mono {F F':Hp}{cs:List Gj}(s:gM F F')(m:mE F cs):mE F' cs:=λc h=>by
 obtain⟨o,v,h1,h2⟩:=m c h;exact⟨o,v,s _ _ h1,h2⟩
theorem wF.mono {K:jb}{F F':Hp}{fr:List Str}{ds:List D}{cl:List (Str×Gj)}{cs:List Gj}(s:gM F F')(x:wF K F fr ds cl cs):wF K F' fr ds cl cs :=
 ⟨λj y d h1 h2=>by
  obtain⟨c,o,u,v,e1,e2,e3,e4,e5,e6⟩:=x.look j y d h1 h2;exact⟨c,o,u,v,e1,e2,s _ _ e3,e4,e5,e6.mono s⟩,x.all,x.has,x.cells.mono s,x.inj,x.len,x.only⟩
def oq (f:Gj)(o:Obj):Heap->Prop:=λh=>h.get? f=Ga o
def Eh (K:jb)(params:Arguments)(body:Expr)(scope:Scope)(fr:List Str)(ds:List D):iz where
 C:=λf F H=>∃ name qual cl pm c ctv cs o vs,∃ v:Str×Tok,F f=Ga (.ext (oq f (kZ name qual params body scope cl pm c ctv)))/\H c=Ga (.frz o (.own c))/\o.data=.fields vs/\vs[1]?=Ga (.str v.1 v.2)/\wF K F fr ds cl cs
 mono:=λf F F' H H' s z ⟨name,qual,cl,pm,c,ctv,cs,o,vs,v,h1,h2,h3,h4,h5⟩=>⟨name,qual,cl,pm,c,ctv,cs,o,vs,v,s _ _ h1,z _ _ h2,h3,h4,h5.mono s⟩
def xU (P:Program)(w:World)(K:jb)(mg:Str->Option Gg)(base:Heap)(N:List Str)(qual:Str)(scope:Scope)(f:Gj)(cd:Gg)(cl:List (Str×Gj))(A:Around)(outer:List Env)(s:Gh)(H:Hp):Cx where
 prog:=P
 w:=w
 K:=K
 mg:=mg
 base:=base
 A:=A.deeper (vh qual scope s.heap.objs.size f cd cl)
 N:=N
 s₀:=s
 H₀:=H
 env:=vh qual scope s.heap.objs.size f cd cl
 outer:=outer
 stack:=vh qual scope s.heap.objs.size f cd cl::outer
 ex:=[]
 fn:=λ_=>false
 calm:=true
 pn:=[]
 xe:=λ_ _=>False
section
variable {P:Program}{w:World}{K:jb}{mg:Str->Option Gg}{base:Heap}{A:Around}{outer:List Env}{s:Gh}{H F:Hp}{x:Str}{fr:List Str}{scope:Scope}{cl:List (Str×Gj)}{cs:List Gj}{ds:List D}{q:Str}{f:Gj}{cd:Gg}
theorem Yb (S:wJ x fr scope)(hd:A.handled=Gb)(e0:sD P w K mg base A outer s H)(g:gM F H)(cP:wF K F fr ds cl cs){u:Gg}{v:V}(ru:iA v u){vs:List V}(hvs:vs.length=ds.length)
  (hv:∀ (j:Nat) (y:Str) (v:V),fr[j]?=Ga y->vs[j]?=Ga v->∃ c o u,cl.lookup y=Ga c/\F c=Ga (.frz o (.own c))/\o.data=.cell (Ga u)/\iA v u)
  {h1:Heap} {tk:Nat} (hns:h1.Ns s.heap.objs.size (λy=>[(x,u)].reverse.lookup y)) (hk:∀ b o,s.heap.get? b=Ga o->h1.get? b=Ga o) :
  gS (xU P w K mg base (x::fr) q scope f cd cl A outer s (T3.butC H cs)) [] (Ga v::vs.map Ga) (T3.butC H cs) { s with heap:=h1,toks:=tk }:=by
 have mH:mE H cs:=cP.cells.mono g;have noA:∀ b:Gj,b∉(xU P w K mg base (x::fr) q scope f cd cl A outer s (T3.butC H cs)).ex:=λb z=>absurd (show b∈([]:List Gj) from z) (by simp);have cell:∀ y c,cl.lookup y=Ga c->∃ v,h1.IsCell c v:=λy c e=>by
  obtain⟨o,v,h2,h3⟩:=mH c (cP.all y c e);exact⟨v,o,hk _ _ (e0.hok c _ h2).1,h3⟩
 refine⟨⟨e0.mod,S.kind,rfl,rfl,jm _,λy z c h1 h2=>cP.inj y z c h1 h2,λy hy=>?_,λy c hf _=>(by cases hf),λ_=>hd,Jb e0.frames,.inr ⟨rfl,rfl⟩,λb z=>absurd z (noA b),λb o e=>?_,e0.bsz,λb _ _=>noA b,λb z=>absurd z (noA b),e0.funs,λb hb=>?_⟩,
  rfl,e0.bare,Un.kept hk,⟨_,hns,λi y v' e1 e2 e3=>?_⟩,λy c h=>cell y c h,?_,λy c h=>?_,λp hp=>absurd (show p∈([]:List (Gj×Obj)) from hp) (by simp),L2.HOk.kept (T3.HOk.butC mH e0.hok) hk,?_⟩
 .have hy:scope.names.lookup y=Ga .cell\/scope.names.lookup y=Ga .free:=hy;rcases hy with hy|hy
  .exact absurd rfl (S.nocell _ (kC hy))
  .exact cP.has y (S.free _ (kC hy) rfl)
 .obtain⟨h2,h3⟩:=e0.bs b o e;exact⟨h2,by
   show T3.butC H cs b=Gb;by_cases hb:b∈cs
   .exact Aw hb
   .rw[nX hb];exact h3⟩
 .show T3.butC H cs b=Gb;by_cases hc:b∈cs
  .exact Aw hc
  .rw[nX hc];exact e0.frf b hb
 .cases i with
  | zero =>
   have e1:Ga x=Ga y:=e1;cases e1;have e2:Ga (Ga v)=Ga (Ga v'):=e2;cases e2;refine⟨u,ru,.inl ⟨S.par,?_⟩⟩;simp
  | succ j =>
   have e1:(x::fr)[j+1]?=Ga y:=e1;have e1:fr[j]?=Ga y:=by rw[vA] at e1;exact e1
   have e2:(Ga v::vs.map Ga)[j+1]?=Ga (Ga v'):=e2;rw[vA] at e2;rw[jC] at e2;cases z:vs[j]? with
   | none=>rw[z] at e2;cases e2
   | some v2 =>
    rw[z] at e2;cases e2;obtain⟨c,o,u2,h2,h3,h4,h5⟩:=hv j y _ e1 z;refine⟨u2,h5,.inr ⟨.inr (S.frf y (j7 e1)),c,h2,o,hk _ _ (e0.hok c _ (g _ _ h3)).1,h4⟩⟩
 .have n:=e0.hok.fresh (jm s.heap.objs.size);show T3.butC H cs s.heap.objs.size=Gb;by_cases hc:s.heap.objs.size∈cs
  .exact Aw hc
  .rw[nX hc];exact n
 .exact Aw (cP.all y c h)
 .show(Ga v::vs.map Ga).length=(x::fr).length;rw[jX,jd,jX,hvs,cP.len]
end
theorem Td {K:jb}{F:Hp}{cl:List (Str×Gj)}{cs:List Gj}:∀ {fr:List Str} {ds:List D},ds.length=fr.length->(∀ (j:Nat) (y:Str) (d:D),fr[j]?=Ga y->ds[j]?=Ga d->∃ c o u v,cl.lookup y=Ga c/\c∈cs/\F c=Ga (.frz o (.own c))/\o.data=.cell (Ga u)/\iA v u/\iM K F d v) ->
  ∃ vs:List V,vs.length=ds.length/\ia K F ds vs/\∀ (j:Nat) (y:Str) (v:V),fr[j]?=Ga y->vs[j]?=Ga v->∃ c o u,cl.lookup y=Ga c/\F c=Ga (.frz o (.own c))/\o.data=.cell (Ga u)/\iA v u
 | [],[],_,_=>⟨[],rfl,.nil,λj y v h _=>by simp at h⟩
 | [],_::_,h,_=>by simp at h
 | _::_,[],h,_=>by simp at h
 | y::fr,d::ds,h,hl=>by
  obtain⟨vs,h1,h2,h3⟩:=Td (fr:=fr) (ds:=ds) (by simpa using h) λj y d e1 e2=>hl (j+1) y d (by simpa using e1) (by simpa using e2);obtain⟨c,o,u,v,e1,e2,e3,e4,e5,e6⟩:=hl 0 y d rfl rfl;refine⟨v::vs,by simpa using h1,.cons e6 h2,λj z v' q1 q2=>?_⟩;cases j with
  | zero =>
   have q1:Ga y=Ga z:=q1;have q2:Ga v=Ga v':=q2;cases q1;cases q2;exact⟨c,o,u,e1,e3,e4,e5⟩
  | succ j=>exact h3 j z v' (by simpa using q1) (by simpa using q2)
theorem RS.vals {K:jb}{F H:Hp}(g:gM F H):∀ {ds:List D} {vs:List V},ia K F ds vs->RS K H F H (ds.map Sl.val) (vs.map Ga):=λ{ds vs} r=>by
 refine⟨.refl _,g,λi s e=>?_,λi j a s t o1 o2 e1=>?_⟩
 .rw[jC] at e;cases z:ds[i]? with
  | none=>rw[z] at e;cases e
  | some d =>
   rw[z] at e;cases e;obtain⟨v,h1,h2⟩:=r.get z;exact⟨Ga v,by rw[jC,h1];rfl,v,rfl,h2⟩
 .rw[jC] at e1;cases z:ds[i]? with
  | none=>rw[z] at e1;cases e1
  | some d=>rw[z] at e1;cases e1;cases o1
theorem zCo {F:Hp}{cs:List Gj}{l:List Gg}(g:ls (butC F cs) l):ls F l:=g.sub λc o h=>(Fh h).2
theorem gM.butC2 {F H:Hp}{cs:List Gj}(m:mE H cs)(s:gM F H):gM (T3.butC F cs) (T3.butC H cs):=λb o h=>by
 obtain⟨hb,h⟩:=Fh h;rw[nX hb];exact((s b o h).from λ_ z=>zCo z).to λ_ z=>MY m z
section
variable {P:Program}{w:World}{K:jb}{mg:Str->Option Gg}{base:Heap}{A:Around}{outer:List Env}{s:Gh}{H F:Hp}{x:Str}{fr:List Str}{scope:Scope}{ds:List D}{f:Gj}
theorem zCp {k:Nat}{params:Arguments}{body:Expr}{fb:FV}(S:wJ x fr scope)
  (hbind:∀ (name qual:Str) (cl:List (Str×Gj)) (pm:Gg) (c:Gj) (ctv u:Gg),bindArgs (qf name qual params body scope cl pm (.ref c) ctv) ⟨[u],[]⟩=pure [(x,u)])
  (hb:∀ (qual:Str) (f:Gj) (cd:Gg) (cl:List (Str×Gj)) (A:Around) (outer:List Env) (s:Gh) (H:Hp),lK k (A.deeper (vh qual scope s.heap.objs.size f cd cl))->PV (xU P w K mg base (x::fr) qual scope f cd cl A outer s H) body fb)
  (hC:(Eh K params body scope fr ds).C f F H) {u:Gg} {v:V} {d r:D} {Q:VK} (hr:lK (k+1) A) (e0:sD P w K mg base A outer s H) (g:gM F H) (ru:iA v u) (rv:iM K F d v) (e:fb (.val d::ds.map .val)=Ga r)
  (hq:∀ v' H' F',gM H H'->gM F F'->gM F' H'->lb F F' H->iM K F' r v'->Q v' H') :
  codeAny (model P w) A (.call (.ref f) ⟨[u],[]⟩) (CR io outer P w H s Q E0) s:=by
 obtain⟨name,qual,cl,pm,c,ctv,cs,o,vs0,qt,hf,hc,hod,hv1,cP⟩:=hC;have of_:s.heap.get? f=Ga (kZ name qual params body scope cl pm c ctv):=(e0.hok f _ (g _ _ hf)).1;have oc:s.heap.get? c=Ga o:=(e0.hok c _ hc).1;have lim:s.heap.NoLimit:=e0.mod.nolimit.keeps λb o e=>(e0.bs b o e).1;have mF:=cP.cells;have mH:mE H cs:=cP.cells.mono g;have nfr:∀ c∈cs,c∉rF outer:=λc hc hz=>by
  obtain⟨o',v',h1,_⟩:=mH c hc;rw[e0.frf c hz] at h1;cases h1
 refine codeAny_of_tree ?_;show wpAny _ A.in1 (callAny (.ref f) _) _ _ s;simp only[callAny];refine gI (wpAny_load of_ ?_);simp only[callFunction,S.co,S.gen];refine gI (m:=field (.ref c) 1) (wpAny_field oc hod hv1 (gI (gJ ?_)));rw[hbind];refine gI (gJ ?_);refine gI (wpAny_newFunctionEnv S.nocell (by intro y hy;rw[jj.mp hy];exact S.par) (λh1 hns hsb=>?_) S.kind);have hk:∀ b o,s.heap.get? b=Ga o->h1.get? b=Ga o:=λb o e=>hsb.extBut b o (jH (jp e)) (jf _ e);refine gI (wpAny_enterFrame (lim.keeps hk) hr.depth (gJ (And.intro rfl ?_)));show codeAny _ _ (.expr body (vh qt.1 scope s.heap.objs.size f (.ref c) cl)) _ _;obtain⟨vs,hvs,rvs,hv⟩:=Td cP.len cP.look;have I:=Yb (q:=qt.1) (f:=f) (cd:=.ref c) S hr.hd e0 g cP ru hvs hv (tk:=s.toks+1) hns hk;refine PySem.W.kla_codeExpr (wpAny_mono (hb qt.1 f (.ref c) cl A outer s (T3.butC H cs) (hr.deeper _) [] _ _ _ (λv' H'=>(∀ c∈cs,H' c=Gb)->Q v' (T3.putC H H' cs)) I ?_) (λu' s' h=>?_) λe' s' h=>h.elim)
 .refine⟨T3.butC H cs,T3.butC F cs,.val d::ds.map .val,r,RS.vals (g.butC2 mH) (ds:=d::ds) (vs:=v::vs) (.cons (rv.butC mF) (rvs.butC mF)),e,λv' H' F' g1 f1 fh1 n1 rv' n=>?_⟩;have nF:∀ c∈cs,F' c=Gb:=λc hc=>fh1.free (n c hc);refine hq v' _ (T3.putC F F' cs) (g1.withC mH n) (f1.withC mF nF) (fh1.withC2 mF (λc hc=>?_) nF n) (λb o h nb=>?_) (rv'.mono (gM.of (Di nF)))
  .obtain⟨o',v2,h2,_⟩:=mF c hc;rw[h2];exact(g _ _ h2).symm
  .have hb:b∉cs:=λz=>by obtain⟨o',v2,h2,_⟩:=mF b z;rw[nb] at h2;cases h2
   rw[xj hb] at h;have:=n1 b o h (by rw[nX hb];exact nb);rw[nX hb] at this;exact this
 .obtain⟨v',H',J,rel,qb⟩:=h;have n:∀ c∈cs,H' c=Gb:=λc hc=>by
   obtain⟨y,hy⟩:=cP.only c hc;exact J.freeC y c hy
  have J':Un (rF outer) [] (T3.butC H cs) H' s.heap s'.heap:=J.base;exact⟨v',T3.putC H H' cs,J.os,J.bare,T3.Un.putC mH J' n,T3.HOk.putC (h:=s.heap) mH J.hok n (λc hc o v h1 h2=>J'.keep c o (e0.hok c _ h1).1 (Aw hc) (nfr c hc) (by simp)),rel,qb n⟩
end
structure mY (P:Program)(w:World)(K:jb)(mg:Str->Option Gg)(base:Heap)(k:Nat)(c:iz)(φ:D->Option D):Prop where
 obj:∀ f F H h,c.C f F H->gM F H->HOk P w H h->∃ o fd,h.get? f=Ga o/\o.data=.func fd
 run:∀ (f:Gj) (F H:Hp) (A:Around) (outer:List Env) (s:Gh) (u:Gg) (v:V) (d r:D) (Q:VK),c.C f F H->lK k A->sD P w K mg base A outer s H->gM F H->iA v u->iM K F d v->φ d=Ga r ->
  (∀ v' H' F',gM H H'->gM F F'->gM F' H'->lb F F' H->iM K F' r v'->Q v' H')->codeAny (model P w) A (.call (.ref f) ⟨[u],[]⟩) (CR io outer P w H s Q E0) s
theorem mY.mono {P:Program}{w:World}{K:jb}{mg:Str->Option Gg}{base:Heap}{j k:Nat}{c:iz}{φ:D->Option D}(x:mY P w K mg base j c φ)(h:j<=k):mY P w K mg base k c φ :=
 ⟨x.obj,λf F H A outer s u v d r Q hC hr=>x.run f F H A outer s u v d r Q hC (hr.mono h)⟩
theorem zvF {P:Program}{w:World}{K:jb}{mg:Str->Option Gg}{base:Heap}{x:Str}{fr:List Str}{scope:Scope}{ds:List D}{k:Nat}{params:Arguments}{body:Expr}{fb:FV}(S:wJ x fr scope)
  (hbind:∀ (name qual:Str) (cl:List (Str×Gj)) (pm:Gg) (c:Gj) (ctv u:Gg),bindArgs (qf name qual params body scope cl pm (.ref c) ctv) ⟨[u],[]⟩=pure [(x,u)])
  (hb:∀ (qual:Str) (f:Gj) (cd:Gg) (cl:List (Str×Gj)) (A:Around) (outer:List Env) (s:Gh) (H:Hp),lK k (A.deeper (vh qual scope s.heap.objs.size f cd cl))->PV (xU P w K mg base (x::fr) qual scope f cd cl A outer s H) body fb) :
  mY P w K mg base (k+1) (Eh K params body scope fr ds) λd=>fb (.val d::ds.map .val) where
 obj:=λf F H h ⟨name,qual,cl,pm,c,ctv,cs,o,vs,qt,hf,_⟩ g hok=>⟨_,_,(hok f _ (g _ _ hf)).1,rfl⟩
 run:=λf F H A outer s u v d r Q hC hr e0 g ru rv e hq=>zCp S hbind hb hC hr e0 g ru rv e hq
open Classical in
noncomputable def oQ (i:Nat)(c:iz)(φ:D->Option D)(f:FV):FV:=λψ=>if ψ[i]?=Ga (.fn c) then(f ψ).bind φ else Gb
section
variable {X:Cx}{pos p:Pos}{k:Nat}{c:iz}{φ:D->Option D}
theorem QA (i:Nat){y:Str}{ex:Expr}{f:FV}(hC:mY X.prog X.w X.K X.mg X.base k c φ)(hr:lK k X.A)(ha:PV X ex f)(hN:X.N[i]?=Ga y:=by rfl)(hv:wo X.env.scope y:=by first|exact k8 rfl|exact kJ (k8 rfl)|exact kJ (kJ rfl))
  (hd:(y==("__debug__":Str))=false:=by decide) (hcd:(y==("__classdict__":Str))=false:=by decide) (hs:starEach [ex] X.env=[(false,eval ex X.env)]:=by rfl):PV X (.Call (.Name y p) [ex] [] pos) (oQ i c φ f):=by
 intro ω s σ H Q I h;obtain⟨H0,F,ψ,d,r,e,q⟩:=h;unfold oQ at e;split at e;rotate_left
 .cases e
 rename_i hi;obtain⟨d1,e1,e2⟩:=gL e;obtain⟨u,e3,g,e4,hg⟩:=r.sl i _ hi;subst e4;refine wpAny_Call_Name_kw (iR (ph (pos:=p) hN hv hd hcd ω s σ H (λv H1=>v=.ref g/\H1=H) I ⟨.ref g,e3,rfl,rfl⟩) λu1 s1 ⟨v1,H1,I1,rel,z1,z2⟩=>?_);subst z1;subst z2;obtain rfl:u1=kP g:=rel;refine PySem.W.callWith_of (P:=λh=>∃ o fd,h.get? g=Ga o/\o.data=.func fd) (by rw[hs];rfl) (λh ⟨o,fd,h1,h2⟩=>⟨.frame,.inl rfl,?_⟩) ?_
 .obtain⟨cl0,dc0,dt0,sl0⟩:=o;have h2:dt0=.func fd:=h2;subst h2;exact(PySem.W.Looks.ld (part:=Gb) h1).andThen .now
 .have hp:PA X [ex] (FI (tV X.K f) Ke):=lN ha og hs;rw[hs];refine uX ?_;have hw:=hp pos ω s1 σ H1 (λvs H2=>∃ v F2,vs=[v]/\gM H1 H2/\gM F F2/\gM F2 H2/\lb F F2 H1/\iM X.K F2 d1 v) I1 ⟨H0,F,ψ,d1,r,e1,λv H2 F2 g2 f2 fh2 n2 rv=>⟨v,F2,rfl,g2,f2,fh2,n2,rv⟩⟩;rw[hs] at hw;refine iR hw λus s2 ⟨vs,H2,I2,rvs,v,F2,z,g2,f2,fh2,n2,rv⟩=>?_;subst z;cases rvs with
  | cons ru rn =>
   cases rn;have hg2:=c.mono g F F2 H1 H2 f2 g2.fz hg;refine⟨hC.obj g F2 H2 _ hg2 fh2 I2.hok,?_⟩;refine wpAny_call (codeAny_mono (hC.run g F2 H2 X.A X.stack s2 _ v d1 d Q hg2 hr I2.env0 fh2 ru rv e2 λv' H' F' g3 f3 fh3 n3 rv3=>q v' H' F' (g2.trans g3) (f2.trans f3) fh3 (n2.trans n3 g2) rv3) λr s' hq=>?_);cases r with
   | error e=>exact hq.elim
   | ok fl =>
    cases fl with
    | ret u=>exact I2.after hq
    | next=>exact False.elim hq
    | brk=>exact False.elim hq
    | cont=>exact False.elim hq
end
def wC (K:jb)(p:Nat)(c:iz)(fm:List D->Option D):Sp:=λvs H Q _=>∃ (F:Hp) (g:Gj) (us:List V) (ds:List D) (d:D),vs=us.take p++.ref g::us.drop p/\c.C g F H/\gM F H/\ia K F ds us/\fm ds=Ga d /\
 ∀ v H' F',gM H H'->gM F F'->gM F' H'->lb F F' H->iM K F' d v->Q v H'
def startP (c:iz):Nat->Nat->List D->En
 | 0,n,ds=>.fn c::oo (n-1) ds
 | p+1,n,d::ds=>.val d::startP c p (n-1) ds
 | _+1,_,[]=>[]
def rR (p np n:Nat)(c:iz)(g:FS)(ds:List D):Option D:=if ds.length+1=np then hJ (g (startP c p n ds)) else Gb
theorem RS.cons {K:jb}{H0 F H:Hp}{ψ:En}{σ:St}(r:RS K H0 F H ψ σ){s:Sl}{u:Option V}(q:pv K H0 F H s u)(o:oe s=false):RS K H0 F H (s::ψ) (u::σ):=by
 refine⟨r.h0,r.fh,λi t e=>?_,λi j a t1 t2 o1 o2 e1 e2 e3 e4=>?_⟩
 .cases i with
  | zero=>cases e;exact⟨u,rfl,q⟩
  | succ i=>exact r.sl i t e
 .cases i with
  | zero=>cases e1;rw[o] at o1;cases o1
  | succ i =>
   cases j with
   | zero=>cases e2;rw[o] at o2;cases o2
   | succ j=>rw[r.ap i j a t1 t2 o1 o2 e1 e2 e3 e4]
theorem TY {N:List Str}{v:V}{us:List V}:L2.start N (v::us)=Ga v::L2.start N.tail us:=by
 unfold L2.start;rw[jK,vQ,jX,ua]
 congr 3
 omega
theorem RS.startP {K:jb}{F H:Hp}{c:iz}{g:Gj}(h:gM F H)(q:c.C g F H):∀ (p:Nat) {N:List Str} {ds:List D} {us:List V},ia K F ds us->p<=ds.length->RS K H F H (T3.startP c p N.length ds) (L2.start N (us.take p++.ref g::us.drop p))
 | 0,N,ds,us,r,_=>by
  show RS K H F H (.fn c::oo (N.length-1) ds) (L2.start N (.ref g::us));rw[TY,show N.length-1=N.tail.length by rw[ua]];exact(RS.start (N:=N.tail) h r).cons ⟨g,rfl,q⟩ rfl
 | p+1,N,_,_,.cons (d:=d) (v:=v) hd t,hp=>by
  show RS K H F H (.val d::T3.startP c p (N.length-1) _) (L2.start N (v::_));rw[TY,show N.length-1=N.tail.length by rw[ua]];exact(RS.startP h q p (N:=N.tail) t (Nat.le_of_succ_le_succ hp)).cons ⟨v,rfl,hd⟩ rfl
theorem XN {α:Type}(p:Nat)(x:α)(us:List α):(us.take p++x::us.drop p).length=us.length+1:=by
 rw[ju,jX,<- vT,<- ju,List.take_append_drop]
section
variable {P:Program}{w:World}{K:jb}{mg:Str->Option Gg}{base:Heap}{x qual:Str}{st:Stmt}{f:Gj}{fd:Gi}{N ps:List Str}{k p:Nat}{g:FS}{c:iz}
theorem yZ (F:sL K x qual st f fd)(S:gR N ps (gO st))(hp:p<ps.length)
  (hb:∀ (cdv:Gg) (A:Around) (outer:List Env) (s:Gh) (H:Hp) (E:XK),lK k (A.deeper (envOfC qual (gO st) s.heap.objs.size f cdv))->oV (pT io P w K mg base N qual (gO st) f cdv A outer s H E).nox (lO st) g) :
  hV P w K mg base io (k+1) f fd ps (wC K p c (rR p ps.length N.length c g)):=by
 have hr0:∀ {ds:List D} {d:D},rR p ps.length N.length c g ds=Ga d->ds.length+1=ps.length/\(g (startP c p N.length ds)=Ga (.rt d)\/∃ xs,d=.list xs/\g (startP c p N.length ds)=Ga (.ro xs)):=λ{ds d} h=>by
  unfold rR at h;split at h
  .rename_i z;refine⟨z,?_⟩;unfold hJ at h;split at h
   .rename_i e;cases h;exact .inl e
   .rename_i e;cases h;exact .inr ⟨_,rfl,e⟩
   .cases h
  .cases h
 refine F.ok S (λvs H Q E h=>?_) (λcdv A outer s H vs Q E hr h=>?_)
 .obtain⟨F0,g0,us,ds,d,rfl,_,_,r,e,_⟩:=h;rw[XN,<- r.length];exact(hr0 e).1
 .obtain⟨F0,g0,us,ds,d,rfl,hC,hs,r,e,q⟩:=h;have hp2:p<=ds.length:=by have:=(hr0 e).1;omega
  rcases(hr0 e).2 with z|⟨xs,rfl,z⟩
  .exact⟨_,hb cdv A outer s H E hr,H,F0,_,_,RS.startP hs hC p r hp2,z,λv H' F' g1 f1 fh1 n1 rv=>q v H' F' g1 f1 fh1 n1 rv⟩
  .refine⟨_,hb cdv A outer s H E hr,H,F0,_,_,RS.startP hs hC p r hp2,z,λa ys H' F' g1 f1 fh1 n1 ha fa ha' rr=>?_⟩;have sF:gM F' (upd F' a (.lst ys)):=gM.new fa;refine q (.ref a) H' (upd F' a (.lst ys)) g1 (f1.trans sF) (gM.upL fh1 ha' trivial) (λb o h nb=>?_) (.lst (lH.of ij) (rr.mono sF));by_cases hb:b=a
   .subst hb;exact ha
   .rw[hE hb] at h;exact n1 b o h nb
end
open Classical in
noncomputable def lF (i:Nat)(c:iz)(fm:List D->Option D)(g:FL):FV:=λψ=>if ψ[i]?=Ga (.fn c) then(g ψ).bind fm else Gb
section
variable {X:Cx}{k:Nat}{f:Gj}{fd:Gi}{ps:List Str}{x:Str}{p pos:Pos}{es:List Expr}{g:FL}{c:iz}
theorem yo (i:Nat){y:Str}{py:Pos}{fm:List D->Option D}(F:hV X.prog X.w X.K X.mg X.base io k f fd ps (wC X.K 0 c fm))(hr:lK k X.A)(hm:X.mg x=Ga (.ref f))(hk:ub X.K (.ref f)=true)(hb:pV X.K fd ps [])(ha:PL X es g)(hg:Gl X x:=by rfl)
  (hN:X.N[i]?=Ga y:=by rfl) (hv:wo X.env.scope y:=by first|exact k8 rfl|exact kJ (k8 rfl)|exact kJ (kJ rfl)) (hd:(y==("__debug__":Str))=false:=by decide) (hcd:(y==("__classdict__":Str))=false:=by decide)
  (hdb:(x==("__debug__":Str))=false:=by decide) (he:starEach (.Name y py::es) X.env=(false,eval (.Name y py) X.env)::starEach es X.env:=by rfl) (hpl:(backTo pos (starEach es X.env)).any (·.1)=false:=by rfl) :
  PV X (.Call (.Name x p) (.Name y py::es) [] pos) (lF i c fm g):=by
 refine mn (yK F hr hg hm hk hb .nil Cc (lN (ph (pos:=py) hN hv hd hcd) ha.pa he) hdb he hpl) λσ H Q=>?_;rintro⟨H0,F,ψ,d,r,e,q⟩;unfold lF at e;split at e;rotate_left
 .cases e
 rename_i hi;obtain⟨ds,e1,e2⟩:=gL e;obtain⟨u,e3,h,e4,hh⟩:=r.sl i _ hi;subst e4;refine⟨.ref h,e3,H0,F,ψ,ds,r,e1,λvs H1 F1 g1 f1 fh1 n1 rv=>⟨F1,h,vs,ds,d,by rw[km];rfl,c.mono _ _ _ _ _ f1 g1.fz hh,fh1,rv,e2,λv H2 F2 g2 f2 fh2 n2 rv2=>?_⟩⟩;exact q v H2 F2 (g1.trans g2) (f1.trans f2) fh2 (n1.trans n2 g1) rv2
end
def yI (P:Program)(w:World)(K:jb)(mg:Str->Option Gg)(base:Heap)(k:Nat)(φ:D->Option D):iz where
 C:=λf F H=>∀ F' H',gM F F'->Fz H H'->gM F' H'->(∀ h,HOk P w H' h->∃ o fd,h.get? f=Ga o/\o.data=.func fd) /\
  ∀ (A:Around) (outer:List Env) (s:Gh) (u:Gg) (v:V) (d r:D) (Q:VK),lK k A->sD P w K mg base A outer s H'->iA v u->iM K F' d v->φ d=Ga r ->
   (∀ v' H2 F2,gM H' H2->gM F' F2->gM F2 H2->lb F' F2 H'->iM K F2 r v'->Q v' H2)->codeAny (model P w) A (.call (.ref f) ⟨[u],[]⟩) (CR io outer P w H' s Q E0) s
 mono:=λf F F' H H' s z h F2 H2 s2 z2=>h F2 H2 (s.trans s2) λb x q=>z2 b x (z b x q)
theorem Tk (P:Program)(w:World)(K:jb)(mg:Str->Option Gg)(base:Heap)(k:Nat)(φ:D->Option D):mY P w K mg base k (yI P w K mg base k φ) φ where
 obj:=λf F H h hC g hok=>(hC F H (.refl _) (λ_ _ q=>q) g).1 h hok
 run:=λf F H A outer s u v d r Q hC hr e0 g ru rv e hq=>(hC F H (.refl _) (λ_ _ q=>q) g).2 A outer s u v d r Q hr e0 ru rv e hq
theorem zAg {P:Program}{w:World}{K:jb}{mg:Str->Option Gg}{base:Heap}{k:Nat}{φ:D->Option D}{c:iz}(x:mY P w K mg base k c φ){f:Gj}{F H:Hp}(h:c.C f F H):(yI P w K mg base k φ).C f F H:=λF' H' s z g =>
 have h':=c.mono f F F' H H' s z h
 ⟨λhp hok=>x.obj f F' H' hp h' g hok,λA outer st u v d r Q hr e0 ru rv e hq=>x.run f F' H' A outer st u v d r Q h' hr e0 g ru rv e hq⟩
structure Dg (X:Cx)(c0 P:Gj):Prop where
 code:X.env.code=.ref c0
 hd:∀ h,X.K.In h->PySem.W.CodeHd h c0 P
 bm:∃ bm o,X.mg "__builtins__"=Ga (.ref bm)/\bm≠builtinsNs/\bm≠mainGlobals/\X.K.lookup bm=Ga o/\o.cls=.type "module"/\o.dict=Ga builtinsNs/\o.data=.plain
structure Ha (params:Arguments)(body:Expr)(scope:Scope)(cl:List (Str×Gj))(H:Hp)(f:Gj)(H':Hp):Prop where
 same:gM H H'
 new:H f=Gb
 ex:∃ name qual pm c ctv o vs,∃ v:Str×Tok,H' f=Ga (.ext (oq f (kZ name qual params body scope cl pm c ctv)))/\H' c=Ga (.frz o (.own c))/\o.data=.fields vs/\vs[1]?=Ga (.str v.1 v.2)
def Vp (ψ:Env)(fr:List Str)(params:Arguments)(body:Expr)(scope:Scope)(P:Gj):TE:=λ_ H Q=>∃ ps,H P=Ga (.tbl ps)/\ls H ps.toList /\
 ∀ f cl H',Ha params body scope cl H f H'->(∀ y a,cl.lookup y=Ga a->ψ.cells.lookup y=Ga a)->(∀ y∈fr,∃ a,cl.lookup y=Ga a)->Q (.ref f) H'
theorem WT {pos:Pos}{l m:List Gg}(t:TriplesOk l):codeAmong pos (l++m)=(codeAmong pos l).or (codeAmong pos m):=by
 fun_induction TriplesOk l with
 | case1=>simp[codeAmong]
 | case2 a b c d e rest ih =>
  simp only[vQ,codeAmong];split
  .rfl
  .exact ih t
 | case3=>cases t
theorem ztF {l m:List Gg}(t:TriplesOk l)(u:TriplesOk m):TriplesOk (l++m):=by
 fun_induction TriplesOk l with
 | case1=>exact u
 | case2 a b c d e rest ih=>exact ih t
 | case3=>cases t
theorem gM.tbl {H:Hp}{P:Gj}{ps qs:Array Gg}(hP:H P=Ga (.tbl ps))(g:ls H ps.toList->ls (upd H P (.tbl qs)) qs.toList):gM H (upd H P (.tbl qs)):=λb o h=>by
 by_cases hb:b=P
 .subst hb;rw[hP] at h;cases h;rw[ij];exact⟨qs,rfl,g⟩
 .rw[hE hb];exact .of h λl z=>z.updG λx u q=>by rw[hP] at q;cases q
theorem zxU {H:Hp}{P c:Gj}{ps:Array Gg}{pos:Pos}{o:Obj}{vs:Array Gg}{v:Str×Tok}(hP:H P=Ga (.tbl ps))(hc:H c=Ga (.frz o (.own c)))(h1:o.data=.fields vs)(h2:vs[1]?=Ga (.str v.1 v.2))(g:ls H ps.toList) :
  ls (upd H P (.tbl (ps++#[rawInt pos.line,rawInt pos.col,.ref c]))) (ps++#[rawInt pos.line,rawInt pos.col,.ref c]).toList:=by
 have ne:c≠P:=λz=>by subst z;rw[hP] at hc;cases hc
 have e:(ps++#[rawInt pos.line,rawInt pos.col,kP c]).toList=ps.toList++[rawInt pos.line,rawInt pos.col,kP c]:=by simp
 rw[e];refine⟨ztF g.1 trivial,λp cv hcv=>?_⟩;rw[WT g.1] at hcv;cases z:codeAmong p ps.toList with
 | some cv' =>
  rw[z] at hcv;cases hcv;obtain⟨c2,o2,vs2,v2,e1,e2,e3⟩:=g.2 p _ z;exact⟨c2,o2,vs2,v2,e1,by rw[hE (λq=>by subst q;rw[hP] at e2;cases e2)];exact e2,e3⟩
 | none =>
  rw[z] at hcv;have hcv:codeAmong p [rawInt pos.line,rawInt pos.col,kP c]=Ga cv:=hcv;unfold rawInt codeAmong at hcv;split at hcv
  .cases hcv;exact⟨c,o,vs,v,rfl,by rw[hE ne];exact hc,h1,h2⟩
  .unfold codeAmong at hcv;cases hcv
section
variable {X:Cx}{c0 P:Gj}{fr:List Str}{params:Arguments}{body:Expr}{scope:Scope}{lpos:Pos}
theorem Wn (L:Dg X c0 P)(outs:∀ y∈scope.names,y.2=.free->X.env.scope.names.lookup y.1=Ga .cell\/X.env.scope.names.lookup y.1=Ga .free)(hfr:∀ y∈fr,(y,j8)∈scope.names)
  (hdef:defaultsOf params X.env=([],[]):=by rfl):PE X (.Lambda params body scope lpos) (Vp X.env fr params body scope P):=by
 intro ω s σ H Q I h;obtain⟨ps,hP,gt,q⟩:=h;refine PySem.W.kla_eval hdef ?_;obtain⟨cl,ecl,c1,c2,_⟩:=FE (ψ:=X.env) scope.names [] (λy hy hf=>I.ok.has y.1 (outs y hy hf)) (λx c h=>by simp at h);have hcl:closureFor scope X.env=pure cl:=by rw[SC,ecl];rfl
 have hPo:s.heap.get? P=Ga (Je ps):=I.hok P _ hP;have C:=L.hd _ I.kIn;have hg:=I.mod.glob.keeps I.bk;have nb:∀ b o,X.base.get? b=Ga o->b≠P:=λb o e z=>by subst z;rw[(I.bs b o e).2] at hP;cases hP
 have hgP:mainGlobals≠P:=by obtain⟨o,es,ep,e,_⟩:=I.mod.glob;exact nb _ o e
 have hbm:s.heap.BuiltinsAt X.mg P:=by
  obtain⟨bm,o,b1,b2,b3,b4,b5⟩:=L.bm;have b6:=I.mod.kin bm o b4;exact⟨bm,o,b1,b2,b3,nb bm o b6,I.bk bm o b6,b5⟩
 have lt:∀ b o,H b=Ga o->b<s.heap.objs.size:=λb o e=>I.hok.lt e;cases hc:codeAmong lpos ps.toList with
 | none =>
  refine PySem.W.kla_makeFunction hcl I.ok.glob hg L.code C hPo gt.1 hc hgP hbm (λc' ctv h' tk hx hge hlt hrec htb=>?_);obtain⟨c2',oc,vs,t,e2,hoc,hd,hv⟩:=hrec;cases e2;generalize hob:kZ ("<lambda>":Str) (X.env.qual++"<lambda>") params body scope cl ((X.mg "__name__").getD .none) c' ctv=ob;have nP:∀ b,H b=Gb->b≠P:=λb e z=>by subst z;rw[hP] at e;cases e
  have ltc:∀ b,b<s.heap.objs.size->b≠c':=λb h=>jH (jB h hge);have ltf:∀ b,b<s.heap.objs.size->b≠h'.objs.size:=λb h=>jH (jB h (jF hge (uk hlt)));have Pc:P≠c':=ltc P (lt P _ hP);have Pf:P≠h'.objs.size:=ltf P (lt P _ hP);have cf:c'≠h'.objs.size:=jH hlt;have nc:H c'=Gb:=I.hok.fresh hge;have nf:H h'.objs.size=Gb:=I.hok.fresh (jF hge (uk hlt));have keep:∀ b o,b≠P->s.heap.get? b=Ga o->(h'.push ob).get? b=Ga o:=λb o ne e=>jf _ (hx b o ne e);have H1e:∀ b o,b≠P->H b=Ga o->(upd (upd (upd H c' (.frz oc (.own c'))) P (.tbl (ps++#[rawInt lpos.line,rawInt lpos.col,.ref c']))) h'.objs.size (.ext (oq h'.objs.size ob))) b=Ga o:=λb o ne e=>by
   have:=lt b o e;rw[hE (ltf b this),hE ne,hE (ltc b this)];exact e
  have sa:gM H (upd H c' (.frz oc (.own c'))):=gM.new nc;have hPa:(upd H c' (.frz oc (.own c'))) P=Ga (.tbl ps):=by rw[hE Pc];exact hP
  have sb:gM (upd H c' (.frz oc (.own c'))) (upd (upd H c' (.frz oc (.own c'))) P (.tbl (ps++#[rawInt lpos.line,rawInt lpos.col,.ref c']))):=gM.tbl hPa λg=>zxU hPa ij hd (v:=(_,_)) hv g;have nfb:(upd (upd H c' (.frz oc (.own c'))) P (.tbl (ps++#[rawInt lpos.line,rawInt lpos.col,.ref c']))) h'.objs.size=Gb:=by rw[hE (uo Pf),hE (uo cf)];exact nf
  have sc:gM _ (upd (upd (upd H c' (.frz oc (.own c'))) P (.tbl (ps++#[rawInt lpos.line,rawInt lpos.col,.ref c']))) h'.objs.size (.ext (oq h'.objs.size ob))):=gM.new nfb;have same:=sa.trans (sb.trans sc);have H1P:(upd (upd (upd H c' (.frz oc (.own c'))) P (.tbl (ps++#[rawInt lpos.line,rawInt lpos.col,.ref c']))) h'.objs.size (.ext (oq h'.objs.size ob))) P=Ga (.tbl (ps++#[rawInt lpos.line,rawInt lpos.col,.ref c'])):=by rw[hE Pf,ij]
  have H1c:(upd (upd (upd H c' (.frz oc (.own c'))) P (.tbl (ps++#[rawInt lpos.line,rawInt lpos.col,.ref c']))) h'.objs.size (.ext (oq h'.objs.size ob))) c'=Ga (.frz oc (.own c')):=by rw[hE cf,hE (uo Pc),ij]
  have H1f:(upd (upd (upd H c' (.frz oc (.own c'))) P (.tbl (ps++#[rawInt lpos.line,rawInt lpos.col,.ref c']))) h'.objs.size (.ext (oq h'.objs.size ob))) h'.objs.size=Ga (.ext (oq h'.objs.size ob)):=ij;have H1n:∀ b,b<s.heap.objs.size->H b=Gb->(upd (upd (upd H c' (.frz oc (.own c'))) P (.tbl (ps++#[rawInt lpos.line,rawInt lpos.col,.ref c']))) h'.objs.size (.ext (oq h'.objs.size ob))) b=Gb:=λb hb e=>by
   rw[hE (ltf b hb),hE (nP b e),hE (ltc b hb)];exact e
  have H1i:∀ b o,(upd (upd (upd H c' (.frz oc (.own c'))) P (.tbl (ps++#[rawInt lpos.line,rawInt lpos.col,.ref c']))) h'.objs.size (.ext (oq h'.objs.size ob))) b=Ga o->b=h'.objs.size\/b=P\/b=c'\/(b≠P/\H b=Ga o):=λb o e=>by
   by_cases z1:b=h'.objs.size
   .exact .inl z1
   .by_cases z2:b=P
    .exact .inr (.inl z2)
    .by_cases z3:b=c'
     .exact .inr (.inr (.inl z3))
     .rw[hE z1,hE z2,hE z3] at e;exact .inr (.inr (.inr ⟨z2,e⟩))
  generalize (upd (upd (upd H c' (.frz oc (.own c'))) P (.tbl (ps++#[rawInt lpos.line,rawInt lpos.col,.ref c']))) h'.objs.size (.ext (oq h'.objs.size ob)))=H1 at H1e same H1P H1c H1f H1n H1i;clear sb sc nfb hPa sa;have U:Un X.fs [] H H1 s.heap (h'.push ob):=by
   refine⟨λb o e n _ _=>keep b o (nP b n) e,λb o e n _ _=>⟨o.slots,keep b o (nP b n) e⟩,λb o e n _=>H1n b (jp e) n,λb o e _=>?_,λb xs e=>H1e b _ (λz=>by subst z;rw[hP] at e;cases e) e,λb o u e=>H1e b _ (λz=>by subst z;rw[hP] at e;cases e) e,λb qs e=>?_⟩
   .by_cases z:b=P
    .subst z;exact⟨_,jf _ htb⟩
    .exact⟨o,keep b o z e⟩
   .by_cases z:b=P
    .subst z;rw[hP] at e;cases e;exact⟨_,H1P⟩
    .exact⟨#[],by rw[H1e b _ z e];simp⟩
  have K1:HOk X.prog X.w H1 (h'.push ob):=λb o e=>by
   rcases H1i b o e with rfl|rfl|rfl|⟨z,e'⟩
   .rw[H1f] at e;cases e;have g:(h'.push ob).get? h'.objs.size=Ga ob:=by rw[<- hob];exact jy _ rfl
    exact⟨g,⟨_,g⟩,λh1 h2 p k=>k _ p⟩
   .rw[H1P] at e;cases e;exact jf _ htb
   .rw[H1c] at e;cases e;have g:=jf ob hoc;exact⟨g,_,g⟩
   .refine(I.hok b o e').stay (λc u hcu r=>keep c u ?_ r) (λc r=>H1e c _ (λw=>by subst w;rw[hP] at r;cases r) r) λc xs r=>H1e c _ (λw=>by subst w;rw[hP] at r;cases r) r;rcases hcu with rfl|w
    .exact z
    .intro w2;subst w2;rw[hP] at w;cases w
  refine⟨.ref h'.objs.size,H1,I.un (t':=tk) U K1,rfl,q h'.objs.size cl H1 ⟨same,nf,("<lambda>":Str),X.env.qual++"<lambda>",(X.mg "__name__").getD .none,c',ctv,oc,vs,(_,t),?_,H1c,hd,hv⟩ c1 λy hy=>c2 y (hfr y hy)⟩;rw[H1f,<- hob]
 | some cv =>
  obtain⟨c,o,vs,v,rfl,hcH,hod,hv⟩:=gt.2 lpos cv hc;refine PySem.W.kla_makeFunctionHit hcl I.ok.glob hg L.code C hPo gt.1 hc hbm (λctv h' tk hk hsz=>?_);generalize hob:({ cls:=.type "function",data:=.func (qf ("<lambda>":Str) (X.env.qual++"<lambda>") params body scope cl ((X.mg "__name__").getD .none) (.ref c) ctv) }:Obj)=ob;have nf:H h'.objs.size=Gb:=I.hok.fresh hsz;have keep:∀ b o,s.heap.get? b=Ga o->(h'.push ob).get? b=Ga o:=λb o e=>jf _ (hk b o e);have g:(h'.push ob).get? h'.objs.size=Ga ob:=by rw[<- hob];exact jy _ rfl
  have I':gS X ω σ (upd H h'.objs.size (.ext (oq h'.objs.size ob))) { s with heap:=h'.push ob,toks:=tk }:=I.laid keep hsz ⟨g,⟨_,g⟩,λh1 h2 p k=>k _ p⟩;refine⟨.ref h'.objs.size,_,I',rfl,q h'.objs.size cl _ ⟨gM.new nf,nf,("<lambda>":Str),X.env.qual++"<lambda>",(X.mg "__name__").getD .none,c,ctv,o,vs,v,?_,?_,hod,hv⟩ c1 λy hy=>c2 y (hfr y hy)⟩
  .rw[ij,<- hob]
  .rw[hE (λz=>by rw[z] at hcH;rw[nf] at hcH;cases hcH)];exact hcH
end
def nr (h:Heap)(H:Hp)(cs:List Gj):Hp:=λb=>if b∈cs then(h.get? b).map (λo=>HO.frz o (.own b)) else H b
theorem Be {h:Heap}{H:Hp}{cs:List Gj}{b:Gj}(hb:b∈cs):nr h H cs b=(h.get? b).map (λo=>HO.frz o (.own b)):=Ge hb
theorem wf {h:Heap}{H:Hp}{cs:List Gj}{b:Gj}(hb:b∉cs):nr h H cs b=H b:=Gf hb
section
variable {h:Heap}{F H H':Hp}{cs:List Gj}{P:Program}{w:World}
theorem tP (n:∀ c∈cs,H c=Gb):∀ c o,H c=Ga o->nr h H cs c=Ga o:=λc o e=>by
 rw[wf λz=>by rw[n c z] at e;cases e];exact e
theorem Me (hc:∀ c∈cs,∃ o v,h.get? c=Ga o/\o.data=.cell v):mE (nr h H cs) cs:=λc z=>by
 obtain⟨o,v,e1,e2⟩:=hc c z;exact⟨o,v,by rw[Be z,e1];rfl,e2⟩
theorem zAh (hc:∀ c∈cs,∃ o v,h.get? c=Ga o/\o.data=.cell v)(n:∀ c∈cs,H c=Gb)(x:HOk P w H h):HOk P w (nr h H cs) h:=λa o e=>by
 by_cases ha:a∈cs
 .obtain⟨o1,v,e1,e2⟩:=hc a ha;rw[Be ha,e1] at e;cases e;exact⟨e1,_,e1⟩
 .rw[wf ha] at e;exact(x a o e).stay (λ_ _ _ q=>q) (λb q=>tP n b _ q) λb xs q=>tP n b _ q
theorem zCr (hc:∀ c∈cs,∃ o v,h.get? c=Ga o/\o.data=.cell v){l:List Gg}(g:ls (nr h H cs) l):ls H l :=
 ⟨g.1,λpos cv e=>by
  obtain⟨c,x,vs,v,e1,e2,e3,e4⟩:=g.2 pos cv e;refine⟨c,x,vs,v,e1,?_,e3,e4⟩;by_cases z:c∈cs
  .obtain⟨o1,v1,h1,h2⟩:=hc c z;rw[Be z,h1] at e2;cases e2;rw[e3] at h2;cases h2
  .rw[wf z] at e2;exact e2⟩
theorem Ta (hc:∀ c∈cs,∃ o v,h.get? c=Ga o/\o.data=.cell v)(n:∀ c∈cs,H c=Gb)(s:gM F H):gM (nr h F cs) (nr h H cs):=λb o e=>by
 by_cases hb:b∈cs
 .obtain⟨o1,v,e1,e2⟩:=hc b hb;rw[Be hb,e1] at e ⊢;cases e;exact rfl
 .rw[wf hb] at e ⊢;exact((s b o e).from λ_ z=>zCr hc z).to λ_ z=>z.sub (tP n)
theorem QV (n:∀ c∈cs,H c=Gb)(m:mE H' cs)(s:gM (nr h H cs) H'):gM H (butC H' cs):=λb o e=>by
 have hb:b∉cs:=λz=>by rw[n b z] at e;cases e
 rw[nX hb];exact((s b o (tP n b o e)).from λ_ z=>z.sub (tP n)).to λ_ z=>MY m z
end
def Ao (ψ:En):List Nat->Option (List D)
 | []=>Ga []
 | i::r=>match ψ[i]? with
  | some (.val d)=>(Ao ψ r).bind λds=>Ga (d::ds)
  | _=>Gb
theorem Pg {ψ:En}:∀ {ix:List Nat} {ds:List D},Ao ψ ix=Ga ds->ds.length=ix.length/\∀ (j i:Nat) (d:D),ix[j]?=Ga i->ds[j]?=Ga d->ψ[i]?=Ga (.val d)
 | [],ds,h=>by cases h;exact⟨rfl,λj i d e=>by simp at e⟩
 | i::r,ds,h=>by
  unfold Ao at h;split at h
  .rename_i d hd;obtain⟨es,e1,e2⟩:=gL h;cases e2;obtain⟨l,k⟩:=Pg e1;refine⟨by simpa using l,λj i' d' q1 q2=>?_⟩;cases j with
   | zero=>cases q1;cases q2;exact hd
   | succ j=>exact k j i' d' q1 q2
  .cases h
open Classical in
noncomputable def pW (it:Nat)(P:Gj)(mk:(D->Option D)->iz)(fb:FV)(fm:iz->(D->Option D)->List D->Option D)(ix:List Nat)(g:FL):FV:=λψ =>
 if ψ[it]?=Ga (.tab P) then(Ao ψ ix).bind λcs=>(g ψ).bind (fm (mk λd=>fb (.val d::cs.map .val)) λd=>fb (.val d::cs.map .val)) else Gb
def GJ (K:jb)(ψ:Env)(fr:List Str)(params:Arguments)(body:Expr)(scope:Scope)(P:Gj)(p:Nat)(g:FL):TA:=λσ H Q=>∃ (H0 F0:Hp) (en:En) (as:List D) (qs:Array Gg),RS K H0 F0 H en σ/\g en=Ga as/\H P=Ga (.tbl qs)/\ls H qs.toList /\
 ∀ (a:Gj) (cl:List (Str×Gj)) (us:List V) (H2 F2:Hp),gM H H2->gM F0 F2->gM F2 H2->lb F0 F2 H->ia K F2 as us->RS K H0 F2 H2 en σ ->
  (∃ name qual pm c ctv o vs,∃ v:Str×Tok,F2 a=Ga (.ext (oq a (kZ name qual params body scope cl pm c ctv)))/\H2 c=Ga (.frz o (.own c))/\o.data=.fields vs/\vs[1]?=Ga (.str v.1 v.2)) ->
  (∀ y a,cl.lookup y=Ga a->ψ.cells.lookup y=Ga a)->(∀ y∈fr,∃ a,cl.lookup y=Ga a)->Q (us.take p++.ref a::us.drop p) H2
section
variable {X:Cx}{c0 P:Gj}{fr:List Str}{params:Arguments}{body:Expr}{scope:Scope}{lpos:Pos}{es:List Expr}{g:FL}
theorem QD (L:Dg X c0 P)(outs:∀ y∈scope.names,y.2=.free->X.env.scope.names.lookup y.1=Ga .cell\/X.env.scope.names.lookup y.1=Ga .free)(hfr:∀ y∈fr,(y,j8)∈scope.names)(ha:PL X es g)(hdef:defaultsOf params X.env=([],[]):=by rfl)
  (he:starEach (.Lambda params body scope lpos::es) X.env=(false,eval (.Lambda params body scope lpos) X.env)::starEach es X.env:=by rfl):PA X (.Lambda params body scope lpos::es) (GJ X.K X.env fr params body scope P 0 g):=by
 refine Fa (lN (Wn L outs hfr hdef) ha.pa he) λσ H Q=>?_;rintro⟨H0,F0,ψ,as,qs,r,e2,hP,gd,q⟩;refine⟨qs,hP,gd,λa cl H1 M m1 m2=>?_⟩;obtain⟨name,qual,pm,c,ctv,o,vs,v,x1,x2,x3⟩:=M.ex;have fa:F0 a=Gb:=r.fh.free M.new;have s1:gM F0 (upd F0 a (.ext (oq a (kZ name qual params body scope cl pm c ctv)))):=gM.new fa;have s2:gM (upd F0 a (.ext (oq a (kZ name qual params body scope cl pm c ctv)))) H1:=(r.fh.trans M.same).upL x1 trivial;have n1:lb F0 (upd F0 a (.ext (oq a (kZ name qual params body scope cl pm c ctv)))) H:=λb o' h n=>by
  by_cases hb:b=a
  .subst hb;exact M.new
  .rw[hE hb,n] at h;cases h
 have r1:=r.grow M.same s1 s2 n1;exact⟨H0,_,ψ,as,r1,e2,λus H2 F2 g2 f2 fh2 n2 rv=>q a cl us H2 F2 (M.same.trans g2) (s1.trans f2) fh2 (n1.trans n2 M.same) rv (r1.grow g2 f2 fh2 n2) ⟨name,qual,pm,c,ctv,o,vs,v,f2 _ _ ij,g2 _ _ x2,x3⟩ m1 m2⟩
theorem Zi {p:Nat}{e:Expr}{f:FV}(h:PV X e f)(ha:PA X es (GJ X.K X.env fr params body scope P p g))(hs:starEach (e::es) X.env=(false,eval e X.env)::starEach es X.env:=by rfl):PA X (e::es) (GJ X.K X.env fr params body scope P (p+1) (λψ=>(f ψ).bind λd=>(g ψ).bind λds=>Ga (d::ds))):=by
 refine Fa (lN h ha hs) λσ H Q=>?_;rintro⟨H0,F0,ψ,as,qs,r,e2,hP,gd,q⟩;obtain⟨d,e3,e4⟩:=gL e2;obtain⟨ds,e5,e6⟩:=gL e4;cases e6;refine⟨H0,F0,ψ,d,r,e3,λv H1 F1 g1 f1 fh1 n1 rv=>?_⟩;obtain⟨qs1,hP1,gd1⟩:=g1 P _ hP;refine⟨H0,F1,ψ,ds,qs1,r.grow g1 f1 fh1 n1,e5,hP1,gd1 gd,λa cl us H2 F2 g2 f2 fh2 n2 rvs r2 ex m1 m2=>?_⟩;exact q a cl (v::us) H2 F2 (g1.trans g2) (f1.trans f2) fh2 (n1.trans n2 g1) (.cons (rv.mono f2) rvs) r2 ex m1 m2
end
section
variable {X:Cx}{c0 P:Gj}{fr:List Str}{params:Arguments}{body:Expr}{scope:Scope}{lpos:Pos}{e0:Expr}{k kl lp:Nat}{f:Gj}{fd:Gi}{ps:List Str}{x xl:Str}{p pos:Pos}{es:List Expr}{g:FL}{fb:FV}{fm:iz->(D->Option D)->List D->Option D}{ix:List Nat}
theorem OX (it:Nat)(S:wJ xl fr scope)(outs:∀ y∈scope.names,y.2=.free->X.env.scope.names.lookup y.1=Ga .cell\/X.env.scope.names.lookup y.1=Ga .free)(hfr:∀ y∈fr,(y,j8)∈scope.names)(hfn:∀ y,X.fn y=true)
  (hlen:ix.length=fr.length) (hat:∀ (j i:Nat) (y:Str),ix[j]?=Ga i->fr[j]?=Ga y->X.N[i]?=Ga y)
  (hbind:∀ (name qual:Str) (cl:List (Str×Gj)) (pm:Gg) (c:Gj) (ctv u:Gg),bindArgs (qf name qual params body scope cl pm (.ref c) ctv) ⟨[u],[]⟩=pure [(xl,u)])
  (hbody:∀ (qual:Str) (f:Gj) (cd:Gg) (cl:List (Str×Gj)) (A:Around) (outer:List Env) (s:Gh) (H:Hp),lK kl (A.deeper (vh qual scope s.heap.objs.size f cd cl))->PV (xU X.prog X.w X.K X.mg X.base (xl::fr) qual scope f cd cl A outer s H) body fb)
  (F:∀ φ,hV X.prog X.w X.K X.mg X.base io k f fd ps (wC X.K lp (yI X.prog X.w X.K X.mg X.base (kl+1) φ) (fm (yI X.prog X.w X.K X.mg X.base (kl+1) φ) φ))) (hr:lK k X.A) (hm:X.mg x=Ga (.ref f)) (hk:ub X.K (.ref f)=true) (hb:pV X.K fd ps []) (hPA:PA X (e0::es) (GJ X.K X.env fr params body scope P lp g)) (hg:Gl X x:=by rfl)
  (hdb:(x==("__debug__":Str))=false:=by decide) (he:starEach (e0::es) X.env=(false,eval e0 X.env)::starEach es X.env:=by rfl) (hpl:(backTo pos (starEach es X.env)).any (·.1)=false:=by rfl) :
  PV X (.Call (.Name x p) (e0::es) [] pos) (pW it P (yI X.prog X.w X.K X.mg X.base (kl+1)) fb fm ix g):=by
 intro ω s σ H Q I h;obtain⟨H0,F0,ψ,d,r,e,q⟩:=h;unfold pW at e;split at e;rotate_left
 .cases e
 rename_i hi;obtain⟨ds,e1,e⟩:=gL e;obtain⟨as,e2,e3⟩:=gL e;obtain⟨dl,dat⟩:=Pg e1;generalize hφ:(λd=>fb (.val d::ds.map .val))=φ at e3;obtain⟨_,_,ht⟩:=r.sl it _ hi;obtain⟨ps0,ht,g0⟩:∃ ps,H0 P=Ga (.tbl ps)/\ls H0 ps.toList:=ht;obtain⟨qs,hP,hgd⟩:=r.h0 P _ ht;have gd:ls H qs.toList:=hgd g0;refine wpAny_Call_Name_kw (yx I hg hm ?_ hdb);refine Jo (h₀:=X.base) I.ok.mod.kin hk (iR (hPA pos ω s σ H (λvs H2=>∃ (a:Gj) (cl:List (Str×Gj)) (F2:Hp) (us:List V),vs=us.take lp++.ref a::us.drop lp/\gM H H2/\gM F0 F2/\gM F2 H2/\lb F0 F2 H/\ia X.K F2 as us/\RS X.K H0 F2 H2 ψ σ /\
   (∃ name qual pm c ctv o vs,∃ v:Str×Tok,F2 a=Ga (.ext (oq a (kZ name qual params body scope cl pm c ctv)))/\H2 c=Ga (.frz o (.own c))/\o.data=.fields vs/\vs[1]?=Ga (.str v.1 v.2)) /\
   (∀ y a,cl.lookup y=Ga a->X.env.cells.lookup y=Ga a)/\(∀ y∈fr,∃ a,cl.lookup y=Ga a)) I ⟨H0,F0,ψ,as,qs,r,e2,hP,gd,λa cl us H2 F2 g2 f2 fh2 n2 rv r2 ex m1 m2=>⟨a,cl,F2,us,rfl,g2,f2,fh2,n2,rv,r2,ex,m1,m2⟩⟩) λus s1 ⟨vs,H2,I1,rvs,q1⟩=>⟨I1.kIn,?_⟩) he hpl
 .obtain⟨a,cl,F2,us',rfl,g2,f2,fh2,n2,rv,r2,⟨name,qual,pm,c,ctv,o,vs',v,x1,x2,x3,x4⟩,m1,m2⟩:=q1;have hcs:∀ c',c'∈(cl.filterMap λq=>cl.lookup q.1)->∃ y,cl.lookup y=Ga c':=λc' hc=>by
   obtain⟨q,_,hq⟩:=uR.mp hc;exact⟨q.1,hq⟩
  have hsc:∀ y c',cl.lookup y=Ga c'->c'∈(cl.filterMap λq=>cl.lookup q.1):=λy c' hy=>uR.mpr ⟨(y,c'),kC hy,hy⟩;generalize (cl.filterMap λq=>cl.lookup q.1)=cs at hcs hsc;have hc:∀ c'∈cs,∃ o v,s1.heap.get? c'=Ga o/\o.data=.cell v:=λc' hc=>by
   obtain⟨y,hy⟩:=hcs c' hc;obtain⟨v,o,h1,h2⟩:=I1.cell y c' (m1 y c' hy);exact⟨o,v,h1,h2⟩
  have nH:∀ c'∈cs,H2 c'=Gb:=λc' hc=>by
   obtain⟨y,hy⟩:=hcs c' hc;exact I1.freeC y c' (m1 y c' hy)
  have nF:∀ c'∈cs,F2 c'=Gb:=λc' hc=>fh2.free (nH c' hc);have above:∀ c'∈cs,X.s₀.heap.objs.size<=c':=λc' hc=>by
   obtain⟨y,hy⟩:=hcs c' hc;exact I1.ok.cab y c' (hfn y) (m1 y c' hy)
  have nfr:∀ c'∈cs,c'∉rF X.stack:=λc' hc hz=>by
   obtain⟨y,hy⟩:=hcs c' hc;rcases jw.mp (I1.stkSub c' hz) with z|z
   .exact I1.cne y c' (m1 y c' hy) z
   .obtain⟨_,o,ho,_⟩:=I1.ok.funs.mem z;exact absurd (jB (jp ho) (above c' hc)) (jY _)
  have sH:gM F2 (nr s1.heap F2 cs):=gM.of (tP nF);have cP:wF X.K (nr s1.heap F2 cs) fr ds cl cs:=by
   refine⟨λj y dj h1 h2=>?_,hsc,m2,Me hc,λx y c' h1 h2=>I1.ok.inj x y c' (m1 x c' h1) (m1 y c' h2),by rw[dl,hlen],hcs⟩;obtain⟨c',hc'⟩:=m2 y (j7 h1);obtain⟨i,hi'⟩:∃ i,ix[j]?=Ga i:=⟨_,ji (by rw[hlen];exact(jn.mp h1).1)⟩;have hv:=dat j i dj hi' h2;obtain⟨u,e5,v2,e6,rv2⟩:=r2.sl i _ hv;subst e6;obtain⟨m,hm1,hm2⟩:=I1.loc;have kd:=outs _ (hfr y (j7 h1)) rfl;obtain⟨u2,ru2,lk⟩:=hm2 i y v2 (hat j i y hi' h1) e5 (.inr kd);rcases lk with ⟨k1,_⟩|⟨_,c2,k2,o2,k3,k4⟩
   .have k1:X.env.scope.names.lookup y=Ga .local:=k1;rcases kd with kd|kd<;>(rw[kd] at k1;cases k1)
   .have:c2=c':=by have:=m1 y c' hc';rw[k2] at this;cases this;rfl
    subst this;exact⟨c2,o2,u2,v2,hc',hsc y c2 hc',by rw[Be (hsc y c2 hc'),k3];rfl,k4,ru2,rv2.mono sH⟩
  have hC:(Eh X.K params body scope fr ds).C a (nr s1.heap F2 cs) (nr s1.heap H2 cs):=⟨name,qual,cl,pm,c,ctv,cs,o,vs',v,tP nF _ _ x1,tP nH _ _ x2,x3,x4,cP⟩;have hC2:=zAg (zvF (P:=X.prog) (w:=X.w) (mg:=X.mg) (base:=X.base) (k:=kl) S hbind hbody) hC;rw[hφ] at hC2;have e0:sD X.prog X.w X.K X.mg X.base X.A X.stack s1 (nr s1.heap H2 cs):=by
   have e:=I1.env0;refine⟨e.frames,e.mod,λb o hb=>⟨(e.bs b o hb).1,?_⟩,e.bsz,e.funs,λb hb=>?_,zAh hc nH e.hok,e.bare⟩
   .rw[wf λz=>absurd (jB (jp hb) (jF I1.ok.bsz (above b z))) (jY _)];exact(e.bs b o hb).2
   .rw[wf λz=>nfr b z hb];exact e.frf b hb
  have hl:us.length=ps.length:=by
   rw[<- rvs.length];exact(F φ).len (us'.take lp++.ref a::us'.drop lp) (nr s1.heap H2 cs) (λ_ _=>True) E0 ⟨nr s1.heap F2 cs,a,us',as,d,rfl,hC2,Ta hc nH fh2,rv.mono sH,e3,λ_ _ _ _ _ _ _ _=>trivial⟩
  have hbs:=hb s1 us I1.kIn (by rw[km];exact hl);rw[km] at hbs;refine wpAny_call (codeAny_mono ((F φ).run X.A X.stack s1 (nr s1.heap H2 cs) ⟨us,[]⟩ us (us'.take lp++.ref a::us'.drop lp) (λv' H'=>mE H' cs/\Q v' (butC H' cs)) E0 hr e0 hbs rvs
   ⟨nr s1.heap F2 cs,a,us',as,d,rfl,hC2,Ta hc nH fh2,rv.mono sH,e3,λv' H' F' g3 f3 fh3 n3 rv3=>?_⟩) λrr s' hq=>?_)
  .have mH:mE H' cs:=(Me hc).mono g3;have mF:mE F' cs:=(Me hc).mono f3;refine⟨mH,q v' (butC H' cs) (butC F' cs) (g2.trans (QV nH mH g3)) (f2.trans (QV nF mF f3)) (fh3.butC2 mH) (λb o h n=>?_) (rv3.butC mF)⟩;obtain⟨hb,h⟩:=Fh h;cases z:F2 b with
   | none =>
    have:=n3 b o h (by rw[wf hb];exact z);rw[wf hb] at this;exact g2.free this
   | some u=>exact n2 b u z n
  .cases rr with
   | error e=>exact hq.elim
   | ok fl =>
    cases fl with
    | ret u =>
     obtain⟨v',H',os,bare,un,hok,rel,mH,qv⟩:=hq;refine⟨v',butC H' cs,I1.call' (ch:=[]) os ⟨λb o hb n hf hx=>?_,λb o hb n hf hx=>?_,λb o hb n hx=>?_,λb o hb hx=>un.there b o hb hx,λb xs hb=>?_,λb o x hb=>?_,λb ps hb=>?_⟩ (T3.HOk.butC mH hok) bare (λb z=>absurd z (by simp)),rel,qv⟩
     .by_cases z:b∈cs
      .have:=un.frzs b o (.own b) (by rw[Be z,hb];rfl);exact(hok b _ this).1
      .exact un.keep b o hb (by rw[wf z];exact n) hf hx
     .have z:b∉cs:=λz=>nfr b z hf;exact un.slot b o hb (by rw[wf z];exact n) hf hx
     .by_cases z:b∈cs
      .exact Aw z
      .rw[nX z];exact un.free b o hb (by rw[wf z];exact n) hx
     .have z:b∉cs:=λz=>by rw[nH b z] at hb;cases hb
      rw[nX z];exact un.tups b xs (tP nH b _ hb)
     .have z:b∉cs:=λz=>by rw[nH b z] at hb;cases hb
      rw[nX z];exact un.frzs b o x (tP nH b _ hb)
     .have z:b∉cs:=λz=>by rw[nH b z] at hb;cases hb
      rw[nX z];exact un.tbls b ps (tP nH b _ hb)
    | next=>exact False.elim hq
    | brk=>exact False.elim hq
    | cont=>exact False.elim hq
end
def ya (n:Nat)(Pt:Gj)(ds:List D):En:=(oo n ds).set (n-1) (.tab Pt)
def Av (np n:Nat)(Pt:Gj)(g:FS)(ds:List D):Option D:=if ds.length=np then hJ (g (ya n Pt ds)) else Gb
def spT (K:jb)(Pt:Gj)(fm:List D->Option D):Sp:=λvs H Q _=>∃ (F:Hp) (ds:List D) (d:D),(∃ ps,H Pt=Ga (.tbl ps)/\ls H ps.toList)/\gM F H/\ia K F ds vs/\fm ds=Ga d/\∀ v H' F',gM H H'->gM F F'->gM F' H'->lb F F' H->iM K F' d v->Q v H'
theorem RS.putN {K:jb}{H0 F H:Hp}{ψ:En}{σ:St}(r:RS K H0 F H ψ σ){i:Nat}{s:Sl}{u:Option V}(hu:σ[i]?=Ga u)(q:pv K H0 F H s u)(o:oe s=false):RS K H0 F H (ψ.set i s) σ:=by
 refine⟨r.h0,r.fh,λj t e=>?_,λj k a t1 t2 o1 o2 e1 e2 e3 e4=>?_⟩
 .by_cases h:i=j
  .subst h;by_cases hl:i<ψ.length
   .rw[jW hl] at e;cases e;exact⟨u,hu,q⟩
   .rw[kf (by simpa using hl)] at e;cases e
  .rw[jS h] at e;exact r.sl j t e
 .have f1:∀ (j:Nat) (t:Sl),oe t=true->(ψ.set i s)[j]?=Ga t->ψ[j]?=Ga t:=λj t ow e=>by
   by_cases h:i=j
   .subst h;by_cases hl:i<ψ.length
    .rw[jW hl] at e;cases e;rw[o] at ow;cases ow
    .rw[kf (by simpa using hl)] at e;cases e
   .rw[jS h] at e;exact e
  exact r.ap j k a t1 t2 o1 o2 (f1 j t1 o1 e1) (f1 k t2 o2 e2) e3 e4
section
variable {P:Program}{w:World}{K:jb}{mg:Str->Option Gg}{base:Heap}{x qual:Str}{st:Stmt}{f:Gj}{fd:Gi}{N ps:List Str}{k:Nat}{g:FS}{Pt c0:Gj}
theorem Uy (F:sL K x qual st f fd)(S:gR N ps (gO st))(hN:0<N.length)(hpn:ps.length<=N.length)
  (hb:∀ cdv,fd.code=cdv->∀ (A:Around) (outer:List Env) (s:Gh) (H:Hp) (E:XK),lK k (A.deeper (envOfC qual (gO st) s.heap.objs.size f cdv))->oV (pT io P w K mg base N qual (gO st) f cdv A outer s H E).nox (lO st) g) :
  hV P w K mg base io (k+1) f fd ps (spT K Pt (Av ps.length N.length Pt g)):=by
 have hr0:∀ {ds:List D} {d:D},Av ps.length N.length Pt g ds=Ga d->ds.length=ps.length/\(g (ya N.length Pt ds)=Ga (.rt d)\/∃ xs,d=.list xs/\g (ya N.length Pt ds)=Ga (.ro xs)):=λ{ds d} h=>by
  unfold Av at h;split at h
  .rename_i z;refine⟨z,?_⟩;unfold hJ at h;split at h
   .rename_i e;cases h;exact .inl e
   .rename_i e;cases h;exact .inr ⟨_,rfl,e⟩
   .cases h
  .cases h
 obtain⟨oc,od,kV,doc,pm,an,cdv,ct,osl,rfl,lk,hcd'⟩:=F.ex;have hb:=hb cdv rfl;refine EM lk hcd' S (λvs H Q E h=>?_) λA outer s H vs Q E hr h=>?_
 .obtain⟨F0,ds,d,_,_,r,e,_⟩:=h;rw[<- r.length];exact(hr0 e).1
 .obtain⟨F0,ds,d,ht,hs,r,e,q⟩:=h;have rs:RS K H F0 H (ya N.length Pt ds) (L2.start N vs):=by
   refine(RS.start (N:=N) hs r).putN (u:=((L2.start N vs)[N.length-1]?).getD Gb) ?_ ht rfl;have hl:N.length-1<(L2.start N vs).length:=by
    unfold L2.start;rw[ju,jd,qT];have:=r.length;have:=(hr0 e).1;omega
   rw[ji hl];rfl
  rcases(hr0 e).2 with z|⟨xs,rfl,z⟩
  .exact⟨_,(hb A outer s H E hr).nox,H,F0,_,_,rs,z,λv H' F' g1 f1 fh1 n1 rv=>q v H' F' g1 f1 fh1 n1 rv⟩
  .refine⟨_,(hb A outer s H E hr).nox,H,F0,_,_,rs,z,λa ys H' F' g1 f1 fh1 n1 ha fa ha' rr=>?_⟩;have sF:gM F' (upd F' a (.lst ys)):=gM.new fa;refine q (.ref a) H' (upd F' a (.lst ys)) g1 (f1.trans sF) (gM.upL fh1 ha' trivial) (λb o h nb=>?_) (.lst (lH.of ij) (rr.mono sF));by_cases hb:b=a
   .subst hb;exact ha
   .rw[hE hb] at h;exact n1 b o h nb
theorem okT (F:sL K x qual st f fd)(hcd:fd.code=.ref c0)(S:gR N ps (gO st))(hN:0<N.length)(hpn:ps.length<=N.length)
  (hb:∀ (A:Around) (outer:List Env) (s:Gh) (H:Hp) (E:XK),lK k (A.deeper (envOfC qual (gO st) s.heap.objs.size f (.ref c0)))->oV (pT io P w K mg base N qual (gO st) f (.ref c0) A outer s H E).nox (lO st) g) :
  hV P w K mg base io (k+1) f fd ps (spT K Pt (Av ps.length N.length Pt g)) :=
 Uy F S hN hpn λcdv e=>by
  rw[hcd] at e;subst e;exact hb
theorem zxY {mb:Str->Option Gg}{fa a:Gj}{sp:Sp}{s₁:Gh}{vs:List Gg}{ns:List Int}
  (KX:K.In s₁.heap) (hns:s₁.heap.Ns mainGlobals mg) (hb:s₁.heap.Ns builtinsNs mb) (hbb:∀ x:Str,x≠"__name__"->mb x=bootBuiltins x) (hlim:s₁.heap.NoLimit) (hg:s₁.gens=#[])
  (ha:s₁.heap.get? a=Ga { cls:=.type "list",data:=.seq vs.toArray }) (hi:IntsAre vs ns) (hl:ns.length<=sizeLine) (hr:lK k callerA)
  (hT:s₁.heap.get? Pt=Ga (Je #[])) (hKT:K.lookup Pt=Gb) (hTc:isCodeTable s₁.heap Pt)
  (F:∀ base:Heap,K.In base->base.Ns mainGlobals mg->hV P w K mg base io k fa fd [x] sp) (hbind:∀ (s:Gh) (u:Gg),BindsTo s fd ⟨[u],[]⟩ [(x,u)])
  (hsp:∀ H:Hp,H Pt=Ga (.tbl #[])->lH K H a (ns.map V.int)->sp [.ref a] H (λv _=>v=.bl true) λ_ _ _=>False) :
  codeAny (model P w) callerA (.call (.ref fa) ⟨[.ref a],[]⟩) (λr s'=>r=.ok (.ret (.bool true))/\OldK s₁.heap s'.heap/\s'.os=s₁.os/\AllBare s'.gens) s₁:=by
 have rv:=wE hi;have lenV:=hi.length;have aT:a≠Pt:=λz=>by rw[z,hT] at ha;cases ha
 have core:∀ H:Hp,H Pt=Ga (.tbl #[])->(∀ b,b≠Pt->H b=Gb\/∃ o xs,H b=Ga (.frz o (.lst xs)))->lH K H a (ns.map V.int)->HOk P w H s₁.heap->(∀ b,H b≠Gb->b=a\/b=Pt)->(H a≠Gb->K.lookup a=Gb) ->
   codeAny (model P w) callerA (.call (.ref fa) ⟨[.ref a],[]⟩) (λr s'=>r=.ok (.ret (.bool true))/\OldK s₁.heap s'.heap/\s'.os=s₁.os/\AllBare s'.gens) s₁:=by
  intro H hPt hO hS hok hA hK;have base_of:∀ {b:Gj} {o:Obj},s₁.heap.get? b=Ga o->H b=Gb->(pA s₁.heap H).get? b=Ga o:=λe n=>zR e n;have noA:∀ {b:Gj} {o:Obj} {es:Array DictEntry} {ep:Nat},s₁.heap.get? b=Ga o->o.data=.dict es ep->H b=Gb:=λ{b o es ep} e d=>by
   cases q:H b with
   | none=>rfl
   | some u =>
    rcases hA b (by rw[q];simp) with e'|e'
    .subst e';rw[ha] at e;cases e;have d':Data.seq vs.toArray _=Data.dict es ep:=d;cases d'
    .subst e';rw[hT] at e;cases e;cases d
  have nsK:∀ {b:Gj} {m:Str->Option Gg},s₁.heap.Ns b m->(pA s₁.heap H).Ns b m:=λ{b m} ⟨o,es,ep,e,d,r⟩=>⟨o,es,ep,base_of e (noA e d),d,r⟩;have hKb:K.In (pA s₁.heap H):=λb o e=>base_of (KX b o e) (by
   cases q:H b with
   | none=>rfl
   | some u =>
    rcases hA b (by rw[q];simp) with e'|e'
    .subst e';rw[hK (by rw[q];simp)] at e;cases e
    .subst e';rw[hKT] at e;cases e)
  have hM:Mod K mg (pA s₁.heap H):=⟨hKb,nsK hns,⟨mb,nsK hb,hbb⟩,let ⟨mc,h1,h2⟩:=hlim;⟨mc,nsK h1,h2⟩⟩;have e0:sD P w K mg (pA s₁.heap H) callerA [] s₁ H:=⟨rfl,hM,λb o e=>BG e,Jy (zh _ _),trivial,λb hb=>absurd (show b∈([]:List Gj) from hb) (by simp),hok,.of_eq hg⟩;refine codeAny_mono ((F _ hKb (nsK hns)).run callerA [] s₁ H ⟨[.ref a],[]⟩ [.ref a] [.ref a] _ _ hr e0 (hbind s₁ (.ref a)) (.cons rfl .nil) (hsp H hPt hS)) λr s' h=>?_;cases r with
  | error e=>exact h.elim
  | ok fl =>
   cases fl with
   | next=>exact False.elim h
   | brk=>exact False.elim h
   | cont=>exact False.elim h
   | ret u =>
    obtain⟨v,H',os,bare,un,hok',r',q⟩:=h;have q':v=.bl true:=q;subst q';obtain rfl:u=uP true:=r';have keep:∀ b o,b≠Pt->s₁.heap.get? b=Ga o->s'.heap.get? b=Ga o:=λb o hb e=>by
     cases q:H b with
     | none=>exact un.keep b o e q (by intro z;exact absurd (show b∈([]:List Gj) from z) (by simp)) (by simp)
     | some u =>
      rcases hO b hb with z|⟨ob,xs,z⟩
      .rw[q] at z;cases z
      .have z2:=un.frzs b ob _ z;obtain⟨e1,_⟩:=hok b _ z;obtain⟨e2,_⟩:=hok' b _ z2;rw[e] at e1;cases e1;exact e2
    obtain⟨more,hmore⟩:=un.tbls Pt _ hPt;have hT':s'.heap.get? Pt=Ga { cls:=.none,data:=.fields (#[]++more) }:=hok' Pt _ hmore;refine⟨rfl,⟨λb o e=>?_,λb o e=>?_⟩,os,bare⟩
    .by_cases hb:b=Pt
     .subst hb;rw[hT] at e;cases e;exact .inr (.inl ⟨hTc,rfl,#[],more,rfl,hT'⟩)
     .exact .inl (keep b o hb e)
    .by_cases hb:b=Pt
     .subst hb;exact⟨_,hT'⟩
     .exact⟨o,keep b o hb e⟩
 cases hk:K.lookup a with
 | some o =>
  have e:=KX a o hk;rw[ha] at e;cases e;refine core (λb=>if b=Pt then Ga (.tbl #[]) else Gb) (Ge rfl) (λb hb=>.inl (Gf hb)) (.inr ⟨_,vs.toArray,_,hk,rfl,rfl,rfl,by rw[jl,lenV];exact hl,by simpa using rv⟩) (λb u z=>?_) (λb z=>?_) λz=>absurd (Gf aT) z
  .by_cases hb:b=Pt
   .have z':=(Ge hb).symm.trans z;cases z';subst hb;exact hT
   .have z':=(Gf hb).symm.trans z;cases z'
  .by_cases hb:b=Pt
   .exact .inr hb
   .exact absurd (Gf hb) z
 | none =>
  refine core (λb=>if b=Pt then Ga (.tbl #[]) else if b=a then Ga (.frz { cls:=.type "list",data:=.seq vs.toArray } (.lst (ns.map V.int))) else Gb) (Ge rfl) (λb hb=>?_) (.inl (.inr ⟨{ cls:=.type "list",data:=.seq vs.toArray },(Gf aT).trans (Ge rfl)⟩)) (λb u z=>?_) (λb z=>?_) λ_=>hk
  .by_cases hba:b=a
   .exact .inr ⟨_,_,(Gf hb).trans (Ge hba)⟩
   .exact .inl ((Gf hb).trans (Gf hba))
  .by_cases hb:b=Pt
   .have z':=(Ge hb).symm.trans z;cases z';subst hb;exact hT
   .replace z:=(Gf hb).symm.trans z;by_cases hba:b=a
    .have z':=(Ge hba).symm.trans z;cases z';subst hba;exact⟨ha,by rw[jd];exact hl,vs,_,rv,ha⟩
    .have z':=(Gf hba).symm.trans z;cases z'
  .by_cases hb:b=Pt
   .exact .inr hb
   .by_cases hba:b=a
    .exact .inl hba
    .exact absurd ((Gf hb).trans (Gf hba)) z
end
theorem zAj {l:qP}{n k:Nat}{q:Program}{loose:List Str}{XP:(Str->Option Gg)->Heap->Prop}{YP:World->Heap->Prop}{d:DefRec}{K:Params->jb}{sp:jb->Sp}{x:Str}{Pt:Gj}
  (hn:l.most=Ga n) (hn2:n<=sizeLine) (hdf:d.params.defaults=[]) (hr:lK k callerA)
  (hY:∀ (w:World) (h:Heap),YP w h->(K w.params).In h/\h.get? Pt=Ga (Je #[]))
  (hKT:∀ P,(K P).lookup Pt=Gb) (hTc:∀ (w:World) (h:Heap),(K w.params).In h->isCodeTable h Pt)
  (F:∀ (w:World) (mg:Str->Option Gg) (fa:Gj) (h:Heap),(K w.params).In h->h.Ns mainGlobals mg->mg d.name=Ga (.ref fa) ->
   ∃ fd:Gi,(∀ (s:Gh) (u:Gg),BindsTo s fd ⟨[u],[]⟩ [(x,u)]) /\
    ∀ base:Heap,(K w.params).In base->base.Ns mainGlobals mg->hV l.prog w (K w.params) mg base io k fa fd [x] (sp (K w.params)))
  (hsp:∀ (K:jb) (H:Hp) (a:Gj) (ns:List Int),ns.length<=n->H Pt=Ga (.tbl #[])->lH K H a (ns.map V.int)->sp K [.ref a] H (λv _=>v=.bl true) λ_ _ _=>False) :
  Jl q loose XP YP l.row.toRowW d [] (λf vs=>Jq f vs):=by
 refine Att.attach_call hn hdf λw s₀ s₁ mg mb fa o pm cd doc a vs ns G Y ho hd hcd hmg hobj hints hlen hg=>?_;obtain⟨KX,hT⟩:=hY w _ Y;obtain⟨fd,hb,hF⟩:=F w mg fa _ KX G.T.g hmg;exact zxY KX G.T.g G.T.b G.T.builtins G.T.nolimit hg hobj hints (jF hlen hn2) hr hT (hKT _) (hTc w _ KX) hF hb (λH hT hS=>hsp (K w.params) H a ns hlen hT hS)
theorem zCs {K:jb}{Pt:Gj}{fm:List D->Option D}{H:Hp}{a:Gj}{ns:List Int}(hT:H Pt=Ga (.tbl #[]))(hS:lH K H a (ns.map V.int))(h:fm [.list (ns.map jc)]=Ga (.bool true)):spT K Pt fm [.ref a] H (λv _=>v=.bl true) λ_ _ _=>False :=
 ⟨H,[.list (ns.map jc)],.bool true,⟨#[],hT,trivial,λpos cv h=>by cases h⟩,.refl _,.cons (.lst hS (ia.ints ns)) .nil,h,λv H' F' _ _ _ _ r=>by cases r;rfl⟩
theorem zsD {K:jb}{h:Heap}{c P:Gj}(X:K.In h)(e:qB K c P=true):isCodeTable h P:=by
 obtain⟨o,vs,file,tf,flags,tg,inF,text,tt,e1,e2,e3,e4,_⟩:=v5 X e;exact⟨c,o,vs,e1,e2,e3,e4⟩
section
variable {X:Cx}{k:Nat}{f:Gj}{fd:Gi}{ps:List Str}{x:Str}{p pos:Pos}{e:Expr}{es:List Expr}{g:FL}
end
structure iK (K:jb)(x:Str)(st:Stmt)(cd:Gg)(a:Gj)(fd:Gi):Prop where
 e:∃ (od an:Option Gj) (sl:Array (Option Gg)) (oc kV dc pm ct:Gg),kb K mainGlobals x=Ga (Ga (.ref a))/\K.lookup a=Ga ⟨oc,od,.func fd,sl⟩/\fd=kT x x (nM st) (lO st) (gO st) .none kV dc pm an cd ct/\vG K cd x=true/\ub K (.ref a)=true
theorem iT {K:jb}{mg:Str->Option Gg}{h:Heap}{x:Str}{st:Stmt}{ps:List Str}{f:Gj}{cd:Gg}{fd:Gi}(X:K.In h)(G:h.Ns mainGlobals mg)(w:iK K x st cd f fd)
  (hb:∀ (kV doc pm:Gg) (an:Option Gj) (cdv ct:Gg) (us:List Gg),us.length=ps.length->bindArgs (kT x x (nM st) (lO st) (gO st) .none kV doc pm an cdv ct) ⟨us,[]⟩=pure (ps.zip us):=by first|(exact λ_ _ _ _ _ _ us hl=>(match us,hl with|[_],_=>rfl))|(exact λ_ _ _ _ _ _ us hl=>(match us,hl with|[_,_],_=>rfl))|(exact λ_ _ _ _ _ _ us hl=>(match us,hl with|[_,_,_],_=>rfl))|(exact λ_ _ _ _ _ _ us hl=>(match us,hl with|[_,_,_,_],_=>rfl))|(exact λ_ _ _ _ _ _ us hl=>(match us,hl with|[_,_,_,_,_],_=>rfl))|(exact λ_ _ _ _ _ _ us hl=>(match us,hl with|[_,_,_,_,_,_],_=>rfl))|(exact λ_ _ _ _ _ _ us hl=>(match us,hl with|[_,_,_,_,_,_,_],_=>rfl))):Fn K mg x st ps f fd:=by
 obtain⟨od,an,sl,oc,kV,dc,pm,ct,e1,e2,rfl,e3,e4⟩:=w.e;exact zGe X G e1 e2 e3 e4 hb
theorem iK.code {K:jb}{x:Str}{st:Stmt}{f:Gj}{cd:Gg}{fd:Gi}(w:iK K x st cd f fd):fd.code=cd:=by
 obtain⟨od,an,sl,oc,kV,dc,pm,ct,e1,e2,rfl,e3,e4⟩:=w.e;rfl
theorem iK.bt {K:jb}{x:Str}{st:Stmt}{f:Gj}{cd:Gg}{fd:Gi}(w:iK K x st cd f fd){Q:Gi->Prop}(q:∀ (kV doc pm:Gg) (an:Option Gj) (cdv ct:Gg),Q (kT x x (nM st) (lO st) (gO st) .none kV doc pm an cdv ct)):Q fd:=by
 obtain⟨od,an,sl,oc,kV,dc,pm,ct,e1,e2,rfl,e3,e4⟩:=w.e;exact q _ _ _ _ _ _
noncomputable section
def me (d:D):FV:=λψ=>Ga d
theorem zEe (d:D)(ψ:En):me d ψ=Ga d:=(rfl)
def gW (op:D->D->Option D)(f g:FV):FV:=λψ=>(f ψ).bind λx=>(g ψ).bind λy=>op x y
theorem TM (op:D->D->Option D)(f g:FV)(ψ:En):gW op f g ψ=(f ψ).bind λx=>(g ψ).bind λy=>op x y:=(rfl)
def nW (op:D->Option D)(f:FV):FV:=λψ=>(f ψ).bind op
theorem PK (op:D->Option D)(f:FV)(ψ:En):nW op f ψ=(f ψ).bind op:=(rfl)
def pF (op:List D->Option D)(f:FL):FV:=λψ=>(f ψ).bind op
theorem zEg (op:List D->Option D)(f:FL)(ψ:En):pF op f ψ=(f ψ).bind op:=(rfl)
def lE (f:FV):FB:=λψ=>(f ψ).bind zN
theorem zEh (f:FV)(ψ:En):lE f ψ=(f ψ).bind zN:=(rfl)
def lI (op:D->D->Option D)(f g:FV):FB:=λψ=>((f ψ).bind λx=>(g ψ).bind λy=>op x y).bind lM
theorem YE (op:D->D->Option D)(f g:FV)(ψ:En):lI op f g ψ=((f ψ).bind λx=>(g ψ).bind λy=>op x y).bind lM:=(rfl)
def mP (f:FB):FB:=λψ=>(f ψ).bind λc=>Ga (!c)
theorem zCu (f:FB)(ψ:En):mP f ψ=(f ψ).bind λc=>Ga (!c):=(rfl)
def zT (f g:FB):FB:=λψ=>(f ψ).bind λc=>if c then g ψ else Ga false
theorem zCv (f g:FB)(ψ:En):zT f g ψ=(f ψ).bind λc=>if c then g ψ else Ga false:=(rfl)
def lV (f g:FB):FB:=λψ=>(f ψ).bind λc=>if c then Ga true else g ψ
theorem zEi (f g:FB)(ψ:En):lV f g ψ=(f ψ).bind λc=>if c then Ga true else g ψ:=(rfl)
def zf (f g:FV):FV:=λψ=>((f ψ).bind lM).bind λc=>if c then g ψ else Ga (.bool false)
theorem zCw (f g:FV)(ψ:En):zf f g ψ=((f ψ).bind lM).bind λc=>if c then g ψ else Ga (.bool false):=(rfl)
def Es (f g:FV):FV:=λψ=>((f ψ).bind lM).bind λc=>if c then Ga (.bool true) else g ψ
theorem zEj (f g:FV)(ψ:En):Es f g ψ=((f ψ).bind lM).bind λc=>if c then Ga (.bool true) else g ψ:=(rfl)
def RY (f:FV):FV:=λψ=>((f ψ).bind lM).bind λc=>Ga (.bool (!c))
theorem zCy (f:FV)(ψ:En):RY f ψ=((f ψ).bind lM).bind λc=>Ga (.bool (!c)):=(rfl)
def Cn (c:FB)(f g:FV):FV:=λψ=>(c ψ).bind λk=>if k then f ψ else g ψ
theorem ZS (c:FB)(f g:FV)(ψ:En):Cn c f g ψ=(c ψ).bind λk=>if k then f ψ else g ψ:=(rfl)
def Od (k k':D->D->Option D)(f g h:FV):FV:=λψ=>(f ψ).bind λx=>(g ψ).bind λy=>((k x y).bind lM).bind λt=>if t then(h ψ).bind λz=>k' y z else Ga (.bool false)
theorem Zr (k k':D->D->Option D)(f g h:FV)(ψ:En):Od k k' f g h ψ=(f ψ).bind λx=>(g ψ).bind λy=>((k x y).bind lM).bind λt=>if t then(h ψ).bind λz=>k' y z else Ga (.bool false):=(rfl)
def SW (k k':D->D->Option D)(f g h:FV):FB:=λψ=>((f ψ).bind λx=>(g ψ).bind λy=>((k x y).bind lM).bind λt=>if t then(h ψ).bind λz=>k' y z else Ga (.bool false)).bind lM
theorem zx1 (k k':D->D->Option D)(f g h:FV)(ψ:En):SW k k' f g h ψ=((f ψ).bind λx=>(g ψ).bind λy=>((k x y).bind lM).bind λt=>if t then(h ψ).bind λz=>k' y z else Ga (.bool false)).bind lM:=(rfl)
def lD :FL:=λψ=>Ga []
theorem zCz  (ψ:En):lD ψ=Ga []:=(rfl)
def gX (f:FV)(g:FL):FL:=λψ=>(f ψ).bind λd=>(g ψ).bind λds=>Ga (d::ds)
theorem Zj (f:FV)(g:FL)(ψ:En):gX f g ψ=(f ψ).bind λd=>(g ψ).bind λds=>Ga (d::ds):=(rfl)
def ol (g:FL):FV:=λψ=>(g ψ).bind λds=>Ga (.tuple ds)
theorem zCA (g:FL)(ψ:En):ol g ψ=(g ψ).bind λds=>Ga (.tuple ds):=(rfl)
def nZ (g:FL):FV:=λψ=>(g ψ).bind λds=>Ga (.list ds)
theorem TB (g:FL)(ψ:En):nZ g ψ=(g ψ).bind λds=>Ga (.list ds):=(rfl)
def ig (fm:List D->Option D)(g:FL):FV:=λψ=>(g ψ).bind fm
theorem zAl (fm:List D->Option D)(g:FL)(ψ:En):ig fm g ψ=(g ψ).bind fm:=(rfl)
def pL (fm:List D->Option (List D))(g:FL):FL:=λψ=>(g ψ).bind fm
theorem zAm (fm:List D->Option (List D))(g:FL)(ψ:En):pL fm g ψ=(g ψ).bind fm:=(rfl)
def Et (f:FV):FL:=λψ=>(f ψ).bind yi
theorem zEl (f:FV)(ψ:En):Et f ψ=(f ψ).bind yi:=(rfl)
def Kf (f:FV):FL:=λψ=>(f ψ).bind xR
theorem Xs (f:FV)(ψ:En):Kf f ψ=(f ψ).bind xR:=(rfl)
def QO (f:FL):FL:=λψ=>(f ψ).bind λxs=>Ga xs.reverse
theorem zCB (f:FL)(ψ:En):QO f ψ=(f ψ).bind λxs=>Ga xs.reverse:=(rfl)
def oN (f:FV):FL:=λψ=>(f ψ).bind toS
theorem zCC (f:FV)(ψ:En):oN f ψ=(f ψ).bind toS:=(rfl)
def wl (op:D->Option (List D))(f:FV):FL:=λψ=>(f ψ).bind op
theorem zCD (op:D->Option (List D))(f:FV)(ψ:En):wl op f ψ=(f ψ).bind op:=(rfl)
def FR (op:D->D->Option (List D))(f g:FV):FL:=λψ=>(f ψ).bind λx=>(g ψ).bind λy=>op x y
theorem zCE (op:D->D->Option (List D))(f g:FV)(ψ:En):FR op f g ψ=(f ψ).bind λx=>(g ψ).bind λy=>op x y:=(rfl)
def MP (op:D->D->D->Option (List D))(f g h:FV):FL:=λψ=>(f ψ).bind λx=>(g ψ).bind λy=>(h ψ).bind λz=>op x y z
theorem Yr (op:D->D->D->Option (List D))(f g h:FV)(ψ:En):MP op f g h ψ=(f ψ).bind λx=>(g ψ).bind λy=>(h ψ).bind λz=>op x y z:=(rfl)
def IA (op:D->D->D->Option D)(f g h:FV):FV:=λψ=>(f ψ).bind λx=>(g ψ).bind λy=>(h ψ).bind λz=>op x y z
theorem zCH (op:D->D->D->Option D)(f g h:FV)(ψ:En):IA op f g h ψ=(f ψ).bind λx=>(g ψ).bind λy=>(h ψ).bind λz=>op x y z:=(rfl)
def tU (i:Nat)(f:FV):FS:=λψ=>(go i ψ).bind λds=>(f ψ).bind λd=>(yi d).bind λes=>(tz ds es).bind λrs=>Ga (.nx (ψ.set i (.own rs)))
theorem zCI (i:Nat)(f:FV)(ψ:En):tU i f ψ=(go i ψ).bind λds=>(f ψ).bind λd=>(yi d).bind λes=>(tz ds es).bind λrs=>Ga (.nx (ψ.set i (.own rs))):=(rfl)
def Rx (f:FL):FL:=λψ=>(f ψ).bind nt
theorem VD (f:FL)(ψ:En):Rx f ψ=(f ψ).bind nt:=(rfl)
def Ce (f:FL)(g:FV):FV:=λψ=>(f ψ).bind λx=>(g ψ).bind λy=>yw x y
theorem zEo (f:FL)(g:FV)(ψ:En):Ce f g ψ=(f ψ).bind λx=>(g ψ).bind λy=>yw x y:=(rfl)
def oI (f:FV)(g h:FP):FV:=λψ=>(f ψ).bind λx=>(g ψ).bind λl=>(h ψ).bind λu=>sP x l u
theorem zEp (f:FV)(g h:FP)(ψ:En):oI f g h ψ=(f ψ).bind λx=>(g ψ).bind λl=>(h ψ).bind λu=>sP x l u:=(rfl)
def oY :FP:=λψ=>Ga Gb
theorem zEq  (ψ:En):oY ψ=Ga Gb:=(rfl)
def zP (f:FV):FP:=λψ=>(f ψ).bind FG
theorem Zx (f:FV)(ψ:En):zP f ψ=(f ψ).bind FG:=(rfl)
def iW :FS:=λψ=>Ga (.nx ψ)
theorem zEr  (ψ:En):iW ψ=Ga (.nx ψ):=(rfl)
def Fm :FS:=λψ=>Gb
theorem Yl  (ψ:En):Fm ψ=Gb:=(rfl)
noncomputable def gT (g k:FS):FS:=λψ=>lT (g ψ) k
theorem Xv (g k:FS)(ψ:En):gT g k ψ=lT (g ψ) k:=(rfl)
noncomputable def lL (f:FV):FS:=λψ=>(f ψ).bind λd=>Ga (.rt d)
theorem VM (f:FV)(ψ:En):lL f ψ=(f ψ).bind λd=>Ga (.rt d):=(rfl)
def Bv (f:FL):FS:=λψ=>(f ψ).bind λd=>Ga (.ro d)
theorem zCM (f:FL)(ψ:En):Bv f ψ=(f ψ).bind λd=>Ga (.ro d):=(rfl)
def iI (c:FB)(g k:FS):FS:=λψ=>(c (frz ψ)).bind λt=>if t then g ψ else k ψ
theorem zEs (c:FB)(g k:FS)(ψ:En):iI c g k ψ=(c (frz ψ)).bind λt=>if t then g ψ else k ψ:=(rfl)
def ly (i:Nat)(f:FV):FS:=λψ=>(f ψ).bind λd=>Ga (.nx (ψ.set i (.val d)))
theorem zCN (i:Nat)(f:FV)(ψ:En):ly i f ψ=(f ψ).bind λd=>Ga (.nx (ψ.set i (.val d))):=(rfl)
def wx (i:Nat)(f:FL):FS:=λψ=>(f ψ).bind λd=>Ga (.nx (ψ.set i (.own d)))
theorem zCO (i:Nat)(f:FL)(ψ:En):wx i f ψ=(f ψ).bind λd=>Ga (.nx (ψ.set i (.own d))):=(rfl)
def Dk (i:Nat)(g:FS):FS:=λψ=>(g ψ).bind λo=>Ga (Ai i o)
theorem VG (i:Nat)(g:FS)(ψ:En):Dk i g ψ=(g ψ).bind λo=>Ga (Ai i o):=(rfl)
def BH (i:Nat)(g:FS):FS:=λψ=>g (frzAt i ψ)
theorem zCQ (i:Nat)(g:FS)(ψ:En):BH i g ψ=g (frzAt i ψ):=(rfl)
def oP (i:Nat)(f:FV):FS:=λψ=>(go i ψ).bind λds=>(f ψ).bind λd=>if ds.length<1000000 then Ga (.nx (ψ.set i (.own (ds++[d])))) else Gb
theorem zCR (i:Nat)(f:FV)(ψ:En):oP i f ψ=(go i ψ).bind λds=>(f ψ).bind λd=>if ds.length<1000000 then Ga (.nx (ψ.set i (.own (ds++[d])))) else Gb:=(rfl)
def nL (f:FL)(t:FT)(g:FS):FS:=λψ=>(f ψ).bind λds=>iV t g ds ψ
theorem zCS (f:FL)(t:FT)(g:FS)(ψ:En):nL f t g ψ=(f ψ).bind λds=>iV t g ds ψ:=(rfl)
def IW (f:FV)(t:FT):FS:=λψ=>(f ψ).bind λd=>(t d ψ).bind λenv1=>Ga (.nx env1)
theorem YY (f:FV)(t:FT)(ψ:En):IW f t ψ=(f ψ).bind λd=>(t d ψ).bind λenv1=>Ga (.nx env1):=(rfl)
def KM (i:Nat):FS:=λψ=>Ga (.nx (ψ.set i (.dki Gb [])))
theorem zCV (i:Nat)(ψ:En):KM i ψ=Ga (.nx (ψ.set i (.dki Gb []))):=(rfl)
def md (i:Nat):FT:=λd ψ=>Ga (ψ.set i (.val d))
def Fu:sM:=λds ψ=>match ds with|[]=>Ga ψ|_=>Gb
def xJ (t:FT)(u:sM):sM:=λds ψ=>match ds with|d::r=>(t d ψ).bind λenv1=>u r env1|[]=>Gb
def zJ (u:sM):FT:=λd ψ=>(xR d).bind λds=>u ds ψ
theorem zEt (i:Nat)(d:D)(ψ:En):md i d ψ=Ga (ψ.set i (.val d)):=(rfl)
theorem zAs (ψ:En):Fu [] ψ=Ga ψ:=(rfl)
theorem zx4 (t:FT)(u:sM)(d:D)(r:List D)(ψ:En):xJ t u (d::r) ψ=(t d ψ).bind λenv1=>u r env1:=(rfl)
theorem zEu (u:sM)(d:D)(ψ:En):zJ u d ψ=(xR d).bind λds=>u ds ψ:=(rfl)
theorem zvH (d:D)(k:FS):lT (Ga (.rt d)) k=Ga (.rt d):=(rfl)
theorem zvI (d:List D)(k:FS):lT (Ga (.ro d)) k=Ga (.ro d):=(rfl)
theorem zvJ (e:En)(k:FS):lT (Ga (.nx e)) k=k e:=(rfl)
theorem zvK:frz []=[]:=(rfl)
theorem ztH (s:Sl)(e:En):frz (s::e)=pq s::frz e:=(rfl)
theorem zAt:pq .no=.no:=(rfl)
theorem XW (d:D):pq (.val d)=.val d:=(rfl)
theorem zx6 (d:List D):pq (.own d)=.val (.list d):=(rfl)
theorem zx7 (a:Option Gj)(d:List (Int×D)):pq (.dki a d)=.val (rE d):=(rfl)
theorem zEv (d:D)(e:En):gv 0 (.val d::e)=Ga d:=(rfl)
theorem zEw (x:Sl)(e:En):pN (x::e)[0]?=pN (Ga x):=(rfl)
theorem zEx (a0:Sl)(d:D)(e:En):gv 1 (a0::.val d::e)=Ga d:=(rfl)
theorem zCW (a0:Sl)(x s:Sl)(e:En):List.set (a0::x::e) 1 s=a0::s::e:=(rfl)
theorem ZJ (a0:Sl)(d:D)(e:En):frzAt 1 (a0::.val d::e)=a0::.val d::e:=(rfl)
theorem zEy (a0:Sl)(x:Sl)(e:En):pN (a0::x::e)[1]?=pN (Ga x):=(rfl)
theorem YR (a0 a1:Sl)(d:D)(e:En):gv 2 (a0::a1::.val d::e)=Ga d:=(rfl)
theorem WX (a0 a1:Sl)(x s:Sl)(e:En):List.set (a0::a1::x::e) 2 s=a0::a1::s::e:=(rfl)
theorem zEA (a0 a1:Sl)(d:List D)(e:En):frzAt 2 (a0::a1::.own d::e)=a0::a1::.val (.list d)::e:=(rfl)
theorem zCZ (a0 a1:Sl)(d:D)(e:En):frzAt 2 (a0::a1::.val d::e)=a0::a1::.val d::e:=(rfl)
theorem zC0 (a0 a1:Sl)(q:Option Gj)(d:List (Int×D))(e:En):frzAt 2 (a0::a1::.dki q d::e)=a0::a1::.val (rE d)::e:=(rfl)
theorem YF (a0 a1:Sl)(x:Sl)(e:En):pN (a0::a1::x::e)[2]?=pN (Ga x):=(rfl)
theorem YO (a0 a1 a2:Sl)(d:D)(e:En):gv 3 (a0::a1::a2::.val d::e)=Ga d:=(rfl)
theorem zED (a0 a1 a2:Sl)(d:List D)(e:En):go 3 (a0::a1::a2::.own d::e)=Ga d:=(rfl)
theorem Yd (a0 a1 a2:Sl)(d:List D)(e:En):gl 3 (a0::a1::a2::.own d::e)=Ga d:=(rfl)
theorem XQ (a0 a1 a2:Sl)(x s:Sl)(e:En):List.set (a0::a1::a2::x::e) 3 s=a0::a1::a2::s::e:=(rfl)
theorem zEF (a0 a1 a2 a3:Sl)(d:D)(e:En):gv 4 (a0::a1::a2::a3::.val d::e)=Ga d:=(rfl)
theorem YL (a0 a1 a2 a3:Sl)(d:List D)(e:En):go 4 (a0::a1::a2::a3::.own d::e)=Ga d:=(rfl)
theorem zEH (a0 a1 a2 a3:Sl)(d:List D)(e:En):gl 4 (a0::a1::a2::a3::.own d::e)=Ga d:=(rfl)
theorem zC2 (a0 a1 a2 a3:Sl)(x s:Sl)(e:En):List.set (a0::a1::a2::a3::x::e) 4 s=a0::a1::a2::a3::s::e:=(rfl)
theorem WC (a0 a1 a2 a3:Sl)(x:Sl)(e:En):pN (a0::a1::a2::a3::x::e)[4]?=pN (Ga x):=(rfl)
theorem zEJ (a0 a1 a2 a3 a4:Sl)(d:D)(e:En):gv 5 (a0::a1::a2::a3::a4::.val d::e)=Ga d:=(rfl)
theorem zC3 (a0 a1 a2 a3 a4:Sl)(x s:Sl)(e:En):List.set (a0::a1::a2::a3::a4::x::e) 5 s=a0::a1::a2::a3::a4::s::e:=(rfl)
theorem Xk (a0 a1 a2 a3 a4:Sl)(d:List D)(e:En):frzAt 5 (a0::a1::a2::a3::a4::.own d::e)=a0::a1::a2::a3::a4::.val (.list d)::e:=(rfl)
theorem zC4 (a0 a1 a2 a3 a4:Sl)(q:Option Gj)(d:List (Int×D))(e:En):frzAt 5 (a0::a1::a2::a3::a4::.dki q d::e)=a0::a1::a2::a3::a4::.val (rE d)::e:=(rfl)
theorem zEL (a0 a1 a2 a3 a4:Sl)(x:Sl)(e:En):pN (a0::a1::a2::a3::a4::x::e)[5]?=pN (Ga x):=(rfl)
theorem zEM (a0 a1 a2 a3 a4 a5:Sl)(d:D)(e:En):gv 6 (a0::a1::a2::a3::a4::a5::.val d::e)=Ga d:=(rfl)
theorem Wk (a0 a1 a2 a3 a4 a5:Sl)(d:List D)(e:En):go 6 (a0::a1::a2::a3::a4::a5::.own d::e)=Ga d:=(rfl)
theorem zEO (a0 a1 a2 a3 a4 a5:Sl)(d:List D)(e:En):gl 6 (a0::a1::a2::a3::a4::a5::.own d::e)=Ga d:=(rfl)
theorem zC5 (a0 a1 a2 a3 a4 a5:Sl)(x s:Sl)(e:En):List.set (a0::a1::a2::a3::a4::a5::x::e) 6 s=a0::a1::a2::a3::a4::a5::s::e:=(rfl)
theorem zEP (a0 a1 a2 a3 a4 a5:Sl)(x:Sl)(e:En):pN (a0::a1::a2::a3::a4::a5::x::e)[6]?=pN (Ga x):=(rfl)
theorem zEQ (a0 a1 a2 a3 a4 a5 a6:Sl)(d:D)(e:En):gv 7 (a0::a1::a2::a3::a4::a5::a6::.val d::e)=Ga d:=(rfl)
theorem Zm (a0 a1 a2 a3 a4 a5 a6:Sl)(x s:Sl)(e:En):List.set (a0::a1::a2::a3::a4::a5::a6::x::e) 7 s=a0::a1::a2::a3::a4::a5::a6::s::e:=(rfl)
theorem VU (a0 a1 a2 a3 a4 a5 a6 a7:Sl)(d:D)(e:En):gv 8 (a0::a1::a2::a3::a4::a5::a6::a7::.val d::e)=Ga d:=(rfl)
theorem zC7 (a0 a1 a2 a3 a4 a5 a6 a7:Sl)(x s:Sl)(e:En):List.set (a0::a1::a2::a3::a4::a5::a6::a7::x::e) 8 s=a0::a1::a2::a3::a4::a5::a6::a7::s::e:=(rfl)
theorem Zw (a0 a1 a2 a3 a4 a5 a6 a7 a8:Sl)(x s:Sl)(e:En):List.set (a0::a1::a2::a3::a4::a5::a6::a7::a8::x::e) 9 s=a0::a1::a2::a3::a4::a5::a6::a7::a8::s::e:=(rfl)
def zD (kvs:List (Int×D))(v:D):D->Option (List (Int×D))
 | .int n=>if kvs.length<1000000 then Ga (pP kvs n v) else Gb
 | _=>Gb
theorem VI (kvs:List (Int×D))(v:D)(n:Int):zD kvs v (.int n)=if kvs.length<1000000 then Ga (pP kvs n v) else Gb:=(rfl)
theorem Qr (i:Nat)(f g:FV)(ψ:En)(oa:Option Gj)(kvs:List (Int×D))(h:ψ[i]?=Ga (.dki oa kvs)):xG i f g ψ=(g ψ).bind λv=>(f ψ).bind λd=>(zD kvs v d).bind λr=>Ga (.nx (ψ.set i (.dki oa r))):=by
 unfold xG
 congr 1;funext v;congr 1;funext d
 rw[h];cases d<;>try rfl
 show(if _ then _ else _)=(if _ then _ else _:Option _).bind _;split<;>rfl
theorem zAv (a0 a1:Sl)(oa:Option Gj)(kvs:List (Int×D))(e:En)(f g:FV):xG 2 f g (a0::a1::.dki oa kvs::e)=(g (a0::a1::.dki oa kvs::e)).bind λv=>(f (a0::a1::.dki oa kvs::e)).bind λd=>(zD kvs v d).bind λr=>Ga (.nx (a0::a1::.dki oa r::e)):=Qr _ _ _ _ _ _ rfl
theorem zAw (a0 a1 a2 a3 a4:Sl)(oa:Option Gj)(kvs:List (Int×D))(e:En)(f g:FV):xG 5 f g (a0::a1::a2::a3::a4::.dki oa kvs::e)=(g (a0::a1::a2::a3::a4::.dki oa kvs::e)).bind λv=>(f (a0::a1::a2::a3::a4::.dki oa kvs::e)).bind λd=>(zD kvs v d).bind λr=>Ga (.nx (a0::a1::a2::a3::a4::.dki oa r::e)):=Qr _ _ _ _ _ _ rfl
theorem zvL (e:En):nU [] e=[]:=(rfl)
theorem ztI (i:Nat)(ix:List Nat)(e:En):nU (i::ix) e=pN e[i]?::nU ix e:=(rfl)
theorem zvM (d:D):pN (Ga (.val d))=.val d:=(rfl)
theorem zvN (d:List D):pN (Ga (.own d))=.own d:=(rfl)
theorem Xz (i:Nat)(e:En):Ai i (.nx e)=.nx (frzAt i e):=(rfl)
theorem QZ (d:D):hJ (Ga (.rt d))=Ga d:=(rfl)
theorem zC9 (d:List D):rQ (Ga (.ro d))=Ga d:=(rfl)
theorem zET (b:Bool):lM (.bool b)=Ga b:=(rfl)
theorem zAx (b:Bool):zN (.bool b)=Ga b:=(rfl)
theorem zEU (d:List D):yi (.list d)=Ga d:=(rfl)
theorem WD (d:List D):xR (.tuple d)=Ga d:=(rfl)
theorem Pi (d:List D):toS (.list d)=Ga d:=(rfl)
theorem Sh (d:List D):toS (.tuple d)=Ga d:=(rfl)
theorem zEW (i:Int):FG (.int i)=Ga (Ga i):=(rfl)
theorem zEX (i j:Int):lr (.int i) (.int j)=Ga (.int (i+j)):=(rfl)
theorem zEY (i j:Int):lP (.int i) (.int j)=Ga (.int (i-j)):=(rfl)
theorem zEZ (i:Int):wb (.int i)=Ga (.int (-i)):=(rfl)
theorem zGm (i j:Int):pO (.int i) (.int j)=Ga (.bool (decide (i<j))):=(rfl)
theorem Yv (i j:Int):rh (.int i) (.int j)=Ga (.bool (decide (i<=j))):=(rfl)
theorem zGo (i j:Int):pM (.int i) (.int j)=Ga (.bool (decide (j<i))):=(rfl)
theorem zGp (i j:Int):Ae (.int i) (.int j)=Ga (.bool (decide (j<=i))):=(rfl)
theorem WG (kvs:List (Int×D)):pH (rE kvs)=Ga kvs:=CW kvs
theorem zE1 (d:D)(k:Int):yz d (.int k)=(pH d).bind λkvs=>nD kvs k:=(rfl)
theorem zDa (d:D)(k:Int)(x:D):zE d (.int k) x=(pH d).bind λkvs=>Ga ((nD kvs k).getD x):=(rfl)
theorem YG (d:D)(k:Int):tw (.int k) d=(pH d).bind λkvs=>Ga (.bool (!(nD kvs k).isSome)):=(rfl)
theorem zE2 (i j:Int):DW (.int i) (.int j)=Ga (.int (vE i j)):=(rfl)
theorem zE3 (i j:Int):lj (.int i) (.int j)=Ga (.bool (decide (i=j))):=by rw[tK];rfl
theorem Im (i j:Int):lR (.int i) (.int j)=Ga (.bool (decide (¬i=j))):=by rw[NZ];by_cases h:i=j<;>simp[h]
theorem zE4 (d:List D)(i:Int):gZ (.tuple d) (.int i)=atI d i:=(rfl)
theorem VE (d:List D)(i:Int):gZ (.list d) (.int i)=atI d i:=(rfl)
theorem zE6 (d:List D)(i:Int):yw d (.int i)=atI d i:=(rfl)
theorem Yt (x0 x1:D):atI [x0,x1] 0=Ga x0:=(rfl)
theorem zAz (x0 x1:D):atI [x0,x1] 1=Ga x1:=(rfl)
theorem zAA (x0 x1 x2:D):atI [x0,x1,x2] 1=Ga x1:=(rfl)
theorem zAB (x0 x1 x2:D):atI [x0,x1,x2] 2=Ga x2:=(rfl)
theorem zDc (d:List D):iU (.list d)=Ga (.int d.length):=(rfl)
theorem zDd (d:List D):iU (.tuple d)=Ga (.int d.length):=(rfl)
theorem zDe (d:List D):pj d=Ga (.tuple d):=(rfl)
theorem zyC (c:iz)(φ:D->Option D)(f:FV)(e:En):oQ 0 c φ f (.fn c::e)=(f (.fn c::e)).bind φ:=Ge rfl
theorem Ws (c:iz)(fm:List D->Option D)(g:FL)(e:En):lF 0 c fm g (.fn c::e)=(g (.fn c::e)).bind fm:=Ge rfl
theorem zyE (a0:Sl)(c:iz)(fm:List D->Option D)(g:FL)(e:En):lF 1 c fm g (a0::.fn c::e)=(g (a0::.fn c::e)).bind fm:=Ge rfl
theorem Wd (P:Gj):pq (.tab P)=.tab P:=(rfl)
theorem zAC (c:iz):pq (.fn c)=.fn c:=(rfl)
theorem Yu:oB .none .none=Ga (.bool true):=(rfl)
theorem ZL:mm .none .none=Ga (.bool false):=(rfl)
theorem zAE (x:List D):oB (.tuple x) .none=Ga (.bool false):=(rfl)
theorem zpG (x:List D):sw "tuple" (.tuple x)=Ga (.bool true):=(rfl)
theorem zvP (x:Int):mm (.int x) .none=Ga (.bool true):=(rfl)
theorem YH (x:Int):sw "int" (.int x)=Ga (.bool true):=(rfl)
theorem zqT (x:Int):sw "bool" (.int x)=Ga (.bool false):=(rfl)
theorem zvQ {α:Type}(a b:α):(if false=true then a else b)=b:=Gf jr
def mh (I:En->Prop)(o:Option sq):Prop:=∃ e,o=Ga (.nx e)/\I e
theorem oF {I:En->Prop}{e:En}(h:I e):mh I (Ga (.nx e)):=⟨e,rfl,h⟩
theorem Ni {I J:En->Prop}{o:Option sq}(h:mh I o)(q:∀ e,I e->J e):mh J o:=by
 obtain⟨e,rfl,hI⟩:=h;exact⟨e,rfl,q e hI⟩
theorem XT {t:FT}{g:FS}{ds:List D}{ψ:En}(I:En->Prop)(h0:I ψ)(st:∀ d∈ds,∀ ψ,I ψ->mh I ((t d ψ).bind g)):mh I (iV t g ds ψ):=by
 refine SS I h0 λd hd e he=>?_;obtain⟨e2,h1,h2⟩:=st d hd e he;obtain⟨e1,x1,x2⟩:=vB.mp h1;exact⟨e1,e2,x1,x2,h2⟩
theorem zAG {t:FT}{g k:FS}{ds:List D}{ψ:En}{R:Option sq}(I:En->Prop)(h0:I ψ)(st:∀ d∈ds,∀ ψ,I ψ->mh I ((t d ψ).bind g))(q:∀ e,I e->k e=R):lT (iV t g ds ψ) k=R:=by
 obtain⟨e,h1,h2⟩:=XT I h0 st;rw[h1];exact q e h2
theorem FD {t:FT}{g:FS}{f:Nat->D}(I:Nat->En->Prop)(n:Nat)(st:∀ k,k<n->∀ ψ,I k ψ->mh (I (k+1)) ((t (f k) ψ).bind g)):∀ (m a:Nat) (ψ:En),a+m=n->I a ψ->mh (I n) (iV t g ((ql a m).map f) ψ)
 | 0,a,ψ,e,h=>by
  obtain rfl:a=n:=by omega
  exact⟨ψ,rfl,h⟩
 | m+1,a,ψ,e,h=>by
  obtain⟨e2,h1,h2⟩:=st a (by omega) ψ h;obtain⟨e1,x1,x2⟩:=vB.mp h1;obtain⟨z,y1,y2⟩:=FD I n st m (a+1) e2 (by omega) h2;refine⟨z,?_,y2⟩;rw[qC,jK];unfold iV;rw[x1,jv,x2];exact y1
theorem BJ {t:FT}{g k:FS}{f:Nat->D}{ψ:En}{R:Option sq}(n:Nat)(I:Nat->En->Prop)(h0:I 0 ψ)(st:∀ k,k<n->∀ ψ,I k ψ->mh (I (k+1)) ((t (f k) ψ).bind g))(q:∀ e,I n e->k e=R):lT (iV t g ((je n).map f) ψ) k=R:=by
 obtain⟨e,h1,h2⟩:=FD I n st n 0 ψ (v7 _) h0;rw[uF,h1];exact q e h2
theorem Tp {α:Type}{t:FT}{g:FS}(f:α->D)(I:List α->En->Prop)(as:List α)(st:∀ pre a suf,as=pre++a::suf->∀ ψ,I pre ψ->mh (I (pre++[a])) ((t (f a) ψ).bind g)):∀ (suf pre:List α) (ψ:En),as=pre++suf->I pre ψ->mh (I as) (iV t g (suf.map f) ψ)
 | [],pre,ψ,e,h=>⟨ψ,rfl,by rw[e,km];exact h⟩
 | a::r,pre,ψ,e,h=>by
  obtain⟨e2,h1,h2⟩:=st pre a r e ψ h;obtain⟨e1,x1,x2⟩:=vB.mp h1;obtain⟨z,y1,y2⟩:=Tp f I as st r (pre++[a]) e2 (by rw[e,kU];rfl) h2;refine⟨z,?_,y2⟩;rw[jK];unfold iV;rw[x1,jv,x2];exact y1
theorem DG {α:Type}{t:FT}{g k:FS}{ψ:En}{R:Option sq}(f:α->D)(I:List α->En->Prop)(as:List α)(h0:I [] ψ)(st:∀ pre a suf,as=pre++a::suf->∀ ψ,I pre ψ->mh (I (pre++[a])) ((t (f a) ψ).bind g))(q:∀ e,I as e->k e=R):lT (iV t g (as.map f) ψ) k=R:=by
 obtain⟨e,h1,h2⟩:=Tp f I as st as [] ψ rfl h0;rw[h1];exact q e h2
theorem oZ (fi:FL)(fc:FB)(fe:FV)(ix:List Nat)(ψ:En):iQ fi fc fe ix ψ=(fi ψ).bind λds=>if ds.length<=1000000 then lw fc fe (nU ix ψ) ds else Gb:=(rfl)
end
theorem zm7:fillsNumberSlot (.type "tuple") "mul"=pure false :=
 PySem.fillsNumberSlot_seq (id:="tuple.__mul__") (r:=Ga (.builtin "tuple.__rmul__")) F.slot_tuple_mul.lookup (by nofun) F.slot_tuple_rmul.lookup (by nofun)
theorem zsF:seqRepeat? (.type "tuple")=pure (Ga (.builtin "tuple.__mul__")):=by
 unfold seqRepeat?;rw[JR (T:="tuple") (name:="__mul__") (id:="tuple.__mul__") F.slot_tuple_mul.lookup (by nofun),JR (T:="tuple") (name:="__rmul__") (id:="tuple.__rmul__") F.slot_tuple_rmul.lookup (by nofun)];rfl
theorem We (a:Int)(t:Tok)(l:Gj)(o:Obj)(items:Array Gg)(n:Nat)(hc:o.cls=.type "tuple")(hd:o.data=.seq items n) :
  Meets (Builtin.«int.__rmul__» ⟨[.int a t,.ref l],[]⟩) (λ_ R s=>s.heap.get? l=Ga o/\R (.ok (.ret Value.notImplemented)) s) :=
 .of_wp λprog w A R s h=>by
  obtain⟨hp,g,d,tk,os⟩:=s;obtain⟨hl,h⟩:=h;obtain⟨oc,od,oda,osl⟩:=o;simp only at hc hd;subst hc;subst hd
  wp_walk;exact⟨_,rfl,h⟩
theorem PN (items:Array Gg)(k:Nat):Jp (λx1 x2=>x1++x2) #[] (jU k items)=(jU k items.toList).flatten.toArray:=by
 have:=zj items.toList k [];rw[JW,va] at this;exact this
theorem Xq (l:Gj)(o:Obj)(items:Array Gg)(n:Nat)(x:Int)(u:Tok)(hc:o.cls=.type "tuple")(hd:o.data=.seq items n)(h0:¬items.isEmpty=true)(h2:2<=x)(hz:items.size*x.toNat<=1000000) :
  Meets (Builtin.«tuple.__mul__» ⟨[.ref l,.int x u],[]⟩) (λ_ R s=>s.heap.get? l=Ga o/\R (.ok (.ret (kP s.heap.objs.size))) { s with heap:=s.heap.push { cls:=uQ "tuple",data:=Data.seq (Jp (λx1 x2=>x1++x2) #[] (jU x.toNat items)) } }) :=
 .of_wp λprog w A R s h=>by
  obtain⟨hl,h⟩:=h;have hne:1<=items.size:=by
   rcases Jt items.size with z|z
   .exact absurd (Array.isEmpty_iff_size_eq_zero.mpr z) h0
   .exact z
  have hx:x.toNat<=1000000:=jF (Nat.le_mul_of_pos_left _ hne) hz;have e1:(decide (x < -(2^63))||decide (x≥2^63))=false:=by rw[Gd (by omega),Gd (by omega)];rfl
  have e2:(items.isEmpty||x==1)=false:=by
   rw[Bool.or_eq_false_iff];exact⟨ka _▸h0,beq_eq_false_iff_ne.mpr (by omega)⟩
  have e3:(decide (x<=0)||items.isEmpty)=false:=by rw[Gd (by omega),uq];exact ka _▸h0
  have ex:((items.size:Int)*x)=((items.size*x.toNat:Nat):Int):=by rw[qQ];congr 1;omega
  show wpAny _ _ (asIndex (.int x u) >>= _) _ _ s;refine gI (wpAny_of_eq (a:=x) rfl ?_);show wpAny _ _ (if (decide (x < -(2^63))||decide (x≥2^63))=true then _ else _) _ _ s;rw[Gf (by rw[e1];decide)];refine gI (wpAny_tupleItemsOf hl hd ?_);show wpAny _ _ (if (items.isEmpty||x==1)=true then _ else _) _ _ s;rw[Gf (by rw[e2];decide)];show wpAny _ _ (if (decide (x<=0)||items.isEmpty)=true then _ else _) _ _ s;rw[Gf (by rw[e3];decide)];show wpAny _ _ (if ((items.size:Int)*x)>(2^63-1)/8 then _ else _) _ _ s;rw[Gf (by rw[ex];omega)];show wpAny _ _ (if qg ((items.size:Int)*x)=true then _ else _) _ _ s;rw[Gf (by unfold qg;rw[ex,Gd (by rw[sizeLine_eq];omega)];decide)];refine gI (wpAny_newObj_type (gJ ⟨_,rfl,h⟩) ?_);show(Jp (λx1 x2=>x1++x2) #[] (jU x.toNat items)).size<=sizeLine;rw[PN,jl,AQ,ki,Nat.mul_comm,sizeLine_eq];omega
section
variable {X:Cx}{pos:Pos}
theorem Wy:lU X (binaryOp .Mult) (λx y H Q=>∃ l k xs,x=.ref l/\y=.int k/\mU X.K H l xs/\xs≠[]/\2<=k/\xs.length*k.toNat<=1000000/\∀ p,H p=Gb->Q (.ref p) (upd H p (.tup (jU k.toNat xs).flatten))):=by
 intro ω s σ H x y v u Q I rx ry h;obtain⟨l,k,xs,rfl,rfl,hH,h0,h2,hz,q⟩:=h;cases rx;obtain⟨t,rfl⟩:=ry;obtain⟨its,r,⟨o,ho,hc,n,hd⟩,_⟩:=I.tuple hH;have hl:=r.length;have hne:¬its.toArray.isEmpty=true:=λz=>h0 (vC.mp (by rw[hl];simpa using z));refine wpAny_binaryOp_repeat_ref (T:="tuple") (U:="int") (by decide) ⟨_,ho,hc⟩ (λs'=>typeIs_int s' k t) zm7 F.fills_int_mul F.slot_int_rmul zsF F.slot_int_index.lookup
  (call_meets F.slot_int_rmul (typeIs_int s k t) F.entry_int_rmul (F.args_int_rmul_2 _ _) (We k t l o its.toArray n hc hd)
   ⟨ho,rfl,⟨_,ho,hc⟩,call_meets F.slot_tuple_mul ⟨_,ho,hc⟩ F.entry_tuple_mul (F.args_tuple_mul_2 _ _) (Xq l o its.toArray n k t hc hd hne h2 (by rw[jl,<- hl];exact hz)) ⟨ho,?_⟩⟩)
 rw[PN,List.toList_toArray];have hz2:(jU k.toNat xs).flatten.length<=sizeLine:=by rw[AQ,Nat.mul_comm,sizeLine_eq];omega
 exact⟨.ref _,_,I.laid (t':=s.toks) (o:=.tup (jU k.toNat xs).flatten) (λ_ _ q=>jf _ q) (jm _) ⟨hz2,_,r.rep k.toNat,⟨_,jy _ rfl,rfl,0,rfl⟩⟩,rfl,q _ I.fresh⟩
def tj:D->D->Option D
 | .tuple xs,.int k=>if xs≠[]/\2<=k/\xs.length*k.toNat<=1000000 then Ga (.tuple (jU k.toNat xs).flatten) else Gb
 | _,_=>Gb
theorem zE7 {a b:Expr}{f g:FV}(ha:PV X a f)(hb:PV X b g):PV X (.BinOp a .Mult b pos) (λψ=>(f ψ).bind λx=>(g ψ).bind λy=>tj x y):=by
 refine mn (Gs Wy ha hb) λσ H Q=>?_;rintro⟨H0,F,ψ,d,r,e,q⟩;obtain⟨x,e1,e3⟩:=gL e;obtain⟨y,e2,e4⟩:=gL e3;refine⟨H0,F,ψ,x,r,e1,λv H1 F1 g1 f1 fh1 n1 rv=>⟨H0,F1,ψ,y,r.grow g1 f1 fh1 n1,e2,λv2 H2 F2 g2 f2 fh2 n2 rv2=>?_⟩⟩;obtain⟨ds,rfl⟩:∃ ds,x=.tuple ds:=by cases x<;>first|exact⟨_,rfl⟩|(cases e4;done)
 obtain⟨k,rfl⟩:∃ k:Int,y=.int k:=by cases y<;>first|exact⟨_,rfl⟩|(cases e4;done)
 cases rv2;unfold tj at e4;dsimp only at e4;split at e4;rotate_left
 .cases e4
 rename_i c;cases e4;cases rv with
 | @tup a xs _ hq rr =>
  have hl:=rr.length;refine⟨a,k,xs,rfl,rfl,nK (f2.trans fh2) hq,λz=>c.1 (vC.mp (by rw[hl,z];rfl)),c.2.1,by rw[<- hl];exact c.2.2,λp hp=>?_⟩;have fp:F2 p=Gb:=fh2.free hp;have s1:gM F2 (upd F2 p (.tup (jU k.toNat xs).flatten)):=gM.new fp;have s2:gM H2 (upd H2 p (.tup (jU k.toNat xs).flatten)):=gM.new hp;refine q (.ref p) _ (upd F2 p (.tup (jU k.toNat xs).flatten)) ((g1.trans g2).trans s2) ((f1.trans f2).trans s1) (gM.up2 (ob:=.tup (jU k.toNat xs).flatten) fh2 fp hp trivial) (λb o h nb=>?_) (.tup (mU.of ij) (((rr.mono f2).mono s1).rep _));by_cases hb:b=p
  .rw[hb];exact(g1.trans g2).free hp
  .rw[hE hb] at h;exact(n1.trans n2 g1) b o h nb
end
end T3
set_option maxHeartbeats 4000000
namespace T3
open PySem PySem.Spec PyProof.Rows L2
theorem fO {N P:List Str}{sc:Scope}(h:sc.kind=.function/\sc.isCoroutine=false/\sc.isGenerator=false/\N.Nodup/\N.take P.length=P/\(∀ x∈P,sc.names.lookup x=Ga .local\/sc.names.lookup x=Ga .cell)/\∀ y∈sc.names,y.2≠.free):gR N P sc:=⟨h.1,h.2.1,h.2.2.1,h.2.2.2.1,h.2.2.2.2.1,h.2.2.2.2.2.1,h.2.2.2.2.2.2⟩
theorem cO {N P N':List Str}{osc osc' scope:Scope}{x:Str}{fr:List Str}{ix:List Nat}(_:gR N P osc)(h:scope.kind=.function/\(∀ y∈scope.names,y.2≠.cell)/\(∀ y∈scope.names,y.2=.local->scope.names.lookup y.1=Ga .local)/\scope.names.lookup x=Ga .local/\(∀ y∈scope.names,y.2=.free->osc.names.lookup y.1=Ga .cell\/osc.names.lookup y.1=Ga .free)/\(∀ y∈fr,scope.names.lookup y=Ga .free)/\fr.length=ix.length/\(∀ p∈ix.zip fr,N[p.1]?=Ga p.2)/\ix.Nodup)(e1:N=N':=by rfl)(e2:osc=osc':=by rfl):tY N' osc' scope x fr ix:=by
 subst e1 e2;obtain⟨h1,h2,h3,h4,h5,h6,h7,h8,h9⟩:=h;exact⟨h1,h2,h3,h4,h5,h6,h7,λj i y a b=>h8 (i,y) (j7 (List.getElem?_zip_eq_some.mpr ⟨a,b⟩)),h9⟩
theorem cV {P:Program}{w:World}{K:jb}{mg:Str->Option Gg}{base:Heap}{k:Nat}{f:Gj}{fd:Gi}{ps:List Str}{fm fm':List D->Option D}(h:hV P w K mg base io k f fd ps (iY K fm'))(e:fm'=fm):hV P w K mg base io k f fd ps (iY K fm):=e▸h
theorem cW {P:Program}{w:World}{K:jb}{mg:Str->Option Gg}{base:Heap}{k:Nat}{f:Gj}{fd:Gi}{ps:List Str}{fm fm':List D->Option (List D)}(h:hV P w K mg base io k f fd ps (tJ K fm'))(e:fm'=fm):hV P w K mg base io k f fd ps (tJ K fm):=e▸h
section
variable {X:Cx}{k j:Nat}{f:Gj}{fd:Gi}{ps:List Str}{x:Str}{st:Stmt}{p pos:Pos}{e:Expr}{es:List Expr}{g:FL}
theorem vc {fm:List D->Option D}(F:hV X.prog X.w X.K X.mg X.base io k f fd ps (iY X.K fm))(W:Fn X.K X.mg x st ps f fd)(hr:lK j X.A)(ha:PL X (e::es) g)(hk:k<=j:=by decide)(hg:Gl X x:=by rfl)
  (hdb:(x==("__debug__":Str))=false:=by decide) (he:starEach (e::es) X.env=(false,eval e X.env)::starEach es X.env:=by rfl) (hpl:(backTo pos (starEach es X.env)).any (·.1)=false:=by rfl) :
  PV X (.Call (.Name x p) (e::es) [] pos) (λψ=>(g ψ).bind fm):=Dr F (hr.mono hk) W.m W.F.kp W.b ha hg hdb he hpl
end
end T3
noncomputable section
namespace Law
noncomputable section
open PySem PySem.Spec PyProof.Rows L2 T3
open PySem PySem.W PySem.Spec PyProof.Rows L2 T3
abbrev HZ:Stmt:=iL 6
abbrev Nl:Stmt:=iL 7
abbrev MB:Stmt:=iL 8
abbrev Ia:Stmt:=iL 9
abbrev LQ:Stmt:=iL 10
abbrev Nt:Stmt:=iL 15
abbrev HL:Stmt:=iL 16
abbrev Iy:Stmt:=iL 17
abbrev HP:Stmt:=iL 18
abbrev MQ:Stmt:=iL 19
abbrev MT:Stmt:=iL 20
abbrev Ka:Stmt:=iL 21
abbrev IC:Stmt:=iL 22
abbrev Nx:Stmt:=iL 23
abbrev Hq:Stmt:=iL 24
abbrev Ou:Stmt:=iL 25
abbrev Ip:Stmt:=iL 27
abbrev KN:Stmt:=iL 28
abbrev KQ:Stmt:=iL 29
abbrev Mv:Stmt:=iL 31
abbrev KC:Stmt:=iL 32
abbrev IV:Stmt:=iL 33
abbrev NF:Stmt:=iL 34
abbrev Lh:Stmt:=iL 35
abbrev KF:Stmt:=iL 36
abbrev Mc:Stmt:=iL 38
abbrev Nf:Stmt:=iL 39
abbrev Ky:Stmt:=iL 40
abbrev HA:Stmt:=iL 41
abbrev MJ:Stmt:=iL 42
abbrev Ot:Stmt:=iL 43
abbrev IX:Stmt:=iL 44
abbrev NU:Stmt:=iL 45
abbrev MF:Stmt:=iL 46
abbrev Nm:Stmt:=iL 48
abbrev KZ:Stmt:=iL 49
abbrev Ix:Stmt:=iL 50
abbrev Na:Stmt:=iL 52
abbrev Np:Stmt:=iL 53
abbrev HX:Stmt:=iL 54
abbrev Nz:Stmt:=iL 55
abbrev NN:Stmt:=iL 56
abbrev Kz:Stmt:=iL 57
abbrev MR:Stmt:=iL 58
abbrev KH:Stmt:=iL 59
abbrev MS:Stmt:=iL 60
abbrev Iq:Stmt:=iL 61
abbrev KP:Stmt:=iL 62
abbrev Li:Stmt:=iL 63
abbrev Ll:Stmt:=iL 64
abbrev IE:Stmt:=iL 65
abbrev Op:Stmt:=iL 67
abbrev NQ:Stmt:=iL 69
abbrev HM:Stmt:=iL 70
abbrev Kv:Stmt:=iL 71
abbrev MX:Stmt:=iL 72
abbrev Ko:Stmt:=iL 73
abbrev Ml:Stmt:=iL 74
abbrev Kg:Stmt:=iL 75
abbrev MW:Stmt:=iL 76
abbrev LU:Stmt:=iL 78
abbrev Hw:Stmt:=iL 79
abbrev LA:Stmt:=iL 80
abbrev Kp:Stmt:=iL 81
abbrev Kn:Stmt:=iL 82
abbrev NY:Stmt:=iL 83
abbrev Kb:Stmt:=iL 84
abbrev Iu:Stmt:=iL 85
abbrev HB:Stmt:=iL 87
abbrev Ig:Stmt:=iL 88
abbrev Oa:Stmt:=iL 89
abbrev Nc:Stmt:=iL 92
abbrev Mp:Stmt:=iL 93
abbrev Iw:Stmt:=iL 94
abbrev Ny:Stmt:=iL 95
abbrev Lf:Stmt:=iL 96
abbrev Kd:Stmt:=iL 97
abbrev AE:Stmt:=iL 98
structure Se where
 a_q57:Gj
 d_q57:Gi
 a_q67:Gj
 d_q67:Gi
 a_q55:Gj
 d_q55:Gi
 a_q60:Gj
 d_q60:Gi
 a_q43:Gj
 d_q43:Gi
 a_q34:Gj
 d_q34:Gi
 a_q20:Gj
 d_q20:Gi
 a_q25:Gj
 d_q25:Gi
 a_q61:Gj
 d_q61:Gi
 a_q11:Gj
 d_q11:Gi
 a_q39:Gj
 d_q39:Gi
 a_q13:Gj
 d_q13:Gi
 a_q69:Gj
 d_q69:Gi
 a_q32:Gj
 d_q32:Gi
 a_q71:Gj
 d_q71:Gi
 a_q72:Gj
 d_q72:Gi
 a_q2:Gj
 d_q2:Gi
 a_q0:Gj
 d_q0:Gi
 a_q66:Gj
 d_q66:Gi
 a_q35:Gj
 d_q35:Gi
 a_q10:Gj
 d_q10:Gi
 a_q38:Gj
 d_q38:Gi
 a_q44:Gj
 d_q44:Gi
 a_q7:Gj
 d_q7:Gi
 a_q58:Gj
 d_q58:Gi
 a_q1:Gj
 d_q1:Gi
 a_q16:Gj
 d_q16:Gi
 a_q17:Gj
 d_q17:Gi
 a_q3:Gj
 d_q3:Gi
 a_q74:Gj
 d_q74:Gi
 a_q12:Gj
 d_q12:Gi
 a_q24:Gj
 d_q24:Gi
 a_q9:Gj
 d_q9:Gi
 a_q68:Gj
 d_q68:Gi
 a_q23:Gj
 d_q23:Gi
 a_q4:Gj
 d_q4:Gi
 a_q42:Gj
 d_q42:Gi
 a_q15:Gj
 d_q15:Gi
 a_q8:Gj
 d_q8:Gi
 a_q54:Gj
 d_q54:Gi
 a_q50:Gj
 d_q50:Gi
 a_q36:Gj
 d_q36:Gi
 a_q53:Gj
 d_q53:Gi
 a_q52:Gj
 d_q52:Gi
 a_q30:Gj
 d_q30:Gi
 a_q73:Gj
 d_q73:Gi
 a_q19:Gj
 d_q19:Gi
 a_q48:Gj
 d_q48:Gi
 a_q27:Gj
 d_q27:Gi
 a_q56:Gj
 d_q56:Gi
 a_q64:Gj
 d_q64:Gi
 a_q37:Gj
 d_q37:Gi
 a_q40:Gj
 d_q40:Gi
 a_q62:Gj
 d_q62:Gi
 a_q46:Gj
 d_q46:Gi
 a_q59:Gj
 d_q59:Gi
 a_q31:Gj
 d_q31:Gi
 a_q63:Gj
 d_q63:Gi
 a_q14:Gj
 d_q14:Gi
 a_q65:Gj
 d_q65:Gi
 a_q26:Gj
 d_q26:Gi
 a_q5:Gj
 d_q5:Gi
 a_q33:Gj
 d_q33:Gi
 a_q21:Gj
 d_q21:Gi
 a_q70:Gj
 d_q70:Gi
 a_q75:Gj
 d_q75:Gi
 a_q76:Gj
 d_q76:Gi
 a_q49:Gj
 d_q49:Gi
 a_q18:Gj
 d_q18:Gi
 a_q29:Gj
 d_q29:Gi
 a_q28:Gj
 d_q28:Gi
 a_q47:Gj
 d_q47:Gi
 a_q41:Gj
 d_q41:Gi
 a_q51:Gj
 d_q51:Gi
 a_q45:Gj
 d_q45:Gi
 a_q22:Gj
 d_q22:Gi
 a_q6:Gj
 d_q6:Gi
 a_q77:Gj
 d_q77:Gi
 c0:Gj
 Pt:Gj
structure iP (K:jb)(mg:Str->Option Gg)(t:Se):Prop where
 q57:Fn K mg "is_whole" HZ ["thing"] t.a_q57 t.d_q57
 q67:Fn K mg "bit_of" Nl ["hand"] t.a_q67 t.d_q67
 q55:Fn K mg "has_hand" MB ["mask","hand"] t.a_q55 t.d_q55
 q60:Fn K mg "mask_of" Ia ["hands"] t.a_q60 t.d_q60
 q43:Fn K mg "hands_in" LQ ["mask"] t.a_q43 t.d_q43
 q34:Fn K mg "is_number" Nt ["thing"] t.a_q34 t.d_q34
 q20:Fn K mg "are_numbers" HL ["thing"] t.a_q20 t.d_q20
 q25:Fn K mg "many_hands" Iy ["run"] t.a_q25 t.d_q25
 q61:Fn K mg "fall_of" HP ["run","hand"] t.a_q61 t.d_q61
 q11:Fn K mg "without_fall" MQ ["run","hand"] t.a_q11 t.d_q11
 q39:Fn K mg "with_fall" MT ["run","hand","at","reached"] t.a_q39 t.d_q39
 q13:Fn K mg "with_number" Ka ["run","hand","number"] t.a_q13 t.d_q13
 q69:Fn K mg "is_up" IC ["run","hand","rounds"] t.a_q69 t.d_q69
 q32:Fn K mg "who_is_up" Nx ["run","rounds"] t.a_q32 t.d_q32
 q71:Fn K mg "comes" Hq ["run","by","to","at"] t.a_q71 t.d_q71
 q72:Fn K mg "keeps" Ou ["run","bound"] t.a_q72 t.d_q72
 q2:Fn K mg "with_reach_turned" Ip ["run","hand","to"] t.a_q2 t.d_q2
 q0:Fn K mg "changed_while_hushed" KN ["run","other","hand","at","rounds"] t.a_q0 t.d_q0
 q66:Fn K mg "hushed" KQ ["run","hand","at","rounds"] t.a_q66 t.d_q66
 q35:Fn K mg "all_heard" Mv ["fall","up"] t.a_q35 t.d_q35
 q10:Fn K mg "is_found_out" KC ["fall","up","rounds"] t.a_q10 t.d_q10
 q38:Fn K mg "found_out" IV ["run","rounds"] t.a_q38 t.d_q38
 q44:Fn K mg "waste_of" NF ["run"] t.a_q44 t.d_q44
 q7:Fn K mg "closing_round" Lh ["run","bound"] t.a_q7 t.d_q7
 q58:Fn K mg "is_open" KF ["run","bound","rounds"] t.a_q58 t.d_q58
 q1:Fn K mg "without_late_falls" Mc ["run","rounds"] t.a_q1 t.d_q1
 q16:Fn K mg "heard_falls" Nf ["run","at"] t.a_q16 t.d_q16
 q17:Fn K mg "fallen_next" Ky ["run","hand","at","rounds"] t.a_q17 t.d_q17
 q3:Fn K mg "with_heard_next" HA ["run","at","rounds"] t.a_q3 t.d_q3
 q74:Fn K mg "risen" MJ ["run","hand","at","rounds"] t.a_q74 t.d_q74
 q12:Fn K mg "heard_healed" Ot ["run","at","rounds"] t.a_q12 t.d_q12
 q24:Fn K mg "made_heard" IX ["run","hand","at","rounds"] t.a_q24 t.d_q24
 q9:Fn K mg "round_healed" NU ["run","at","rounds"] t.a_q9 t.d_q9
 q68:Fn K mg "healed" MF ["run","bound","rounds"] t.a_q68 t.d_q68
 q23:Fn K mg "renumbered" Nm ["run","numbers","rounds"] t.a_q23 t.d_q23
 q4:Fn K mg "are_numbers_for" KZ ["run","thing"] t.a_q4 t.d_q4
 q42:Fn K mg "chain_of" Ix ["run","bound","rounds","numbers"] t.a_q42 t.d_q42
 q15:Fn K mg "view_behind" Na ["run","views","hand","at"] t.a_q15 t.d_q15
 q8:Fn K mg "views_behind" Np ["run","views","at"] t.a_q8 t.d_q8
 q54:Fn K mg "views_of" HX ["run","rounds"] t.a_q54 t.d_q54
 q50:Fn K mg "own_part" Nz ["view"] t.a_q50 t.d_q50
 q36:Fn K mg "rounds_of" NN ["view"] t.a_q36 t.d_q36
 q53:Fn K mg "own_past" Kz ["view","rounds"] t.a_q53 t.d_q53
 q52:Fn K mg "parts_of" MR ["views"] t.a_q52 t.d_q52
 q30:Fn K mg "layers_of" KH ["view"] t.a_q30 t.d_q30
 q73:Fn K mg "known" MS ["view"] t.a_q73 t.d_q73
 q19:Fn K mg "least_known" Iq ["view"] t.a_q19 t.d_q19
 q48:Fn K mg "heard_of" KP ["view"] t.a_q48 t.d_q48
 q27:Fn K mg "missing_in" Li ["view"] t.a_q27 t.d_q27
 q56:Fn K mg "is_clean" Ll ["view"] t.a_q56 t.d_q56
 q64:Fn K mg "lacking" IE ["view","rounds"] t.a_q64 t.d_q64
 q37:Fn K mg "choice_by" Op ["rule","view"] t.a_q37 t.d_q37
 q40:Fn K mg "number_by" NQ ["rule","view"] t.a_q40 t.d_q40
 q62:Fn K mg "told_by" HM ["rule","run","rounds"] t.a_q62 t.d_q62
 q46:Fn K mg "all_told" Kv ["told","number"] t.a_q46 t.d_q46
 q59:Fn K mg "torn_in" MX ["run","told"] t.a_q59 t.d_q59
 q31:Fn K mg "strangers" Ko ["told","number"] t.a_q31 t.d_q31
 q63:Fn K mg "torn_on" Ml ["rule","chain","number","rounds"] t.a_q63 t.d_q63
 q14:Fn K mg "broken_from" Kg ["rule","run","bound","rounds","number"] t.a_q14 t.d_q14
 q65:Fn K mg "broken" MW ["rule","run","bound","rounds"] t.a_q65 t.d_q65
 q26:Fn K mg "waste_seen" LU ["view"] t.a_q26 t.d_q26
 q5:Fn K mg "is_behind_bound" Hw ["view","bound"] t.a_q5 t.d_q5
 q33:Fn K mg "was_clean" LA ["view"] t.a_q33 t.d_q33
 q21:Fn K mg "least_where" Kp ["tells","view"] t.a_q21 t.d_q21
 q70:Fn K mg "plain" Kn ["view","bound"] t.a_q70 t.d_q70
 q75:Fn K mg "soon" NY ["view","bound"] t.a_q75 t.d_q75
 q76:Fn K mg "sure" Kb ["view","bound"] t.a_q76 t.d_q76
 q49:Fn K mg "together" Iu ["view","bound"] t.a_q49 t.d_q49
 q18:Fn K mg "_law_cell_at" HB ["script","k"] t.a_q18 t.d_q18
 q29:Fn K mg "_law_whole" Ig ["found"] t.a_q29 t.d_q29
 q28:Fn K mg "_law_mixed" Oa ["number","k"] t.a_q28 t.d_q28
 q47:Fn K mg "_law_view" Nc ["before","ends","hand","at"] t.a_q47 t.d_q47
 q41:Fn K mg "_law_views" Mp ["run","rounds"] t.a_q41 t.d_q41
 q51:Fn K mg "_law_good" Iw ["run","many","most"] t.a_q51 t.d_q51
 q45:Fn K mg "_law_told" Ny ["rule","run","rounds"] t.a_q45 t.d_q45
 q22:Fn K mg "_law_breaks" Lf ["found","rule","many","bound","rounds"] t.a_q22 t.d_q22
 q6:Fn K mg "_law_told_rule" Kd ["view","way","bound"] t.a_q6 t.d_q6
 q77:Fn K mg "law" AE ["script"] t.a_q77 t.d_q77
 b_abs:mg "abs"=Gb
 b_all:mg "all"=Gb
 b_any:mg "any"=Gb
 b_bool:mg "bool"=Gb
 b_int:mg "int"=Gb
 b_isinstance:mg "isinstance"=Gb
 b_len:mg "len"=Gb
 b_list:mg "list"=Gb
 b_max:mg "max"=Gb
 b_min:mg "min"=Gb
 b_range:mg "range"=Gb
 b_reversed:mg "reversed"=Gb
 b_sorted:mg "sorted"=Gb
 b_sum:mg "sum"=Gb
 b_tuple:mg "tuple"=Gb
 lam_cd:t.d_q77.code=.ref t.c0
 lam_hd:qB K t.c0 t.Pt=true
 lam_bm:∃ bm o,mg "__builtins__"=Ga (.ref bm)/\bm≠builtinsNs/\bm≠mainGlobals/\K.lookup bm=Ga o/\o.cls=.type "module"/\o.dict=Ga builtinsNs/\o.data=.plain
 c_LAST_ROUND:∃ t,mg "LAST_ROUND"=Ga (.int 5 t)
 c_LEAST_HANDS:∃ t,mg "LEAST_HANDS"=Ga (.int 2 t)
 c_MOST_HANDS:∃ t,mg "MOST_HANDS"=Ga (.int 5 t)
variable {P:Program}{w:World}{K:jb}{mg:Str->Option Gg}{base:Heap}{t:Se}
theorem zqW:gR ["thing"] ["thing"] (gO HZ):=fO (by nofun)
abbrev gy:=gv 0
abbrev bo:=zf (nW (sw "int") gy) (RY (nW (sw "bool") gy))
def My:FS:=lL bo
def yW:List D->Option D:=iE 1 1 My
theorem Rc (T:iP K mg t):hV P w K mg base io 1 t.a_q57 t.d_q57 ["thing"] (iY K yW) :=
 cV (lq T.q57.F zqW λ_ _ _ _ _ _ hr=>hG (iy (wP (ww (T:="int") (by decide) rfl T.b_isinstance rfl T.b_int boot_int (gK 0)) (sK (Nr (ww (T:="bool") (by decide) rfl T.b_isinstance rfl T.b_bool boot_bool (gK 0))))))) rfl
theorem GE:gR ["hand","bit","step"] ["hand"] (gO Nl):=fO (by nofun)
abbrev gz:=gv 1
abbrev fZ:=iO (.int 1)
abbrev ga:=iO (.int 2)
abbrev cU:=iH 1 (ib nk gz ga)
abbrev fy:=mM la gy
abbrev gw:=mf 2
def KJ:FS:=ik (iH 1 fZ) (ik (mS fy gw cU) (iZ gz))
def xS:List D->Option D:=iE 1 3 KJ
theorem IK (T:iP K mg t):hV P w K mg base io 1 t.a_q67 t.d_q67 ["hand"] (iY K xS) :=
 lq T.q67.F GE λ_ _ _ _ _ _ hr=>ii (lv 1 gQ GE.nd) (ii (nz PassesOwn.never rfl (pC rfl T.b_range (gK 0)) (mD 2 GE.nd) (hG (lv 1 (zX (gK 1) gQ) GE.nd))) (hG (iy (gK 1))))
theorem zqX:gR ["mask","hand"] ["mask","hand"] (gO MB):=fO (by nofun)
abbrev fk:=gP gz (iB)
abbrev gb:=iO (.int 0)
def Xn:FS:=iZ (ib lR (ib Mr gy (gY xS fk)) gb)
def vv:List D->Option D:=iE 2 2 Xn
theorem Fi (T:iP K mg t):hV P w K mg base io 2 t.a_q55 t.d_q55 ["mask","hand"] (iY K vv) :=
 lq T.q55.F zqX λ_ _ _ _ _ _ hr=>hG (iy (Eg (lY hr) (Xa (gK 0) (vc (IK T) T.q67 hr (gN (gK 1) gU))) gQ))
theorem Fo:gR ["hands","mask","hand"] ["hands"] (gO Ia):=fO (by nofun)
abbrev gA:=gv 2
abbrev fq:=gP gA (iB)
abbrev ce:=ib Af gz (gY xS fq)
abbrev bE:=iH 1 ce
def IG:FS:=ik (iH 1 gb) (ik (mS (ng gy) gw bE) (iZ gz))
def wz:List D->Option D:=iE 1 3 IG
theorem GC (T:iP K mg t):hV P w K mg base io 2 t.a_q60 t.d_q60 ["hands"] (iY K wz) :=
 lq T.q60.F Fo λ_ _ _ _ _ _ hr=>ii (lv 1 gQ Fo.nd) (ii (nz PassesOwn.never rfl (nq (gK 0)) (mD 2 Fo.nd) (hG (lv 1 (Rt (gK 1) (vc (IK T) T.q67 hr (gN (gK 2) gU))) Fo.nd))) (hG (iy (gK 1))))
theorem TW:gR ["mask"] ["mask"] (gO LQ):=fO (by nofun)
abbrev ft:=gP gy (iB)
abbrev dq:=gP gz ft
abbrev cx:=gY vv dq
abbrev eG:=mM la (un Cb gy)
def LB:FS:=xF (iQ eG (nJ cx) gy [0])
def rD:List D->Option (List D):=xz 1 1 LB
theorem Qy (T:iP K mg t):hV P w K mg base io 3 t.a_q43 t.d_q43 ["mask"] (tJ K rD) :=
 Gw T.q43.F TW λ_ _ _ _ _ _ hr=>hG (HJ (oO rfl (cO TW (fr:=["mask"]) (by nofun)) (pC rfl T.b_range (ZI (gK 0))) (rA (by nofun) rfl (λcl C s H fp ω=>nG (vc (Fi T) T.q55 hr (gN (gK 1) (gN (gK 0) gU)))) (λcl C s H fp ω=>gK 0))))
theorem zpH:gR ["thing"] ["thing"] (gO Nt):=fO (by nofun)
abbrev fA:=gX gy (lD)
abbrev fP:=me (.int 10)
abbrev fQ:=me (.int 60)
abbrev cH:=gW sC fP fQ
def ML:FS:=lL (zf (ig yW fA) (Od pO pO (nW wb cH) gy cH))
def BC:List D->Option D:=iE 1 1 ML
theorem zpI (T:iP K mg t):hV P w K mg base io 2 t.a_q34 t.d_q34 ["thing"] (iY K BC) :=
 cV (lq T.q34.F zpH λ_ _ _ _ _ _ hr=>hG (iy (wP (vc (Rc T) T.q57 hr (gN (gK 0) gU)) (sK (TK zF zF (pK λ_ _ _=>.bl _) (pK λ_ _ _=>.bl _) (rL (Dc gQ gQ)) (gK 0) (Dc gQ gQ)))))) rfl
theorem SB:gR ["thing"] ["thing"] (gO HL):=fO (by nofun)
abbrev fT:=me (.int 2)
abbrev eM:=lL (me (.bool false))
abbrev fM:=nW iU gy
abbrev gc:=sw "tuple"
abbrev da:=mP (lE (nW gc gy))
def Kk:FS:=gT (iI (lV da (mP (SW rh rh fT fM (me (.int 5))))) eM iW) (lL (pF su (iQ (oN gy) (λ_=>Ga true) (ig BC fA) [])))
def Bh:List D->Option D:=iE 1 1 Kk
theorem zm8 (T:iP K mg t):hV P w K mg base io 3 t.a_q20 t.d_q20 ["thing"] (iY K Bh) :=
 cV (lq T.q20.F SB λ_ _ _ _ _ _ hr=>ii (lz (nN.b (mZ (oD (nG (ww (T:="tuple") (by decide) rfl T.b_isinstance rfl T.b_tuple boot_tuple (gK 0)))) (so (oD (zCc wI wI (pK λ_ _ _=>.bl _) (pK λ_ _ _=>.bl _) (LV T.c_LEAST_HANDS) (nS rfl T.b_len (gK 0)) (LV T.c_MOST_HANDS)))))) (hG (iy (oi))) ma) (hG (iy (KY rfl rfl T.b_all (PO.sh (oO rfl (cO SB (fr:=[]) (by nofun)) (nq (gK 0)) (oW (by nofun) rfl (λcl C s H fp ω=>vc (zpI T) T.q34 hr (gN (gK 0) gU))))))))) rfl
theorem Xu:gR ["run"] ["run"] (gO Iy):=fO (by nofun)
abbrev dQ:=ib gZ gy gb
def Yw:FS:=iZ (un iU dQ)
def pk:List D->Option D:=iE 1 1 Yw
theorem Bq (T:iP K mg t):hV P w K mg base io 1 t.a_q25 t.d_q25 ["run"] (iY K pk) :=
 lq T.q25.F Xu λ_ _ _ _ _ _ hr=>hG (iy (nS rfl T.b_len (ic (gK 0) gQ)))
theorem RC:gR ["run","hand","fall"] ["run","hand"] (gO HP):=fO (by nofun)
abbrev gp:=iO .none
abbrev dS:=ib gZ gA gb
abbrev aX:=mV (lh lj dS gz) (iZ gA) (nE)
abbrev dR:=ib gZ gy fZ
abbrev di:=ng dR
abbrev fB:=iZ gp
def Oj:FS:=ik (mS di gw aX) fB
def zV:List D->Option D:=iE 2 3 Oj
theorem Fp (T:iP K mg t):hV P w K mg base io 1 t.a_q61 t.d_q61 ["run","hand"] (iY K zV) :=
 lq T.q61.F RC λ_ _ _ _ _ _ hr=>ii (nz PassesOwn.never rfl (nq (ic (gK 0) gQ)) (mD 2 RC.nd) (hG (lz (nQ (lY hr) (ic (gK 2) gQ) (gK 1)) (hG (iy (gK 2))) ma))) (hG (iy oH))
theorem QB:gR ["run","hand"] ["run","hand"] (gO MQ):=fO (by nofun)
abbrev fV:=me (.int 1)
abbrev fU:=me (.int 0)
abbrev dB:=gW gZ gy fU
abbrev dC:=gW gZ gy fV
abbrev ci:=lI lR dB gz
abbrev dh:=oN dC
def Lo:FS:=lL (ol (gX dB (gX (pF pj (iQ dh ci gy [1])) lD)))
def DJ:List D->Option D:=iE 2 2 Lo
theorem KW (T:iP K mg t):hV P w K mg base io 1 t.a_q11 t.d_q11 ["run","hand"] (iY K DJ) :=
 cV (lq T.q11.F QB λ_ _ _ _ _ _ hr=>hG (iy (oC (gN (ic (gK 0) gQ) (gN (Ay rfl T.b_tuple (PO.sh (oO rfl (cO QB (fr:=["hand"]) (by nofun)) (nq (ic (gK 0) gQ)) (rA (by nofun) rfl (λcl C s H fp ω=>rS (lY hr) (ic (gK 0) gQ) (gK 1)) (λcl C s H fp ω=>gK 0))))) gU))))) rfl
theorem Su:gR ["run","hand","at","reached","others"] ["run","hand","at","reached"] (gO MT):=fO (by nofun)
abbrev gB:=gv 4
abbrev gC:=gv 3
abbrev fC:=gX gz (lD)
abbrev dU:=gX gy fC
abbrev fE:=gX gC (lD)
abbrev dW:=gX gA fE
abbrev cJ:=gX gz dW
def Hl:FS:=gT (ly 4 (gW gZ (ig DJ dU) fV)) (lL (ol (gX dB (gX (pF pj (Rx (Kf (gW lr gB (ol (gX (ol cJ) lD)))))) lD))))
def xT:List D->Option D:=iE 4 5 Hl
theorem NJ (T:iP K mg t):hV P w K mg base io 2 t.a_q39 t.d_q39 ["run","hand","at","reached"] (iY K xT) :=
 cV (lq T.q39.F Su λ_ _ _ _ _ _ hr=>ii (lv 4 (ic (vc (KW T) T.q11 hr (gN (gK 0) (gN (gK 1) gU))) gQ) Su.nd) (hG (iy (oC (gN (ic (gK 0) gQ) (gN (Ay rfl T.b_tuple (PO.sh (zxR rfl T.b_sorted (nT (gK 4) (oC (gN (oC (gN (gK 1) (gN (gK 2) (gN (gK 3) gU)))) gU)))))) gU)))))) rfl
theorem Re:gR ["run","hand","number","numbers"] ["run","hand","number"] (gO Ka):=fO (by nofun)
abbrev fF:=gX gA (lD)
abbrev dz:=gW lr gz fV
def Nd:FS:=gT (ly 3 dB) (lL (ol (gX (gW lr (gW lr (oI gC oY (zP gz)) (ol fF)) (oI gC (zP dz) oY)) (gX dC lD))))
def wd:List D->Option D:=iE 3 4 Nd
theorem Zf (T:iP K mg t):hV P w K mg base io 1 t.a_q13 t.d_q13 ["run","hand","number"] (iY K wd) :=
 cV (lq T.q13.F Re λ_ _ _ _ _ _ hr=>ii (lv 3 (ic (gK 0) gQ) Re.nd) (hG (iy (oC (gN (nT (nT (sQ (gK 3) wg (rO (gK 1))) (oC (gN (gK 2) gU))) (sQ (gK 3) (rO (nT (gK 1) gQ)) wg)) (gN (ic (gK 0) gQ) gU)))))) rfl
theorem RL:gR ["run","hand","rounds","fall"] ["run","hand","rounds"] (gO IC):=fO (by nofun)
abbrev dr:=gP gy fk
abbrev cy:=gY zV dr
def HQ:FS:=ik (iH 3 cy) (iZ (Fj (ib oB gC gp) (ib pM (ib gZ gC fZ) gA)))
def Bf:List D->Option D:=iE 3 4 HQ
theorem Ql (T:iP K mg t):hV P w K mg base io 2 t.a_q69 t.d_q69 ["run","hand","rounds"] (iY K Bf) :=
 lq T.q69.F RL λ_ _ _ _ _ _ hr=>ii (lv 3 (vc (Fp T) T.q61 hr (gN (gK 0) (gN (gK 1) gU))) RL.nd) (hG (iy (Ca (UY (gK 3) oH) (sK (Vm (ic (gK 3) gQ) (gK 2))))))
theorem Ud:gR ["run","rounds"] ["run","rounds"] (gO Nx):=fO (by nofun)
abbrev bu:=gY Bf (gP gA dr)
def KG:FS:=xF (iQ (mM la (gY pk ft)) (nJ bu) gy [1,0])
def sJ:List D->Option (List D):=xz 2 2 KG
theorem Bj (T:iP K mg t):hV P w K mg base io 3 t.a_q32 t.d_q32 ["run","rounds"] (tJ K sJ) :=
 Gw T.q32.F Ud λ_ _ _ _ _ _ hr=>hG (HJ (oO rfl (cO Ud (fr:=["rounds","run"]) (by nofun)) (pC rfl T.b_range (vc (Bq T) T.q25 hr (gN (gK 0) gU))) (rA (by nofun) rfl (λcl C s H fp ω=>nG (vc (Ql T) T.q69 hr (gN (gK 2) (gN (gK 0) (gN (gK 1) gU))))) (λcl C s H fp ω=>gK 0))))
theorem QX:gR ["run","by","to","at","fall"] ["run","by","to","at"] (gO Hq):=fO (by nofun)
abbrev fu:=gP gC (iB)
abbrev dt:=gP gA fu
abbrev bU:=gP gy dt
abbrev bg:=nJ (gY Bf bU)
abbrev bA:=gP (ib gZ gB ga) fq
abbrev dX:=ib gZ gB fZ
abbrev eO:=iZ (iO (.bool false))
def Nh:FS:=ik (mV (xg (lh lj gz gA) (rz bg)) eO nE) (ik (iH 4 cy) (ik (mV (xg (lh oB gB gp) (lh pM dX gC)) (iZ (iO (.bool true))) nE) (iZ (tS (ib lj dX gC) (gY vv bA)))))
def CY:List D->Option D:=iE 4 5 Nh
theorem zvS (T:iP K mg t):hV P w K mg base io 3 t.a_q71 t.d_q71 ["run","by","to","at"] (iY K CY) :=
 lq T.q71.F QX λ_ _ _ _ _ _ hr=>ii (lz (nN.b (mZ (nQ (lY hr) (gK 1) (gK 2)) (so (oD (nG (vc (Ql T) T.q69 hr (gN (gK 0) (gN (gK 2) (gN (gK 3) gU))))))))) (hG (iy (oi))) ma) (ii (lv 4 (vc (Fp T) T.q61 hr (gN (gK 0) (gN (gK 1) gU))) QX.nd) (ii (lz (nN.b (mZ (zH (gK 4) oH) (so (tD (ic (gK 4) gQ) (gK 3))))) (hG (iy (oi))) ma) (hG (iy (wP (xo (lY hr) (ic (gK 4) gQ) (gK 3)) (sK (vc (Fi T) T.q55 hr (gN (ic (gK 4) gQ) (gN (gK 2) gU)))))))))
theorem Zq:gR ["run","bound"] ["run","bound"] (gO Ou):=fO (by nofun)
abbrev cX:=un iU dR
def KL:FS:=ik (mV (rz (nJ (gY yW fk))) eO nE) (iZ (tS (Ag rh rh gb gz (ib lP (gY pk ft) ga)) (ib rh cX gz)))
def Hi:List D->Option D:=iE 2 2 KL
theorem zvU (T:iP K mg t):hV P w K mg base io 2 t.a_q72 t.d_q72 ["run","bound"] (iY K Hi) :=
 lq T.q72.F Zq λ_ _ _ _ _ _ hr=>ii (lz (oD (nG (vc (Rc T) T.q57 hr (gN (gK 1) gU)))) (hG (iy (oi))) ma) (hG (iy (wP (TK wI wI (pK λ_ _ _=>.bl _) (pK λ_ _ _=>.bl _) gQ (gK 1) (sj (vc (Bq T) T.q25 hr (gN (gK 0) gU)) gQ)) (sK (UP (nS rfl T.b_len (ic (gK 0) gQ)) (gK 1))))))
theorem TL:gR ["run","hand","to","fall"] ["run","hand","to"] (gO Ip):=fO (by nofun)
def Kh:FS:=gT (ly 3 (ig zV dU)) (lL (ig xT (gX gy (gX gz (gX (gW gZ gC fV) (gX (gW DW (gW gZ gC fT) (ig xS fF)) lD))))))
def yU:List D->Option D:=iE 3 4 Kh
theorem PZ (T:iP K mg t):hV P w K mg base io 3 t.a_q2 t.d_q2 ["run","hand","to"] (iY K yU) :=
 cV (lq T.q2.F TL λ_ _ _ _ _ _ hr=>ii (lv 3 (vc (Fp T) T.q61 hr (gN (gK 0) (gN (gK 1) gU))) TL.nd) (hG (iy (vc (NJ T) T.q39 hr (gN (gK 0) (gN (gK 1) (gN (ic (gK 3) gQ) (gN (VA (ic (gK 3) gQ) (vc (IK T) T.q67 hr (gN (gK 2) gU))) gU)))))))) rfl
theorem zgM:gR ["run","other","hand","at","rounds"] ["run","other","hand","at","rounds"] (gO KN):=fO (by nofun)
abbrev fv:=gP gB (iB)
abbrev bV:=gP gA (gP gC fv)
def HH (pb:List D->Option (List D)):FS:=iZ (ib lr (mL (oz pb (gP gy bV))) (mL (Ct (oz pb (gP gz bV)))))
theorem RI (T:iP K mg t){n:Nat}{fm:List D->Option (List D)}(R:hV P w K mg base io (n+4) t.a_q66 t.d_q66 ["run","hand","at","rounds"] (tJ K fm)):hV P w K mg base io (n+4+1) t.a_q0 t.d_q0 ["run","other","hand","at","rounds"] (iY K (iE 5 5 (HH fm))) :=
 lq T.q0.F zgM λ_ _ _ _ _ _ hr=>hG (iy (nT (PO.v (ss R (hr.mono (by omega)) T.q66.m T.q66.F.kp T.q66.b (gN (gK 0) (gN (gK 2) (gN (gK 3) (gN (gK 4) gU)))))) (PO.v (KU rfl rfl T.b_list rfl T.b_reversed (PO.sh (ss R (hr.mono (by omega)) T.q66.m T.q66.F.kp T.q66.b (gN (gK 1) (gN (gK 2) (gN (gK 3) (gN (gK 4) gU))))))))))
theorem AM:gR ["run","hand","at","rounds","other","others","path","last","fewer"] ["run","hand","at","rounds"] (gO KQ):=fO (by nofun)
abbrev gF:=gv 7
abbrev gG:=gv 8
abbrev gD:=gv 5
abbrev eW:=un wb fZ
abbrev bL:=mL (oz sJ (gP gy fq))
abbrev bw:=ng bL
abbrev dJ:=ib lr gA fZ
abbrev bx:=gP dJ fu
abbrev du:=gP gz fv
abbrev fg:=se fZ
abbrev fw:=gP gD (iB)
def Vz (pb:List D->Option (List D))(rg:List D->Option D):FS:=ik (mV (lh pM gA gC) (xF ft) nE) (ik (AH 5 (sB 5 (iQ bw (lh lR gy gz) gy [1]))) (ik (sB 6 (oz pb (gP gy (gP gz bx)))) (ik (yA 6 (gY xT (gP gy (gP gz (gP gA (gP (gY wz fw) iB)))))) (ik (mS (ng gD) (mf 4) (ik (iH 7 (Dw (gl 6) eW)) (ik (iH 8 (gY yU (gP gF du))) (Ed 6 (zM (gY rg (gP gF (gP gG (gP gB bx)))) fg (EN)))))) (xF (go 6))))))
def pb:Nat->List D->Option (List D)
 | 0=>λ_=>Gb
 | n+1=>xz 4 9 (Vz (pb n) (iE 5 5 (HH (pb n))))
def rg (n:Nat):List D->Option D:=iE 5 5 (HH (pb n))
theorem MC (T:iP K mg t):∀ n,hV P w K mg base io (2*n+4) t.a_q66 t.d_q66 ["run","hand","at","rounds"] (tJ K (pb n))
 | 0=>Ur
 | n+1=>by
  have R:=MC T n;have R2:=RI T R;have e:2*(n+1)+4=2*n+4+1+1:=by omega
  rw[e];exact Gw T.q66.F AM λ_ _ _ _ _ _ hr=>ii (lz (tD (gK 2) (gK 3)) (hG (HJ (rH (gN (gK 0) gU)))) ma) (ii (Br 5 (AX 5 rfl (cO AM (fr:=["hand"]) (by nofun)) (nq (PO.v (ss (Bj T) (hr.mono (by omega)) T.q32.m T.q32.F.kp T.q32.b (gN (gK 0) (gN (gK 2) gU))))) (rA (by nofun) rfl (λcl C s H fp ω=>rS (lY hr) (gK 0) (gK 1)) (λcl C s H fp ω=>gK 0)) AM.nd)) (ii (wt 6 (ss R (hr.mono (by omega)) T.q66.m T.q66.F.kp T.q66.b (gN (gK 0) (gN (gK 1) (gN (nT (gK 2) gQ) (gN (gK 3) gU))))) AM.nd) (ii (yn 6 (Dr (NJ T) (hr.mono (by omega)) T.q39.m T.q39.F.kp T.q39.b (gN (gK 0) (gN (gK 1) (gN (gK 2) (gN (Dr (GC T) (hr.mono (by omega)) T.q60.m T.q60.F.kp T.q60.b (gN (gK 5) gU)) gU)))))) (ii (nz PassesOwn.never rfl (nq (gK 5)) (mD 4 AM.nd) (ii (lv 7 (xi (sN 6) (rL gQ)) AM.nd) (ii (lv 8 (Dr (PZ T) (hr.mono (by omega)) T.q2.m T.q2.F.kp T.q2.b (gN (gK 7) (gN (gK 1) (gN (gK 4) gU)))) AM.nd) (hG (zZ 6 (sQ (Dr R2 (hr.mono (by omega)) T.q0.m T.q0.F.kp T.q0.b (gN (gK 7) (gN (gK 8) (gN (gK 4) (gN (nT (gK 2) gQ) (gN (gK 3) gU)))))) (rO gQ) wg)))))) (hG (za 6))))))
theorem SY (T:iP K mg t)(n:Nat):hV P w K mg base io (2*n+4+1) t.a_q0 t.d_q0 ["run","other","hand","at","rounds"] (iY K (rg n)):=RI T (MC T n)
theorem Qt:gR ["fall","up"] ["fall","up"] (gO Mv):=fO (by nofun)
abbrev aZ:=gY vv (gP (ib gZ gz ga) ft)
def NH:FS:=iZ (sO su (iQ (ng gz) (λ_=>Ga true) aZ [0]))
def yQ:List D->Option D:=iE 2 2 NH
theorem SR (T:iP K mg t):hV P w K mg base io 3 t.a_q35 t.d_q35 ["fall","up"] (iY K yQ) :=
 lq T.q35.F Qt λ_ _ _ _ _ _ hr=>hG (iy (KY rfl rfl T.b_all (PO.sh (oO rfl (cO Qt (fr:=["fall"]) (by nofun)) (nq (gK 1)) (oW (by nofun) rfl (λcl C s H fp ω=>vc (Fi T) T.q55 hr (gN (ic (gK 1) gQ) (gN (gK 0) gU))))))))
theorem Xe:gR ["fall","up","rounds"] ["fall","up","rounds"] (gO KC):=fO (by nofun)
def IR:FS:=iZ (Fj (ib pO dR gA) (tS (ib lj dR gA) (Kl (gY yQ dr))))
def Dv:List D->Option D:=iE 3 3 IR
theorem zmG (T:iP K mg t):hV P w K mg base io 4 t.a_q10 t.d_q10 ["fall","up","rounds"] (iY K Dv) :=
 lq T.q10.F Xe λ_ _ _ _ _ _ hr=>hG (iy (Ca (DY (ic (gK 0) gQ) (gK 2)) (sK (wP (xo (lY hr) (ic (gK 0) gQ) (gK 2)) (sK (Nr (vc (SR T) T.q35 hr (gN (gK 0) (gN (gK 1) gU)))))))))
theorem Nk:gR ["run","rounds","up"] ["run","rounds"] (gO IV):=fO (by nofun)
abbrev bW:=gP gy (gP gA fk)
abbrev bh:=nJ (gY Dv bW)
abbrev bM:=mL (oz sJ dr)
def Kr:FS:=ik (iH 2 bM) (ik (mV (lh lj (un iU gA) gb) (iZ gb) nE) (iZ (gY wz (gP (mL (iQ di bh dQ [1,2])) iB))))
def BB:List D->Option D:=iE 2 3 Kr
theorem Yz (T:iP K mg t):hV P w K mg base io 5 t.a_q38 t.d_q38 ["run","rounds"] (iY K BB) :=
 lq T.q38.F Nk λ_ _ _ _ _ _ hr=>ii (lv 2 (PO.v (ss (Bj T) (hr.mono (by decide)) T.q32.m T.q32.F.kp T.q32.b (gN (gK 0) (gN (gK 1) gU)))) Nk.nd) (ii (lz (nQ (lY hr) (nS rfl T.b_len (gK 2)) gQ) (hG (iy gQ)) ma) (hG (iy (vc (GC T) T.q60 hr (gN (PO.v (oO rfl (cO Nk (fr:=["rounds","up"]) (by nofun)) (nq (ic (gK 0) gQ)) (rA (by nofun) rfl (λcl C s H fp ω=>nG (vc (zmG T) T.q10 hr (gN (gK 0) (gN (gK 2) (gN (gK 1) gU))))) (λcl C s H fp ω=>ic (gK 0) gQ)))) gU)))))
theorem SH:gR ["run"] ["run"] (gO NF):=fO (by nofun)
abbrev aI:=un iU (mL (oz rD (gP (gY BB dq) iB)))
abbrev aA:=ib lP aI gy
abbrev bi:=yu oh fZ (ib lr (iO (.int 5)) fZ)
abbrev eH:=gP gb (iB)
abbrev dv:=mL eH
def Mb:FS:=iZ (sO tm (zp (ib lr dv (mL (iQ bi (λ_=>Ga true) aA [0])))))
def NE:List D->Option D:=iE 1 1 Mb
theorem zqY (T:iP K mg t):hV P w K mg base io 6 t.a_q44 t.d_q44 ["run"] (iY K NE) :=
 lq T.q44.F SH λ_ _ _ _ _ _ hr=>hG (iy (Pr rfl rfl T.b_max (PV.sh (nT (PO.v (rH (gN gQ gU))) (PO.v (oO rfl (cO SH (fr:=["run"]) (by nofun)) (DI rfl T.b_range gQ (nT (LV T.c_LAST_ROUND) gQ)) (oW (by nofun) rfl (λcl C s H fp ω=>sj (nS rfl T.b_len (PO.v (ss (Qy T) (hr.mono (by decide)) T.q43.m T.q43.F.kp T.q43.b (gN (vc (Yz T) T.q38 hr (gN (gK 1) (gN (gK 0) gU))) gU)))) (gK 0)))))))))
theorem zlH:gR ["run","bound"] ["run","bound"] (gO Lh):=fO (by nofun)
abbrev dL:=ib lr gz fZ
def Ie:FS:=ik (mV (rz (nJ (gY Hi dr))) (Eb) nE) (iZ (ib lP dL (gY NE ft)))
def LY:List D->Option D:=iE 2 2 Ie
theorem Zn (T:iP K mg t):hV P w K mg base io 7 t.a_q7 t.d_q7 ["run","bound"] (iY K LY) :=
 lq T.q7.F zlH λ_ _ _ _ _ _ hr=>ii (lz (oD (nG (vc (zvU T) T.q72 hr (gN (gK 0) (gN (gK 1) gU))))) (hG EC) ma) (hG (iy (sj (nT (gK 1) gQ) (vc (zqY T) T.q44 hr (gN (gK 0) gU)))))
theorem ZK:gR ["run","bound","rounds"] ["run","bound","rounds"] (gO KF):=fO (by nofun)
def IT:FS:=iZ (ib pO gA (gY LY dr))
def tH:List D->Option D:=iE 3 3 IT
theorem Qj (T:iP K mg t):hV P w K mg base io 8 t.a_q58 t.d_q58 ["run","bound","rounds"] (iY K tH) :=
 lq T.q58.F ZK λ_ _ _ _ _ _ hr=>hG (iy (DY (gK 2) (vc (Zn T) T.q7 hr (gN (gK 0) (gN (gK 1) gU)))))
theorem Pw:gR ["run","rounds"] ["run","rounds"] (gO Mc):=fO (by nofun)
abbrev cj:=lI rh dC gz
def MH:FS:=lL (ol (gX dB (gX (pF pj (iQ dh cj gy [1])) lD)))
def zA:List D->Option D:=iE 2 2 MH
theorem ZT (T:iP K mg t):hV P w K mg base io 1 t.a_q1 t.d_q1 ["run","rounds"] (iY K zA) :=
 cV (lq T.q1.F Pw λ_ _ _ _ _ _ hr=>hG (iy (oC (gN (ic (gK 0) gQ) (gN (Ay rfl T.b_tuple (PO.sh (oO rfl (cO Pw (fr:=["rounds"]) (by nofun)) (nq (ic (gK 0) gQ)) (rA (by nofun) rfl (λcl C s H fp ω=>Ep (ic (gK 0) gQ) (gK 1)) (λcl C s H fp ω=>gK 0))))) gU))))) rfl
theorem LN:gR ["run","at","up"] ["run","at"] (gO Nf):=fO (by nofun)
abbrev ck:=lI lj dC gz
abbrev dY:=gX gy fF
def NL:FS:=gT (ly 2 (nZ (pL sJ dU))) (lL (nZ (iQ dh (zT ck (lE (ig yQ dY))) gy [1,2])))
def zy:List D->Option D:=iE 2 3 NL
theorem Qm (T:iP K mg t):hV P w K mg base io 4 t.a_q16 t.d_q16 ["run","at"] (iY K zy) :=
 cV (lq T.q16.F LN λ_ _ _ _ _ _ hr=>ii (lv 2 (PO.v (ss (Bj T) (hr.mono (by decide)) T.q32.m T.q32.F.kp T.q32.b (gN (gK 0) (gN (gK 1) gU)))) LN.nd) (hG (iy (PO.v (oO rfl (cO LN (fr:=["at","up"]) (by nofun)) (nq (ic (gK 0) gQ)) (rA (by nofun) rfl (λcl C s H fp ω=>nN.b (CL (nQ (lY hr) (ic (gK 0) gQ) (gK 1)) (Ds (nG (vc (SR T) T.q35 hr (gN (gK 0) (gN (gK 2) gU))))))) (λcl C s H fp ω=>gK 0))))))) rfl
theorem znA:gR ["run","hand","at","rounds"] ["run","hand","at","rounds"] (gO Ky):=fO (by nofun)
abbrev cz:=gY DJ dr
def zoH:FS:=iZ (xa (lh pO gA gC) (gY xT (gP gy (gP gz (gP dJ eH)))) cz)
def Tb:List D->Option D:=iE 4 4 zoH
theorem Wf (T:iP K mg t):hV P w K mg base io 3 t.a_q17 t.d_q17 ["run","hand","at","rounds"] (iY K Tb) :=
 lq T.q17.F znA λ_ _ _ _ _ _ hr=>hG (iy (yJ (Ar (gK 2) (gK 3)) (vc (NJ T) T.q39 hr (gN (gK 0) (gN (gK 1) (gN (nT (gK 2) gQ) (gN gQ gU))))) (vc (KW T) T.q11 hr (gN (gK 0) (gN (gK 1) gU)))))
theorem EF:gR ["run","at","rounds","later","fall"] ["run","at","rounds"] (gO HA):=fO (by nofun)
abbrev dw:=gP gz fq
abbrev dZ:=ib gZ gB gb
def zkY:FS:=ik (iH 3 gy) (ik (mS (ng (gY zy dr)) (mf 4) (iH 3 (gY Tb (gP gC (gP dZ dw))))) (iZ gC))
def Tr:List D->Option D:=iE 3 5 zkY
theorem zjY (T:iP K mg t):hV P w K mg base io 5 t.a_q3 t.d_q3 ["run","at","rounds"] (iY K Tr) :=
 lq T.q3.F EF λ_ _ _ _ _ _ hr=>ii (lv 3 (gK 0) EF.nd) (ii (nz PassesOwn.never rfl (nq (vc (Qm T) T.q16 hr (gN (gK 0) (gN (gK 1) gU)))) (mD 4 EF.nd) (hG (lv 3 (vc (Wf T) T.q17 hr (gN (gK 3) (gN (ic (gK 4) gQ) (gN (gK 1) (gN (gK 2) gU))))) EF.nd))) (hG (iy (gK 3))))
theorem ZA:gR ["run","hand","at","rounds"] ["run","hand","at","rounds"] (gO MJ):=fO (by nofun)
abbrev bX:=gP gz dt
def zyH:FS:=iZ (mL (Ct (oz (pb 12) (gP cz bX))))
def Tt:List D->Option D:=iE 4 4 zyH
theorem zvX (T:iP K mg t):hV P w K mg base io 29 t.a_q74 t.d_q74 ["run","hand","at","rounds"] (iY K Tt) :=
 lq T.q74.F ZA λ_ _ _ _ _ _ hr=>hG (iy (PO.v (KU rfl rfl T.b_list rfl T.b_reversed (PO.sh (ss (MC T 12) (hr.mono (by decide)) T.q66.m T.q66.F.kp T.q66.b (gN (vc (KW T) T.q11 hr (gN (gK 0) (gN (gK 1) gU))) (gN (gK 1) (gN (gK 2) (gN (gK 3) gU)))))))))
theorem Dn:gR ["run","at","rounds","hands","path","hand"] ["run","at","rounds"] (gO Ot):=fO (by nofun)
abbrev eQ:=nW wb fV
abbrev gr:=md 5
abbrev ed:=gX gz fF
abbrev cK:=gX gy ed
abbrev fx:=zP fV
abbrev gk:=Bv (go 4)
def HN:FS:=gT (Dk 3 (wx 3 (iQ (oN (ig zy dU)) (λ_=>Ga true) dB []))) (gT (wx 4 fA) (gT (iI (lI pM (nW iU gC) fU) (oP 4 (ig Tr cK)) iW) (gT (nL (oN gC) gr (tU 4 (oI (ig Tt (gX (Ce (gl 4) eQ) (gX gD (gX dz fF)))) fx oY))) gk)))
def AO:List D->Option (List D):=xz 3 6 HN
theorem Rr (T:iP K mg t):hV P w K mg base io 30 t.a_q12 t.d_q12 ["run","at","rounds"] (tJ K AO) :=
 cW (Gw T.q12.F Dn λ_ _ _ _ _ _ hr=>ii (Br 3 (AX 3 rfl (cO Dn (fr:=[]) (by nofun)) (nq (vc (Qm T) T.q16 hr (gN (gK 0) (gN (gK 1) gU)))) (oW (by nofun) rfl (λcl C s H fp ω=>ic (gK 0) gQ)) Dn.nd)) (ii (wt 4 (rH (gN (gK 0) gU)) Dn.nd) (ii (lz (tD (nS rfl T.b_len (gK 3)) gQ) (hG (yn 4 (vc (zjY T) T.q3 hr (gN (gK 0) (gN (gK 1) (gN (gK 2) gU)))))) ma) (ii (nz PassesOwn.never rfl (nq (gK 3)) (mD 5 Dn.nd) (hG (zZ 4 (sQ (vc (zvX T) T.q74 hr (gN (xi (sN 4) (rL gQ)) (gN (gK 5) (gN (nT (gK 1) gQ) (gN (gK 2) gU))))) (rO gQ) wg)))) (hG (za 4)))))) rfl
theorem DN:gR ["run","hand","at","rounds","path","to","last","more"] ["run","hand","at","rounds"] (gO IX):=fO (by nofun)
abbrev gH:=gv 6
def zpL:FS:=ik (sB 4 ft) (ik (mS bw (mf 5) (ik (iH 6 (Dw (gl 4) eW)) (mV (rz (nJ (gY vv (gP (ib gZ (gY zV (gP gH fk)) ga) fw)))) (ik (iH 7 (gY yU (gP gH (gP gz fw)))) (Ed 4 (zM (gY (rg 12) (gP gH (gP gF (gP gD bx)))) fg (EN)))) nE))) (xF (go 4)))
def Ub:List D->Option D:=iE 4 8 zpL
theorem zoI (T:iP K mg t):hV P w K mg base io 30 t.a_q24 t.d_q24 ["run","hand","at","rounds"] (iY K Ub) :=
 lq T.q24.F DN λ_ _ _ _ _ _ hr=>ii (wt 4 (rH (gN (gK 0) gU)) DN.nd) (ii (nz PassesOwn.never rfl (nq (PO.v (ss (Bj T) (hr.mono (by decide)) T.q32.m T.q32.F.kp T.q32.b (gN (gK 0) (gN (gK 2) gU))))) (mD 5 DN.nd) (ii (lv 6 (xi (sN 4) (rL gQ)) DN.nd) (hG (lz (oD (nG (vc (Fi T) T.q55 hr (gN (ic (vc (Fp T) T.q61 hr (gN (gK 6) (gN (gK 1) gU))) gQ) (gN (gK 5) gU))))) (ii (lv 7 (vc (PZ T) T.q2 hr (gN (gK 6) (gN (gK 1) (gN (gK 5) gU)))) DN.nd) (hG (zZ 4 (sQ (vc (SY T 12) T.q0 hr (gN (gK 6) (gN (gK 7) (gN (gK 5) (gN (nT (gK 2) gQ) (gN (gK 3) gU)))))) (rO gQ) wg)))) ma)))) (hG (za 4)))
theorem Cw:gR ["run","at","rounds","path","hands","hand"] ["run","at","rounds"] (gO NU):=fO (by nofun)
abbrev db:=Ce (gl 3) eQ
abbrev gm:=Bv (go 3)
def LG:FS:=gT (wx 3 (pL AO cK)) (gT (Dk 4 (wx 4 (iQ (oN (gW gZ db fV)) ck dB [1]))) (gT (nL (oN gB) gr (gT (tU 3 (oI (ig Ub (gX db (gX gD ed))) fx oY)) (tU 3 (oI (nZ (pL AO (gX db ed))) fx oY)))) gm))
def zv:List D->Option D:=iE 3 6 LG
theorem Ys (T:iP K mg t):hV P w K mg base io 31 t.a_q9 t.d_q9 ["run","at","rounds"] (iY K zv) :=
 cV (lq T.q9.F Cw λ_ _ _ _ _ _ hr=>ii (wt 3 (ss (Rr T) (hr.mono (by decide)) T.q12.m T.q12.F.kp T.q12.b (gN (gK 0) (gN (gK 1) (gN (gK 2) gU)))) Cw.nd) (ii (Br 4 (AX 4 rfl (cO Cw (fr:=["at"]) (by nofun)) (nq (ic (xi (sN 3) (rL gQ)) gQ)) (rA (by nofun) rfl (λcl C s H fp ω=>nQ (lY hr) (ic (gK 0) gQ) (gK 1)) (λcl C s H fp ω=>ic (gK 0) gQ)) Cw.nd)) (ii (nz PassesOwn.never rfl (nq (gK 4)) (mD 5 Cw.nd) (ii (zZ 3 (sQ (vc (zoI T) T.q24 hr (gN (xi (sN 3) (rL gQ)) (gN (gK 5) (gN (gK 1) (gN (gK 2) gU))))) (rO gQ) wg)) (hG (zZ 3 (sQ (PO.v (ss (Rr T) (hr.mono (by decide)) T.q12.m T.q12.F.kp T.q12.b (gN (xi (sN 3) (rL gQ)) (gN (gK 1) (gN (gK 2) gU))))) (rO gQ) wg))))) (hG (za 3))))) rfl
theorem EQ:gR ["run","bound","rounds","path","seen","step"] ["run","bound","rounds"] (gO MF):=fO (by nofun)
abbrev aG:=gX db (gX (gW lP gA gD) fF)
abbrev eS:=wx 3 fA
def Lg:FS:=gT eS (gT (ly 4 (ig zA dY)) (gT (iI (lI lR gB gy) (oP 3 gB) iW) (gT (nL (wl la gA) gr (tU 3 (oI (ig zv aG) fx oY))) gm)))
def BM:List D->Option D:=iE 3 6 Lg
theorem YA (T:iP K mg t):hV P w K mg base io 32 t.a_q68 t.d_q68 ["run","bound","rounds"] (iY K BM) :=
 cV (lq T.q68.F EQ λ_ _ _ _ _ _ hr=>ii (wt 3 (rH (gN (gK 0) gU)) EQ.nd) (ii (lv 4 (vc (ZT T) T.q1 hr (gN (gK 0) (gN (gK 2) gU))) EQ.nd) (ii (lz (rS (lY hr) (gK 4) (gK 0)) (hG (yn 3 (gK 4))) ma) (ii (nz PassesOwn.never rfl (pC rfl T.b_range (gK 2)) (mD 5 EQ.nd) (hG (zZ 3 (sQ (vc (Ys T) T.q9 hr (gN (xi (sN 3) (rL gQ)) (gN (sj (gK 2) (gK 5)) (gN (gK 2) gU)))) (rO gQ) wg)))) (hG (za 3)))))) rfl
theorem Dy:gR ["run","numbers","rounds","path","hand","last","other"] ["run","numbers","rounds"] (gO Nm):=fO (by nofun)
abbrev aQ:=lI lR (gW gZ (gW gZ gD fU) gB) (gW gZ gz gB)
abbrev aV:=gX gD (gX gH (gX gB (gX fV fF)))
abbrev bz:=gX gD (gX gB (gX (gW gZ gz gB) lD))
abbrev cA:=ly 5 db
def NK:FS:=gT eS (gT (nL (wl la (ig pk fA)) (md 4) (gT cA (iI aQ (gT (ly 6 (ig wd bz)) (tU 3 (oI (ig (rg 12) aV) fx oY))) iW))) gm)
def As:List D->Option D:=iE 3 7 NK
theorem zoJ (T:iP K mg t):hV P w K mg base io 30 t.a_q23 t.d_q23 ["run","numbers","rounds"] (iY K As) :=
 cV (lq T.q23.F Dy λ_ _ _ _ _ _ hr=>ii (wt 3 (rH (gN (gK 0) gU)) Dy.nd) (ii (nz PassesOwn.never rfl (pC rfl T.b_range (vc (Bq T) T.q25 hr (gN (gK 0) gU))) (mD 4 Dy.nd) (ii (lv 5 (xi (sN 3) (rL gQ)) Dy.nd) (hG (lz (rS (lY hr) (ic (ic (gK 5) gQ) (gK 4)) (ic (gK 1) (gK 4))) (ii (lv 6 (vc (Zf T) T.q13 hr (gN (gK 5) (gN (gK 4) (gN (ic (gK 1) (gK 4)) gU)))) Dy.nd) (hG (zZ 3 (sQ (vc (SY T 12) T.q0 hr (gN (gK 5) (gN (gK 6) (gN (gK 4) (gN gQ (gN (gK 2) gU)))))) (rO gQ) wg)))) ma)))) (hG (za 3)))) rfl
theorem zjZ:gR ["run","thing"] ["run","thing"] (gO KZ):=fO (by nofun)
def Lz:FS:=lL (zf (ig Bh fC) (gW lj (nW iU gz) (ig pk fA)))
def Ap:List D->Option D:=iE 2 2 Lz
theorem ZC (T:iP K mg t):hV P w K mg base io 4 t.a_q4 t.d_q4 ["run","thing"] (iY K Ap) :=
 cV (lq T.q4.F zjZ λ_ _ _ _ _ _ hr=>hG (iy (wP (vc (zm8 T) T.q20 hr (gN (gK 1) gU)) (sK (xo (lY hr) (nS rfl T.b_len (gK 1)) (vc (Bq T) T.q25 hr (gN (gK 0) gU))))))) rfl
theorem NM:gR ["run","bound","rounds","numbers","still_open","path"] ["run","bound","rounds","numbers"] (gO Ix):=fO (by nofun)
def IJ:FS:=gT (ly 4 (ig tH cK)) (gT (iI (mP (lE (ig Ap (gX gy fE)))) Fm iW) (gT (iI (mP (lE gB)) Fm iW) (gT (ly 5 (ig BM cK)) (lL (gW lr gD (oI (ig As (gX (gW gZ gD eQ) (gX gC fF))) fx oY))))))
def yX:List D->Option D:=iE 4 6 IJ
theorem WJ (T:iP K mg t):hV P w K mg base io 33 t.a_q42 t.d_q42 ["run","bound","rounds","numbers"] (iY K yX) :=
 cV (lq T.q42.F NM λ_ _ _ _ _ _ hr=>ii (lv 4 (vc (Qj T) T.q58 hr (gN (gK 0) (gN (gK 1) (gN (gK 2) gU)))) NM.nd) (ii (lz (oD (nG (vc (ZC T) T.q4 hr (gN (gK 0) (gN (gK 3) gU))))) (hG EC) ma) (ii (lz (oD (nG (gK 4))) (hG EC) ma) (ii (lv 5 (vc (YA T) T.q68 hr (gN (gK 0) (gN (gK 1) (gN (gK 2) gU)))) NM.nd) (hG (iy (nT (gK 5) (sQ (vc (zoJ T) T.q23 hr (gN (ic (gK 5) (rL gQ)) (gN (gK 3) (gN (gK 2) gU)))) (rO gQ) wg)))))))) rfl
theorem Mz:gR ["run","views","hand","at","parts"] ["run","views","hand","at"] (gO Na):=fO (by nofun)
abbrev aW:=gY CY (gP gC bW)
abbrev aj:=xa (xg (lh lj gy gA) (nJ aW)) (ib gZ gB gy) gp
abbrev eJ:=mM la (un iU gz)
def Mg:FS:=ik (AH 4 (sB 4 (iQ eJ (λ_=>Ga true) aj [3,2,0,1]))) (iZ (rq (gP gA (gP (sO pj (zp gB)) iB))))
def GF:List D->Option D:=iE 4 5 Mg
theorem znC (T:iP K mg t):hV P w K mg base io 4 t.a_q15 t.d_q15 ["run","views","hand","at"] (iY K GF) :=
 lq T.q15.F Mz λ_ _ _ _ _ _ hr=>ii (Br 4 (AX 4 rfl (cO Mz (fr:=["at","hand","run","views"]) (by nofun)) (pC rfl T.b_range (nS rfl T.b_len (gK 1))) (oW (by nofun) rfl (λcl C s H fp ω=>yJ (nN.b (mZ (nQ (lY hr) (gK 0) (gK 2)) (so (nG (vc (zvS T) T.q71 hr (gN (gK 3) (gN (gK 0) (gN (gK 2) (gN (gK 1) gU))))))))) (ic (gK 4) (gK 0)) oH)) Mz.nd)) (hG (iy (oC (gN (gK 2) (gN (Ay rfl T.b_tuple (PV.sh (gK 4))) gU)))))
theorem NX:gR ["run","views","at","up"] ["run","views","at"] (gO Np):=fO (by nofun)
abbrev ax:=xa (lh Al gy gC) (gY GF (gP gA (gP gB dr))) gp
def Nu:FS:=ik (iH 3 bL) (iZ (mL (iQ eJ (λ_=>Ga true) ax [2,0,3,1])))
def Fq:List D->Option D:=iE 3 4 Nu
theorem zmJ (T:iP K mg t):hV P w K mg base io 5 t.a_q8 t.d_q8 ["run","views","at"] (iY K Fq) :=
 lq T.q8.F NX λ_ _ _ _ _ _ hr=>ii (lv 3 (PO.v (ss (Bj T) (hr.mono (by decide)) T.q32.m T.q32.F.kp T.q32.b (gN (gK 0) (gN (gK 2) gU)))) NX.nd) (hG (iy (PO.v (oO rfl (cO NX (fr:=["at","run","up","views"]) (by nofun)) (pC rfl T.b_range (nS rfl T.b_len (gK 1))) (oW (by nofun) rfl (λcl C s H fp ω=>yJ (UV (lY hr) (gK 0) (gK 3)) (vc (znC T) T.q15 hr (gN (gK 2) (gN (gK 4) (gN (gK 0) (gN (gK 1) gU))))) oH))))))
theorem CQ:gR ["run","rounds","views","at"] ["run","rounds"] (gO HX):=fO (by nofun)
abbrev ee:=ib gZ gz gb
abbrev aR:=rq (gP gy (gP (ib gZ ee gy) iB))
abbrev bc:=iH 2 (gY Fq bU)
def Oe:FS:=ik (AH 2 (sB 2 (iQ (mM la (gY pk ft)) (λ_=>Ga true) aR [0]))) (ik (mS (yu oh fZ dL) (mf 3) bc) (iZ gA))
def CD:List D->Option D:=iE 2 4 Oe
theorem WP (T:iP K mg t):hV P w K mg base io 6 t.a_q54 t.d_q54 ["run","rounds"] (iY K CD) :=
 lq T.q54.F CQ λ_ _ _ _ _ _ hr=>ii (Br 2 (AX 2 rfl (cO CQ (fr:=["run"]) (by nofun)) (pC rfl T.b_range (vc (Bq T) T.q25 hr (gN (gK 0) gU))) (oW (by nofun) rfl (λcl C s H fp ω=>oC (gN (gK 0) (gN (ic (ic (gK 1) gQ) (gK 0)) gU)))) CQ.nd)) (ii (nz PassesOwn.never rfl (DI rfl T.b_range gQ (nT (gK 1) gQ)) (mD 3 CQ.nd) (hG (lv 2 (vc (zmJ T) T.q8 hr (gN (gK 0) (gN (gK 2) (gN (gK 3) gU)))) CQ.nd))) (hG (iy (gK 2))))
theorem zq1:gR ["view"] ["view"] (gO Nz):=fO (by nofun)
def Om:FS:=iZ (ib gZ dR dQ)
def Aa:List D->Option D:=iE 1 1 Om
theorem IB (T:iP K mg t):hV P w K mg base io 1 t.a_q50 t.d_q50 ["view"] (iY K Aa) :=
 lq T.q50.F zq1 λ_ _ _ _ _ _ hr=>hG (iy (ic (ic (gK 0) gQ) (ic (gK 0) gQ)))
theorem Gu:gR ["view","rounds"] ["view"] (gO NN):=fO (by nofun)
abbrev dD:=gY Aa ft
abbrev cR:=iH 0 dD
abbrev cY:=iH 1 dL
abbrev aJ:=ik cR cY
abbrev bY:=un gc dR
abbrev bI:=nJ bY
def Ol:FS:=ik (iH 1 gb) (ik (mI bI aJ 100) (iZ gz))
def pf:List D->Option D:=iE 1 2 Ol
theorem zO (T:iP K mg t):hV P w K mg base io 2 t.a_q36 t.d_q36 ["view"] (iY K pf) :=
 lq T.q36.F Gu λ_ _ _ _ _ _ hr=>ii (lv 1 gQ Gu.nd) (ii (Sj 100 PassesOwn.never (nG (ww (T:="tuple") (by decide) rfl T.b_isinstance rfl T.b_tuple boot_tuple (ic (gK 0) gQ))) (ii (lv 0 (vc (IB T) T.q50 hr (gN (gK 0) gU)) Gu.nd) (hG (lv 1 (nT (gK 1) gQ) Gu.nd)))) (hG (iy (gK 1))))
theorem Kj:gR ["view","rounds","step"] ["view","rounds"] (gO Kz):=fO (by nofun)
def Hv:FS:=ik (mS (mM la (ib lP (gY pf ft) gz)) gw cR) (iZ gy)
def Aq:List D->Option D:=iE 2 3 Hv
theorem Po (T:iP K mg t):hV P w K mg base io 3 t.a_q53 t.d_q53 ["view","rounds"] (iY K Aq) :=
 lq T.q53.F Kj λ_ _ _ _ _ _ hr=>ii (nz PassesOwn.never rfl (pC rfl T.b_range (sj (vc (zO T) T.q36 hr (gN (gK 0) gU)) (gK 1))) (mD 2 Kj.nd) (hG (lv 0 (vc (IB T) T.q50 hr (gN (gK 0) gU)) Kj.nd))) (hG (iy (gK 0)))
theorem Fx:gR ["views","parts","view","part"] ["views"] (gO MR):=fO (by nofun)
abbrev eh:=ib gZ gA fZ
abbrev dk:=ng eh
abbrev em:=lh mm gC gp
def LI:FS:=ik (Mt 1) (ik (mS (ng gy) gw (mS dk (mf 3) (mV em (AL 1 gC) nE))) (Eo 1 (iZ (mL (mM wH gz)))))
def FM:List D->Option D:=iE 1 4 LI
theorem zq2 (T:iP K mg t):hV P w K mg base io 1 t.a_q52 t.d_q52 ["views"] (iY K FM) :=
 lq T.q52.F Fx λ_ _ _ _ _ _ hr=>ii (WA 1 Fx.nd) (ii (nz PassesOwn.never rfl (nq (gK 0)) (mD 2 Fx.nd) (hG (nz PassesOwn.never rfl (nq (ic (gK 2) gQ)) (mD 3 Fx.nd) (hG (lz (CU (gK 3) oH) (hG (ZD 1 (lY hr) (gK 3))) ma))))) (hG (DP 1 (iy (PO.v (Xx rfl rfl T.b_list (gK 1)))))))
theorem Ii:gR ["view","layers","step"] ["view"] (gO KH):=fO (by nofun)
abbrev bp:=gY FM (gP (Dw (gl 1) eW) iB)
def NP:FS:=ik (sB 1 (gP (mL ft) iB)) (ik (mS (mM la (gY pf ft)) gw (yA 1 bp)) (iZ (mL (Ct (gl 1)))))
def yR:List D->Option D:=iE 1 3 NP
theorem QH (T:iP K mg t):hV P w K mg base io 3 t.a_q30 t.d_q30 ["view"] (iY K yR) :=
 lq T.q30.F Ii λ_ _ _ _ _ _ hr=>ii (wt 1 (rH (gN (PO.v (rH (gN (gK 0) gU))) gU)) Ii.nd) (ii (nz PassesOwn.never rfl (pC rfl T.b_range (vc (zO T) T.q36 hr (gN (gK 0) gU))) (mD 2 Ii.nd) (hG (yn 1 (vc (zq2 T) T.q52 hr (gN (xi (sN 1) (rL gQ)) gU))))) (hG (iy (PO.v (KU rfl rfl T.b_list rfl T.b_reversed (sN 1))))))
theorem ZG:gR ["view"] ["view"] (gO MS):=fO (by nofun)
abbrev dE:=gY yR ft
abbrev bH:=ib gZ dE gb
abbrev br:=zp bH
def NB:FS:=iZ (mL (Cs br))
def FX:List D->Option D:=iE 1 1 NB
theorem zvZ (T:iP K mg t):hV P w K mg base io 4 t.a_q73 t.d_q73 ["view"] (iY K FX) :=
 lq T.q73.F ZG λ_ _ _ _ _ _ hr=>hG (iy (PO.v (zz2 rfl T.b_sorted (PV.sh (ic (vc (QH T) T.q30 hr (gN (gK 0) gU)) gQ)))))
theorem Qd:gR ["view"] ["view"] (gO Iq):=fO (by nofun)
abbrev de:=ng (gY FX ft)
def Hs:FS:=iZ (sO yf (iQ de (λ_=>Ga true) dR []))
def AY:List D->Option D:=iE 1 1 Hs
theorem znD (T:iP K mg t):hV P w K mg base io 5 t.a_q19 t.d_q19 ["view"] (iY K AY) :=
 lq T.q19.F Qd λ_ _ _ _ _ _ hr=>hG (iy (Wv rfl rfl T.b_min (PO.sh (oO rfl (cO Qd (fr:=[]) (by nofun)) (nq (vc (zvZ T) T.q73 hr (gN (gK 0) gU))) (oW (by nofun) rfl (λcl C s H fp ω=>ic (gK 0) gQ))))))
theorem MZ:gR ["view","parts"] ["view"] (gO KP):=fO (by nofun)
abbrev cB:=lh mm (ib gZ gz gy) gp
abbrev df:=iH 1 dR
def Nv:FS:=ik df (iZ (gY wz (gP (mL (iQ eJ cB gy [1])) iB)))
def Bt:List D->Option D:=iE 1 2 Nv
theorem QJ (T:iP K mg t):hV P w K mg base io 3 t.a_q48 t.d_q48 ["view"] (iY K Bt) :=
 lq T.q48.F MZ λ_ _ _ _ _ _ hr=>ii (lv 1 (ic (gK 0) gQ) MZ.nd) (hG (iy (vc (GC T) T.q60 hr (gN (PO.v (oO rfl (cO MZ (fr:=["parts"]) (by nofun)) (pC rfl T.b_range (nS rfl T.b_len (gK 1))) (rA (by nofun) rfl (λcl C s H fp ω=>CU (ic (gK 1) (gK 0)) oH) (λcl C s H fp ω=>gK 0)))) gU))))
theorem LM:gR ["view","parts"] ["view"] (gO Li):=fO (by nofun)
abbrev cE:=lh oB (ib gZ gz gy) gp
def HF:FS:=ik df (iZ (gY wz (gP (mL (iQ eJ cE gy [1])) iB)))
def zS:List D->Option D:=iE 1 2 HF
theorem SM (T:iP K mg t):hV P w K mg base io 3 t.a_q27 t.d_q27 ["view"] (iY K zS) :=
 lq T.q27.F LM λ_ _ _ _ _ _ hr=>ii (lv 1 (ic (gK 0) gQ) LM.nd) (hG (iy (vc (GC T) T.q60 hr (gN (PO.v (oO rfl (cO LM (fr:=["parts"]) (by nofun)) (pC rfl T.b_range (nS rfl T.b_len (gK 1))) (rA (by nofun) rfl (λcl C s H fp ω=>zH (ic (gK 1) (gK 0)) oH) (λcl C s H fp ω=>gK 0)))) gU))))
theorem Sg:gR ["view","rounds"] ["view"] (gO Ll):=fO (by nofun)
abbrev dM:=lh lj gz gb
def Io:FS:=ik (iH 1 (gY pf ft)) (ik (mV dM eO nE) (ik (mV (lh lj gz fZ) (iZ (ib lj (gY zS ft) gb)) nE) (iZ (ib lj (gY Bt ft) (gY Bt (gP dD iB))))))
def yh:List D->Option D:=iE 1 2 Io
theorem PY (T:iP K mg t):hV P w K mg base io 4 t.a_q56 t.d_q56 ["view"] (iY K yh) :=
 lq T.q56.F Sg λ_ _ _ _ _ _ hr=>ii (lv 1 (vc (zO T) T.q36 hr (gN (gK 0) gU)) Sg.nd) (ii (lz (nQ (lY hr) (gK 1) gQ) (hG (iy (oi))) ma) (ii (lz (nQ (lY hr) (gK 1) gQ) (hG (iy (xo (lY hr) (vc (SM T) T.q27 hr (gN (gK 0) gU)) gQ))) ma) (hG (iy (xo (lY hr) (vc (QJ T) T.q48 hr (gN (gK 0) gU)) (vc (QJ T) T.q48 hr (gN (vc (IB T) T.q50 hr (gN (gK 0) gU)) gU)))))))
theorem DC:gR ["view","rounds","mask","layer","contained"] ["view","rounds"] (gO IE):=fO (by nofun)
abbrev cq:=ib Af gA (gY zS fv)
abbrev bF:=iH 2 cq
abbrev dg:=se dL
def HK:FS:=ik (iH 2 gb) (ik (mS (ng (zM dE fg dg)) (mf 3) (mS (ng gC) (mf 4) bF)) (iZ gA))
def wQ:List D->Option D:=iE 2 5 HK
theorem Zg (T:iP K mg t):hV P w K mg base io 4 t.a_q64 t.d_q64 ["view","rounds"] (iY K wQ) :=
 lq T.q64.F DC λ_ _ _ _ _ _ hr=>ii (lv 2 gQ DC.nd) (ii (nz PassesOwn.never rfl (nq (sQ (vc (QH T) T.q30 hr (gN (gK 0) gU)) (rO gQ) (rO (nT (gK 1) gQ)))) (mD 3 DC.nd) (hG (nz PassesOwn.never rfl (nq (gK 3)) (mD 4 DC.nd) (hG (lv 2 (Rt (gK 2) (vc (SM T) T.q27 hr (gN (gK 4) gU))) DC.nd))))) (hG (iy (gK 2))))
theorem Hj:gR ["rule","view","rounds","number"] ["rule","view"] (gO Op):=fO (by nofun)
def XJ (c:iz)(φ:D->Option D):FS:=ik (mS (mM la (ib lr (gY pf fk) fZ)) gw (ik (iH 3 (oQ 0 c φ (gY Aq dw))) (mV em (iZ (rq dt)) nE))) fB
def BE (c:iz)(φ:D->Option D):List D->Option D:=rR 0 2 4 c (XJ c φ)
theorem VY (T:iP K mg t){c:iz}{φ:D->Option D}(hC:mY P w K mg base 9 c φ):hV P w K mg base io 10 t.a_q37 t.d_q37 ["rule","view"] (wC K 0 c (BE c φ)) :=
 yZ T.q37.F Hj (by decide) λ_ _ _ _ _ _ hr=>ii (nz PassesOwn.never rfl (pC rfl T.b_range (nT (vc (zO T) T.q36 hr (gN (gK 1) gU)) gQ)) (mD 2 Hj.nd) (ii (lv 3 (QA 0 hC (hr.mono (by decide)) (vc (Po T) T.q53 hr (gN (gK 1) (gN (gK 2) gU)))) Hj.nd) (hG (lz (CU (gK 3) oH) (hG (iy (oC (gN (gK 2) (gN (gK 3) gU))))) ma)))) (hG (iy oH))
theorem Qo:gR ["rule","view","choice"] ["rule","view"] (gO NQ):=fO (by nofun)
def zq4 (c:iz)(φ:D->Option D):FS:=ik (iH 2 (lF 0 c (BE c φ) fk)) (iZ (xa (lh oB gA gp) gp eh))
def AF (c:iz)(φ:D->Option D):List D->Option D:=rR 0 2 3 c (zq4 c φ)
theorem VB (T:iP K mg t){c:iz}{φ:D->Option D}(hC:mY P w K mg base 9 c φ):hV P w K mg base io 11 t.a_q40 t.d_q40 ["rule","view"] (wC K 0 c (AF c φ)) :=
 yZ T.q40.F Qo (by decide) λ_ _ _ _ _ _ hr=>ii (lv 2 (yo 0 (VY T hC) (hr.mono (by decide)) T.q37.m T.q37.F.kp T.q37.b (gN (gK 1) gU)) Qo.nd) (hG (iy (yJ (zH (gK 2) oH) oH (ic (gK 2) gQ))))
theorem MO:gR ["rule","run","rounds","views"] ["rule","run","rounds"] (gO HM):=fO (by nofun)
def WI (c:iz)(φ:D->Option D):FS:=ik (iH 3 (gY CD dw)) (iZ (mL (iQ (ng (mL (oz sJ dw))) (λ_=>Ga true) (rq (gP gy (gP (lF 1 c (AF c φ) (gP (ib gZ gA gy) iB)) iB))) [0,3])))
def nu (c:iz)(φ:D->Option D):List D->Option D:=rR 0 3 4 c (WI c φ)
theorem GI (T:iP K mg t){c:iz}{φ:D->Option D}(hC:mY P w K mg base 9 c φ):hV P w K mg base io 12 t.a_q62 t.d_q62 ["rule","run","rounds"] (wC K 0 c (nu c φ)) :=
 yZ T.q62.F MO (by decide) λ_ _ _ _ _ _ hr=>ii (lv 3 (vc (WP T) T.q54 hr (gN (gK 1) (gN (gK 2) gU))) MO.nd) (hG (iy (PO.v (oO rfl (cO MO (fr:=["rule","views"]) (by nofun)) (nq (PO.v (ss (Bj T) (hr.mono (by decide)) T.q32.m T.q32.F.kp T.q32.b (gN (gK 1) (gN (gK 2) gU))))) (oW (by nofun) rfl (λcl C s H fp ω=>oC (gN (gK 0) (gN (yo 1 (VB T hC) (hr.mono (by decide)) T.q40.m T.q40.F.kp T.q40.b (gN (ic (gK 2) (gK 0)) gU)) gU))))))))
theorem RP:gR ["told","number"] ["told","number"] (gO Kv):=fO (by nofun)
abbrev bZ:=gW lj dC gz
def Mi:FS:=lL (pF su (iQ (oN gy) (λ_=>Ga true) bZ [1]))
def oM:List D->Option D:=iE 2 2 Mi
theorem RG (T:iP K mg t):hV P w K mg base io 1 t.a_q46 t.d_q46 ["told","number"] (iY K oM) :=
 cV (lq T.q46.F RP λ_ _ _ _ _ _ hr=>hG (iy (KY rfl rfl T.b_all (PO.sh (oO rfl (cO RP (fr:=["number"]) (by nofun)) (nq (gK 0)) (oW (by nofun) rfl (λcl C s H fp ω=>xo (lY hr) (ic (gK 0) gQ) (gK 1)))))))) rfl
theorem Os:gR ["run","told","unlike"] ["run","told"] (gO MX):=fO (by nofun)
abbrev gq:=jE "torn"
abbrev dF:=gW gZ gz fU
abbrev bC:=gW gZ dF fV
abbrev aB:=lI lR dC bC
def NW:FS:=gT (Dk 2 (wx 2 (iQ (oN gz) aB dB [1]))) (lL (ol (gX (me (.str gq)) (gX gy (gX (gW gZ dF fU) (gX (gW gZ gA fU) lD))))))
def sT:List D->Option D:=iE 2 3 NW
theorem RB (T:iP K mg t):hV P w K mg base io 1 t.a_q59 t.d_q59 ["run","told"] (iY K sT) :=
 cV (lq T.q59.F Os λ_ _ _ _ _ _ hr=>ii (Br 2 (AX 2 rfl (cO Os (fr:=["told"]) (by nofun)) (nq (gK 1)) (rA (by nofun) rfl (λcl C s H fp ω=>rS (lY hr) (ic (gK 0) gQ) (ic (ic (gK 1) gQ) gQ)) (λcl C s H fp ω=>ic (gK 0) gQ)) Os.nd)) (hG (iy (oC (gN Ff (gN (gK 0) (gN (ic (ic (gK 1) gQ) gQ) (gN (ic (gK 2) gQ) gU)))))))) rfl
theorem Uj:gR ["told","number"] ["told","number"] (gO Ko):=fO (by nofun)
abbrev gn:=me .none
abbrev ay:=zT (lI mm dC gn) (lI lR dC gz)
def Mq:FS:=lL (nZ (iQ (oN gy) ay dB [1]))
def yT:List D->Option D:=iE 2 2 Mq
theorem Wa (T:iP K mg t):hV P w K mg base io 1 t.a_q31 t.d_q31 ["told","number"] (iY K yT) :=
 cV (lq T.q31.F Uj λ_ _ _ _ _ _ hr=>hG (iy (PO.v (oO rfl (cO Uj (fr:=["number"]) (by nofun)) (nq (gK 0)) (rA (by nofun) rfl (λcl C s H fp ω=>nN.b (CL (CU (ic (gK 0) gQ) oH) (Ds (rS (lY hr) (ic (gK 0) gQ) (gK 1))))) (λcl C s H fp ω=>ic (gK 0) gQ)))))) rfl
theorem BD:gR ["rule","chain","number","rounds","low","high","middle"] ["rule","chain","number","rounds"] (gO Ml):=fO (by nofun)
def ztL (c:iz)(φ:D->Option D):FS:=ik (iH 4 gb) (ik (iH 5 (ib lP (un iU gz) fZ)) (ik (mI (lh pM (ib lP gD gB) fZ) (ik (iH 6 (ib nw (ib lr gB gD) ga)) (mV (nJ (gY oM (gP (lF 0 c (nu c φ) (gP (ib gZ gz gH) fu)) fq))) (iH 4 gH) (iH 5 gH))) 100) (iZ (gY sT (gP (ib gZ gz gD) (gP (lF 0 c (nu c φ) (gP (ib gZ gz gD) fu)) iB))))))
def An (c:iz)(φ:D->Option D):List D->Option D:=rR 0 4 7 c (ztL c φ)
theorem Ym (T:iP K mg t){c:iz}{φ:D->Option D}(hC:mY P w K mg base 9 c φ):hV P w K mg base io 13 t.a_q63 t.d_q63 ["rule","chain","number","rounds"] (wC K 0 c (An c φ)) :=
 yZ T.q63.F BD (by decide) λ_ _ _ _ _ _ hr=>ii (lv 4 gQ BD.nd) (ii (lv 5 (sj (nS rfl T.b_len (gK 1)) gQ) BD.nd) (ii (Sj 100 PassesOwn.never (tD (sj (gK 5) (gK 4)) gQ) (ii (lv 6 (Bl (nT (gK 4) (gK 5)) gQ) BD.nd) (hG (lz (nG (vc (RG T) T.q46 hr (gN (yo 0 (GI T hC) (hr.mono (by decide)) T.q62.m T.q62.F.kp T.q62.b (gN (ic (gK 1) (gK 6)) (gN (gK 3) gU))) (gN (gK 2) gU)))) (hG (lv 4 (gK 6) BD.nd)) (hG (lv 5 (gK 6) BD.nd)))))) (hG (iy (vc (RB T) T.q59 hr (gN (ic (gK 1) (gK 5)) (gN (yo 0 (GI T hC) (hr.mono (by decide)) T.q62.m T.q62.F.kp T.q62.b (gN (ic (gK 1) (gK 5)) (gN (gK 3) gU))) gU)))))))
theorem Dq:gR ["rule","run","bound","rounds","number","other","chain","hands"] ["rule","run","bound","rounds","number"] (gO Kg):=fO (by nofun)
abbrev ge:=jE "strange"
abbrev cZ:=ib gZ gH eW
def zoL (c:iz)(φ:D->Option D):FS:=ik (iH 5 (xa (lh lj gB gb) fZ gb)) (ik (iH 6 (gY yX (gP gz (gP gA (gP gC (gP (sO pj (iQ (mM la (gY pk fk)) (λ_=>Ga true) gz [5])) iB)))))) (ik (iH 7 (gY yT (gP (lF 0 c (nu c φ) (gP cZ fu)) fw))) (ik (mV (lh pM (un iU gF) gb) (iZ (rq (gP (iO (.str ge)) (gP cZ (gP (ib gZ gF gb) iB))))) nE) (iZ (lF 0 c (An c φ) (gP gH (gP gB fu)))))))
def zu (c:iz)(φ:D->Option D):List D->Option D:=rR 0 5 8 c (zoL c φ)
theorem YJ (T:iP K mg t){c:iz}{φ:D->Option D}(hC:mY P w K mg base 9 c φ):hV P w K mg base io 34 t.a_q14 t.d_q14 ["rule","run","bound","rounds","number"] (wC K 0 c (zu c φ)) :=
 yZ T.q14.F Dq (by decide) λ_ _ _ _ _ _ hr=>ii (lv 5 (yJ (nQ (lY hr) (gK 4) gQ) gQ gQ) Dq.nd) (ii (lv 6 (vc (WJ T) T.q42 hr (gN (gK 1) (gN (gK 2) (gN (gK 3) (gN (Ay rfl T.b_tuple (PO.sh (oO rfl (cO Dq (fr:=["other"]) (by nofun)) (pC rfl T.b_range (vc (Bq T) T.q25 hr (gN (gK 1) gU))) (oW (by nofun) rfl (λcl C s H fp ω=>gK 1))))) gU))))) Dq.nd) (ii (lv 7 (vc (Wa T) T.q31 hr (gN (yo 0 (GI T hC) (hr.mono (by decide)) T.q62.m T.q62.F.kp T.q62.b (gN (ic (gK 6) (rL gQ)) (gN (gK 3) gU))) (gN (gK 5) gU))) Dq.nd) (ii (lz (tD (nS rfl T.b_len (gK 7)) gQ) (hG (iy (oC (gN Ff (gN (ic (gK 6) (rL gQ)) (gN (ic (gK 7) gQ) gU)))))) ma) (hG (iy (yo 0 (Ym T hC) (hr.mono (by decide)) T.q63.m T.q63.F.kp T.q63.b (gN (gK 6) (gN (gK 4) (gN (gK 3) gU)))))))))
theorem Kt:gR ["rule","run","bound","rounds","told","number"] ["rule","run","bound","rounds"] (gO MW):=fO (by nofun)
def VN (c:iz)(φ:D->Option D):FS:=ik (mV (rz (nJ (gY tH bX))) (Eb) nE) (ik (iH 4 (lF 0 c (nu c φ) (gP gz fu))) (ik (iH 5 (ib gZ dZ fZ)) (ik (mV (rz (nJ (gY oM (gP gB fw)))) (iZ (gY sT du)) nE) (ik (mV (lh oB gD gp) fB nE) (iZ (lF 0 c (zu c φ) (gP gz (gP gA (gP gC fw)))))))))
def zq (c:iz)(φ:D->Option D):List D->Option D:=rR 0 4 6 c (VN c φ)
theorem ZQ (T:iP K mg t){c:iz}{φ:D->Option D}(hC:mY P w K mg base 9 c φ):hV P w K mg base io 35 t.a_q65 t.d_q65 ["rule","run","bound","rounds"] (wC K 0 c (zq c φ)) :=
 yZ T.q65.F Kt (by decide) λ_ _ _ _ _ _ hr=>ii (lz (oD (nG (vc (Qj T) T.q58 hr (gN (gK 1) (gN (gK 2) (gN (gK 3) gU)))))) (hG EC) ma) (ii (lv 4 (yo 0 (GI T hC) (hr.mono (by decide)) T.q62.m T.q62.F.kp T.q62.b (gN (gK 1) (gN (gK 3) gU))) Kt.nd) (ii (lv 5 (ic (ic (gK 4) gQ) gQ) Kt.nd) (ii (lz (oD (nG (vc (RG T) T.q46 hr (gN (gK 4) (gN (gK 5) gU))))) (hG (iy (vc (RB T) T.q59 hr (gN (gK 1) (gN (gK 4) gU))))) ma) (ii (lz (zH (gK 5) oH) (hG (iy oH)) ma) (hG (iy (yo 0 (YJ T hC) (hr.mono (by decide)) T.q14.m T.q14.F.kp T.q14.b (gN (gK 1) (gN (gK 2) (gN (gK 3) (gN (gK 5) gU)))))))))))
theorem Pq:gR ["view"] ["view"] (gO LU):=fO (by nofun)
abbrev eA:=gX gz fA
abbrev aU:=nW iU (nZ (pL rD (gX (ig wQ eA) lD)))
abbrev aF:=gW lP aU gy
def Ku:FS:=lL (pF tm (Et (gW lr (nZ (gX fU lD)) (nZ (iQ (FR oh fV (ig pf fA)) (λ_=>Ga true) aF [0])))))
def Az:List D->Option D:=iE 1 1 Ku
theorem XD (T:iP K mg t):hV P w K mg base io 5 t.a_q26 t.d_q26 ["view"] (iY K Az) :=
 cV (lq T.q26.F Pq λ_ _ _ _ _ _ hr=>hG (iy (Pr rfl rfl T.b_max (PV.sh (nT (PO.v (rH (gN gQ gU))) (PO.v (oO rfl (cO Pq (fr:=["view"]) (by nofun)) (DI rfl T.b_range gQ (vc (zO T) T.q36 hr (gN (gK 0) gU))) (oW (by nofun) rfl (λcl C s H fp ω=>sj (nS rfl T.b_len (PO.v (ss (Qy T) (hr.mono (by decide)) T.q43.m T.q43.F.kp T.q43.b (gN (vc (Zg T) T.q64 hr (gN (gK 1) (gN (gK 0) gU))) gU)))) (gK 0)))))))))) rfl
theorem zj1:gR ["view","bound"] ["view","bound"] (gO Hw):=fO (by nofun)
def Mn:FS:=lL (gW Ae (ig pf fA) dz)
def wa:List D->Option D:=iE 2 2 Mn
theorem Fc (T:iP K mg t):hV P w K mg base io 3 t.a_q5 t.d_q5 ["view","bound"] (iY K wa) :=
 cV (lq T.q5.F zj1 λ_ _ _ _ _ _ hr=>hG (iy (Uu (vc (zO T) T.q36 hr (gN (gK 0) gU)) (nT (gK 1) gQ)))) rfl
theorem Pz:gR ["view"] ["view"] (gO LA):=fO (by nofun)
abbrev bR:=gX (ig Aq eA) (lD)
def IL:FS:=lL (pF Co (iQ (FR oh fV (ig pf fA)) (λ_=>Ga true) (ig yh bR) [0]))
def Ah:List D->Option D:=iE 1 1 IL
theorem zpP (T:iP K mg t):hV P w K mg base io 5 t.a_q33 t.d_q33 ["view"] (iY K Ah) :=
 cV (lq T.q33.F Pz λ_ _ _ _ _ _ hr=>hG (iy (zGk rfl rfl T.b_any (PO.sh (oO rfl (cO Pz (fr:=["view"]) (by nofun)) (DI rfl T.b_range gQ (vc (zO T) T.q36 hr (gN (gK 0) gU))) (oW (by nofun) rfl (λcl C s H fp ω=>vc (PY T) T.q56 hr (gN (vc (Po T) T.q53 hr (gN (gK 1) (gN (gK 0) gU))) gU)))))))) rfl
theorem Yi:gR ["tells","view"] ["tells","view"] (gO Kp):=fO (by nofun)
def Ma:FS:=lL (Cn (lE gy) (ig AY fC) gn)
def we:List D->Option D:=iE 2 2 Ma
theorem Gn (T:iP K mg t):hV P w K mg base io 6 t.a_q21 t.d_q21 ["tells","view"] (iY K we) :=
 cV (lq T.q21.F Yi λ_ _ _ _ _ _ hr=>hG (iy (yJ (nG (gK 0)) (vc (znD T) T.q19 hr (gN (gK 1) gU)) oH))) rfl
theorem zv1:gR ["view","bound"] ["view","bound"] (gO Kn):=fO (by nofun)
def Oo:FS:=lL (ig we (gX (ig wa dU) fA))
def AV:List D->Option D:=iE 2 2 Oo
theorem zv2 (T:iP K mg t):hV P w K mg base io 7 t.a_q70 t.d_q70 ["view","bound"] (iY K AV) :=
 cV (lq T.q70.F zv1 λ_ _ _ _ _ _ hr=>hG (iy (vc (Gn T) T.q21 hr (gN (vc (Fc T) T.q5 hr (gN (gK 0) (gN (gK 1) gU))) (gN (gK 0) gU))))) rfl
theorem zyI:gR ["view","bound"] ["view","bound"] (gO NY):=fO (by nofun)
def LR:FS:=lL (ig we (gX (Es (ig wa dU) (ig yh fA)) fA))
def Bp:List D->Option D:=iE 2 2 LR
theorem Xr (T:iP K mg t):hV P w K mg base io 7 t.a_q75 t.d_q75 ["view","bound"] (iY K Bp) :=
 cV (lq T.q75.F zyI λ_ _ _ _ _ _ hr=>hG (iy (vc (Gn T) T.q21 hr (gN (Ca (vc (Fc T) T.q5 hr (gN (gK 0) (gN (gK 1) gU))) (sK (vc (PY T) T.q56 hr (gN (gK 0) gU)))) (gN (gK 0) gU))))) rfl
theorem zyK:gR ["view","bound"] ["view","bound"] (gO Kb):=fO (by nofun)
def NS:FS:=lL (ig we (gX (Es (ig wa dU) (ig Ah fA)) fA))
def BL:List D->Option D:=iE 2 2 NS
theorem YZ (T:iP K mg t):hV P w K mg base io 7 t.a_q76 t.d_q76 ["view","bound"] (iY K BL) :=
 cV (lq T.q76.F zyK λ_ _ _ _ _ _ hr=>hG (iy (vc (Gn T) T.q21 hr (gN (Ca (vc (Fc T) T.q5 hr (gN (gK 0) (gN (gK 1) gU))) (sK (vc (zpP T) T.q33 hr (gN (gK 0) gU)))) (gN (gK 0) gU))))) rfl
theorem Yh:gR ["view","bound"] ["view","bound"] (gO Iu):=fO (by nofun)
def KS:FS:=lL (ig we (gX (ig wa (gX gy (gX (gW lP gz (ig Az fA)) lD))) fA))
def BI:List D->Option D:=iE 2 2 KS
theorem zq8 (T:iP K mg t):hV P w K mg base io 7 t.a_q49 t.d_q49 ["view","bound"] (iY K BI) :=
 cV (lq T.q49.F Yh λ_ _ _ _ _ _ hr=>hG (iy (vc (Gn T) T.q21 hr (gN (vc (Fc T) T.q5 hr (gN (gK 0) (gN (sj (gK 1) (vc (XD T) T.q26 hr (gN (gK 0) gU))) gU))) (gN (gK 0) gU))))) rfl
theorem ZR:gR ["script","k"] ["script","k"] (gO HB):=fO (by nofun)
def NV:FS:=gT (iI (lI pO gz fM) (lL (gW gZ gy gz)) iW) (lL fU)
def pX:List D->Option D:=iE 2 2 NV
theorem YI (T:iP K mg t):hV P w K mg base io 1 t.a_q18 t.d_q18 ["script","k"] (iY K pX) :=
 cV (lq T.q18.F ZR λ_ _ _ _ _ _ hr=>ii (lz (Ar (gK 1) (nS rfl T.b_len (gK 0))) (hG (iy (ic (gK 0) (gK 1)))) ma) (hG (iy gQ))) rfl
theorem Zb:gR ["found"] ["found"] (gO Ig):=fO (by nofun)
def KB:FS:=lL bo
def om:List D->Option D:=iE 1 1 KB
theorem DH (T:iP K mg t):hV P w K mg base io 1 t.a_q29 t.d_q29 ["found"] (iY K om) :=
 cV (lq T.q29.F Zb λ_ _ _ _ _ _ hr=>hG (iy (wP (ww (T:="int") (by decide) rfl T.b_isinstance rfl T.b_int boot_int (gK 0)) (sK (Nr (ww (T:="bool") (by decide) rfl T.b_isinstance rfl T.b_bool boot_bool (gK 0))))))) rfl
theorem RQ:gR ["number","k","mixed"] ["number","k"] (gO Oa):=fO (by nofun)
def Ht:FS:=gT (ly 2 (gW lQ (gW lr (gW nk gy (me (.int 48271))) (gW nk (gW nk gz gz) (me (.int 7919)))) (me (.int 2147483647)))) (lL (gW lQ (gW nk gA gA) (me (.int 2147483629))))
def yr:List D->Option D:=iE 2 3 Ht
theorem zpR (T:iP K mg t):hV P w K mg base io 1 t.a_q28 t.d_q28 ["number","k"] (iY K yr) :=
 cV (lq T.q28.F RQ λ_ _ _ _ _ _ hr=>ii (lv 2 (xn (nT (zX (gK 0) gQ) (zX (zX (gK 1) (gK 1)) gQ)) gQ) RQ.nd) (hG (iy (xn (zX (gK 2) (gK 2)) gQ)))) rfl
theorem CJ:gR ["before","ends","hand","at","parts","by","end","reached"] ["before","ends","hand","at"] (gO Nc):=fO (by nofun)
abbrev fX:=me (.int 4)
abbrev au:=nZ (gX fV (gX fT (gX fX (gX (me (.int 8)) (gX (me (.int 16)) lD)))))
abbrev ae:=lV (lI lj gD gA) (lV (lI pM gH gC) (zT (lI lj gH gC) (lI lj (gW lQ (gW nw gF (gW gZ au gA)) fT) fV)))
abbrev fW:=me (.int 9)
abbrev bN:=ol (gX fW (gX fU lD))
abbrev gs:=md 6
abbrev gu:=md 7
abbrev cS:=zJ (xJ gs (xJ gu Fu))
abbrev ao:=BH 1 (IW (IA zE gz gD bN) cS)
abbrev fG:=lL gn
abbrev gj:=wx 4 (lD)
def GH:FS:=gT (iI (lI rh (gW gZ (IA zE gz gA bN) fU) gC) fG iW) (gT gj (gT (nL (wl la fM) gr (gT ao (iI ae (oP 4 (gW gZ gy gD)) (oP 4 gn)))) (lL (ol (gX gA (gX (pF pj (gl 4)) lD))))))
def zx:List D->Option D:=iE 4 8 GH
theorem zq9 (T:iP K mg t):hV P w K mg base io 1 t.a_q47 t.d_q47 ["before","ends","hand","at"] (iY K zx) :=
 cV (lq T.q47.F CJ λ_ _ _ _ _ _ hr=>ii (lz (Ep (ic (PP (gK 1) (gK 2) (oC (gN gQ (gN gQ gU)))) gQ) (gK 3)) (hG (iy oH)) ma) (ii (wt 4 (rH gU) CJ.nd) (ii (nz PassesOwn.never rfl (pC rfl T.b_range (nS rfl T.b_len (gK 0))) (mD 5 CJ.nd) (ii (DP 1 (Qa (PP (gK 1) (gK 5) (oC (gN gQ (gN gQ gU)))) (FH rfl (wX (mD 6 CJ.nd) (wX (mD 7 CJ.nd) EV))))) (hG (lz (nN.b (mZ (nQ (lY hr) (gK 5) (gK 2)) (mZ (tD (gK 6) (gK 3)) (so (nN.b (CL (nQ (lY hr) (gK 6) (gK 3)) (Ds (nQ (lY hr) (xn (Bl (gK 7) (ic (PO.v (rH (gN gQ (gN gQ (gN gQ (gN gQ (gN gQ gU))))))) (gK 2))) gQ) gQ)))))))) (hG (yn 4 (ic (gK 0) (gK 5)))) (hG (yn 4 oH)))))) (hG (iy (oC (gN (gK 2) (gN (Ay rfl T.b_tuple (sN 4)) gU)))))))) rfl
theorem xO:gR ["run","rounds","ends","hand","at","reached","made"] ["run","rounds"] (gO Mp):=fO (by nofun)
abbrev aK:=gX db (gX gA dU)
abbrev aD:=ig zx aK
abbrev aS:=ol (gX gy (gX (gW gZ dF gy) lD))
abbrev cr:=xJ (md 3) (xJ (md 4) (xJ gr Fu))
abbrev bJ:=zJ cr
abbrev cL:=nW iU dB
abbrev bP:=wl la cL
abbrev fH:=gX gD (lD)
abbrev eB:=gX gB fH
abbrev bS:=xG 2 gC (ol eB)
def LF:FS:=gT (KM 2) (gT (nL dh bJ bS) (gT (wx 6 (gX (nZ (iQ bP (λ_=>Ga true) aS [0])) lD)) (gT (nL (FR oh fV dz) (md 4) (BH 2 (oP 6 (nZ (iQ bP (λ_=>Ga true) aD [4,2,6]))))) (Bv (go 6)))))
def yY:List D->Option D:=iE 2 7 LF
theorem zpS (T:iP K mg t):hV P w K mg base io 2 t.a_q41 t.d_q41 ["run","rounds"] (iY K yY) :=
 cV (lq T.q41.F xO λ_ _ _ _ _ _ hr=>ii (PC 2 xO.nd) (ii (nz PassesOwn.never rfl (nq (ic (gK 0) gQ)) (FH rfl (wX (mD 3 xO.nd) (wX (mD 4 xO.nd) (wX (mD 5 xO.nd) EV)))) (hG (SA 2 (gK 3) (oC (gN (gK 4) (gN (gK 5) gU)))))) (ii (wt 6 (rH (gN (PO.v (oO rfl (cO xO (fr:=["run"]) (by nofun)) (pC rfl T.b_range (nS rfl T.b_len (ic (gK 0) gQ))) (oW (by nofun) rfl (λcl C s H fp ω=>oC (gN (gK 0) (gN (ic (ic (gK 1) gQ) (gK 0)) gU)))))) gU)) xO.nd) (ii (nz PassesOwn.never rfl (DI rfl T.b_range gQ (nT (gK 1) gQ)) (mD 4 xO.nd) (hG (DP 2 (yn 6 (PO.v (oO rfl (cO xO (fr:=["at","ends","made"]) (by nofun)) (pC rfl T.b_range (nS rfl T.b_len (ic (gK 0) gQ))) (oW (by nofun) rfl (λcl C s H fp ω=>vc (zq9 T) T.q47 hr (gN (xi (sN 3) (rL gQ)) (gN (gK 2) (gN (gK 0) (gN (gK 1) gU)))))))))))) (hG (za 6)))))) rfl
theorem zm:gR ["run","many","most","number","last","fall","hand","at","reached"] ["run","many","most"] (gO Iw):=fO (by nofun)
abbrev fY:=me (.int 3)
abbrev aa:=iI (lV (lI rh gH gB) (lV (lI Ae gH gz) (lV (lI pO gF fV) (lV (lI pM gF (me (.int 5))) (lV (lI pO gG fU) (lI pM gG (gW gZ (nZ (gX fY (gX (me (.int 7)) (gX (me (.int 15)) (gX (me (.int 31)) lD))))) (gW lP gz fT)))))))) eM (iW)
abbrev fK:=gX gG (lD)
abbrev ag:=iI (lI lj (gW lQ (gW nw gG (gW gZ au gH)) fT) fV) eM (iW)
abbrev ar:=iI (lV (mP (lE (nW gc gD))) (lI lR (nW iU gD) fY)) eM (iW)
abbrev bf:=IW gD (zJ (xJ gs (xJ gu (xJ (md 8) Fu))))
abbrev fI:=gX gH (lD)
abbrev eT:=lL (me (.bool true))
abbrev fJ:=gX gF (lD)
abbrev gf:=ly 4 gH
def LJ:FS:=gT (iI (lV da (lV (lI lR fM fT) (lV (mP (lE (nW gc dB))) (mP (lE (nW gc dC)))))) eM iW) (gT (iI (lV (lI lR cL gz) (lI pM (nW iU dC) gA)) eM iW) (gT (nL (oN dB) (md 3) (iI (lV (mP (lE (ig om fE))) (lI Ae (nW Cq gC) cH)) eM iW)) (gT (ly 4 eQ) (gT (nL dh gr (gT ar (gT bf (gT (iI (lV (mP (lE (ig om fI))) (lV (mP (lE (ig om fJ))) (mP (lE (ig om fK))))) eM iW) (gT aa (gT ag gf)))))) eT))))
def yb:List D->Option D:=iE 3 9 LJ
theorem zrA (T:iP K mg t):hV P w K mg base io 2 t.a_q51 t.d_q51 ["run","many","most"] (iY K yb) :=
 cV (lq T.q51.F zm λ_ _ _ _ _ _ hr=>ii (lz (nN.b (mZ (oD (nG (ww (T:="tuple") (by decide) rfl T.b_isinstance rfl T.b_tuple boot_tuple (gK 0)))) (mZ (rS (lY hr) (nS rfl T.b_len (gK 0)) gQ) (mZ (oD (nG (ww (T:="tuple") (by decide) rfl T.b_isinstance rfl T.b_tuple boot_tuple (ic (gK 0) gQ)))) (so (oD (nG (ww (T:="tuple") (by decide) rfl T.b_isinstance rfl T.b_tuple boot_tuple (ic (gK 0) gQ))))))))) (hG (iy (oi))) ma) (ii (lz (nN.b (mZ (rS (lY hr) (nS rfl T.b_len (ic (gK 0) gQ)) (gK 1)) (so (tD (nS rfl T.b_len (ic (gK 0) gQ)) (gK 2))))) (hG (iy (oi))) ma) (ii (nz PassesOwn.never rfl (nq (ic (gK 0) gQ)) (mD 3 zm.nd) (hG (lz (nN.b (mZ (oD (nG (vc (DH T) T.q29 hr (gN (gK 3) gU)))) (so (LP (XO rfl T.b_abs (gK 3)) (Dc gQ gQ))))) (hG (iy (oi))) ma))) (ii (lv 4 (rL gQ) zm.nd) (ii (nz PassesOwn.never rfl (nq (ic (gK 0) gQ)) (mD 5 zm.nd) (ii (lz (nN.b (mZ (oD (nG (ww (T:="tuple") (by decide) rfl T.b_isinstance rfl T.b_tuple boot_tuple (gK 5)))) (so (rS (lY hr) (nS rfl T.b_len (gK 5)) gQ)))) (hG (iy (oi))) ma) (ii (Qa (gK 5) (FH rfl (wX (mD 6 zm.nd) (wX (mD 7 zm.nd) (wX (mD 8 zm.nd) EV))))) (ii (lz (nN.b (mZ (oD (nG (vc (DH T) T.q29 hr (gN (gK 6) gU)))) (mZ (oD (nG (vc (DH T) T.q29 hr (gN (gK 7) gU)))) (so (oD (nG (vc (DH T) T.q29 hr (gN (gK 8) gU)))))))) (hG (iy (oi))) ma) (ii (lz (nN.b (mZ (Ep (gK 6) (gK 4)) (mZ (LP (gK 6) (gK 1)) (mZ (Ar (gK 7) gQ) (mZ (tD (gK 7) gQ) (mZ (Ar (gK 8) gQ) (so (tD (gK 8) (ic (PO.v (rH (gN gQ (gN gQ (gN gQ (gN gQ gU)))))) (sj (gK 1) gQ)))))))))) (hG (iy (oi))) ma) (ii (lz (nQ (lY hr) (xn (Bl (gK 8) (ic (PO.v (rH (gN gQ (gN gQ (gN gQ (gN gQ (gN gQ gU))))))) (gK 6))) gQ) gQ) (hG (iy (oi))) ma) (hG (lv 4 (gK 6) zm.nd)))))))) (hG (iy (oi)))))))) rfl
theorem AB:gR ["rule","run","rounds","made","told","hand","number","views"] ["rule","run","rounds"] (gO Ny):=fO (by nofun)
def ZM (c:iz)(φ:D->Option D):FS:=ik (iH 3 (gY yY dw)) (ik (sB 4 iB) (ik (mS (mM la (un iU ee)) (mf 5) (mV (lh mm (ib gZ (ib gZ gC gA) gD) gp) (ik (iH 6 gp) (ik (mS (ng gC) (mf 7) (mV (lh oB gH gp) (iH 6 (oQ 0 c φ (ib gZ gF gD))) nE)) (yA 4 (rq (gP gD (gP gH iB)))))) nE)) (xF (go 4))))
def yS (c:iz)(φ:D->Option D):List D->Option D:=rR 0 3 8 c (ZM c φ)
theorem zrB (T:iP K mg t){c:iz}{φ:D->Option D}(hC:mY P w K mg base 9 c φ):hV P w K mg base io 10 t.a_q45 t.d_q45 ["rule","run","rounds"] (wC K 0 c (yS c φ)) :=
 yZ T.q45.F AB (by decide) λ_ _ _ _ _ _ hr=>ii (lv 3 (vc (zpS T) T.q41 hr (gN (gK 1) (gN (gK 2) gU))) AB.nd) (ii (wt 4 (rH gU) AB.nd) (ii (nz PassesOwn.never rfl (pC rfl T.b_range (nS rfl T.b_len (ic (gK 1) gQ))) (mD 5 AB.nd) (hG (lz (CU (ic (ic (gK 3) (gK 2)) (gK 5)) oH) (ii (lv 6 oH AB.nd) (ii (nz PassesOwn.never rfl (nq (gK 3)) (mD 7 AB.nd) (hG (lz (zH (gK 6) oH) (hG (lv 6 (QA 0 hC (hr.mono (by decide)) (ic (gK 7) (gK 5))) AB.nd)) ma))) (hG (yn 4 (oC (gN (gK 5) (gN (gK 6) gU))))))) ma))) (hG (za 4))))
theorem Bk:gR ["found","rule","many","bound","rounds","told","hand","number","first"] ["found","rule","many","bound","rounds"] (gO Lf):=fO (by nofun)
abbrev bK:=ib gZ dR gb
abbrev eC:=ib gZ gy ga
abbrev cu:=ib yz gD eC
abbrev gh:=iO (.int 3)
abbrev eD:=ib gZ gy gh
abbrev fj:=xG 5 gH gF
abbrev fR:=un iU gy
def zpT (c:iz)(φ:D->Option D):FS:=ik (mV (xg (rz (nJ (un gc gy))) (xg (lh pO fR gh) (rz (nJ (gY yb (gP dR dt)))))) eO nE) (ik (LD 5) (ik (mS (ng (lF 1 c (yS c φ) (gP dR fv))) (Km (tR (mf 6) (tR (mf 7) (Cr)))) fj) (ik (mS (ng (zM gy (se ga) (EN))) (mf 6) (mV (xg (rz (nJ (gY om (gP gH iB)))) (lh tw gH gD)) eO nE)) (ik (mV (NT (lh lj dQ (iO (.str gq))) (lh lj fR (iO (.int 4)))) (Eo 5 (iZ (tS (ib pO eC eD) (ib lR cu (ib yz gD eD))))) nE) (ik (mV (xg (lh lR dQ (iO (.str ge))) (lh lR fR gh)) eO nE) (ik (iH 8 (ib gZ bK gb)) (Eo 5 (iZ (tS (ib lj bK (ib tj (rq (gP gG iB)) gA)) (tS (ib mm cu gp) (ib lR cu gG)))))))))))
def Au (c:iz)(φ:D->Option D):List D->Option D:=rR 1 5 9 c (zpT c φ)
theorem zoO (T:iP K mg t){c:iz}{φ:D->Option D}(hC:mY P w K mg base 9 c φ):hV P w K mg base io 11 t.a_q22 t.d_q22 ["found","rule","many","bound","rounds"] (wC K 1 c (Au c φ)) :=
 yZ T.q22.F Bk (by decide) λ_ _ _ _ _ _ hr=>ii (lz (nN.b (mZ (oD (nG (ww (T:="tuple") (by decide) rfl T.b_isinstance rfl T.b_tuple boot_tuple (gK 0)))) (mZ (Ar (nS rfl T.b_len (gK 0)) gQ) (so (oD (nG (vc (zrA T) T.q51 hr (gN (ic (gK 0) gQ) (gN (gK 2) (gN (gK 3) gU)))))))))) (hG (iy (oi))) ma) (ii (PC 5 Bk.nd) (ii (nz PassesOwn.never rfl (nq (yo 1 (zrB T hC) (hr.mono (by decide)) T.q45.m T.q45.F.kp T.q45.b (gN (ic (gK 0) gQ) (gN (gK 4) gU)))) (FH rfl (wX (mD 6 Bk.nd) (wX (mD 7 Bk.nd) EV))) (hG (SA 5 (gK 6) (gK 7)))) (ii (nz PassesOwn.never rfl (nq (sQ (gK 0) (rO gQ) wg)) (mD 6 Bk.nd) (hG (lz (nN.b (mZ (oD (nG (vc (DH T) T.q29 hr (gN (gK 6) gU)))) (so (zEb (gK 6) (gK 5))))) (hG (iy (oi))) ma))) (ii (lz (nN.b (CL (nQ (lY hr) (ic (gK 0) gQ) Ff) (Ds (nQ (lY hr) (nS rfl T.b_len (gK 0)) gQ)))) (hG (DP 5 (iy (wP (DY (ic (gK 0) gQ) (ic (gK 0) gQ)) (sK (Eg (lY hr) (Fk (gK 5) (ic (gK 0) gQ)) (Fk (gK 5) (ic (gK 0) gQ)))))))) ma) (ii (lz (nN.b (mZ (rS (lY hr) (ic (gK 0) gQ) Ff) (so (rS (lY hr) (nS rfl T.b_len (gK 0)) gQ)))) (hG (iy (oi))) ma) (ii (lv 8 (ic (ic (ic (gK 0) gQ) gQ) gQ) Bk.nd) (hG (DP 5 (iy (wP (xo (lY hr) (ic (ic (gK 0) gQ) gQ) (zE7 (oC (gN (gK 8) gU)) (gK 2))) (wP (zDY (Fk (gK 5) (ic (gK 0) gQ)) oH) (sK (Eg (lY hr) (Fk (gK 5) (ic (gK 0) gQ)) (gK 8))))))))))))))
theorem XI:gR ["view","way","bound"] ["view","way","bound"] (gO Kd):=fO (by nofun)
abbrev dN:=lI lj gz fU
abbrev dO:=lI lj gz fV
def Hz:FS:=gT (iI dN (lL (ig AV dY)) iW) (gT (iI dO (lL (ig Bp dY)) iW) (gT (iI (lI lj gz fT) (lL (ig BL dY)) iW) (lL (ig BI dY))))
def sg:List D->Option D:=iE 3 3 Hz
theorem RU (T:iP K mg t):hV P w K mg base io 8 t.a_q6 t.d_q6 ["view","way","bound"] (iY K sg) :=
 cV (lq T.q6.F XI λ_ _ _ _ _ _ hr=>ii (lz (nQ (lY hr) (gK 1) gQ) (hG (iy (vc (zv2 T) T.q70 hr (gN (gK 0) (gN (gK 2) gU))))) ma) (ii (lz (nQ (lY hr) (gK 1) gQ) (hG (iy (vc (Xr T) T.q75 hr (gN (gK 0) (gN (gK 2) gU))))) ma) (ii (lz (nQ (lY hr) (gK 1) gQ) (hG (iy (vc (YZ T) T.q76 hr (gN (gK 0) (gN (gK 2) gU))))) ma) (hG (iy (vc (zq8 T) T.q49 hr (gN (gK 0) (gN (gK 2) gU)))))))) rfl
theorem tN:gR ["script","k","mixed","many","numbers","j","run","found","lesser","way",".t"] ["script"] (gO AE):=fO (by nofun)
def SK:Scope:={ kind:=.function,names:=[(jE "view",.local),(jE "lesser",.free),(jE "way",.free),(jE "_law_told_rule",.globalImplicit)],isGenerator:=false,isCoroutine:=false,more:=[] }
theorem zv3:wJ "view" ["lesser","way"] SK:=⟨rfl,rfl,rfl,by nofun,rfl,by nofun,by nofun,by nofun⟩
theorem Pn:∀ y∈SK.names,y.2=.free->(gO AE).names.lookup y.1=Ga .cell\/(gO AE).names.lookup y.1=Ga .free:=by nofun
theorem zsL:∀ (j i:Nat) (y:Str),([8,9]:List Nat)[j]?=Ga i->(["lesser","way"]:List Str)[j]?=Ga y->(["script","k","mixed","many","numbers","j","run","found","lesser","way",".t"]:List Str)[i]?=Ga y:=λj i y h1 h2=>(by
  match j,h1,h2 with
  | 0,h1,h2=>cases h1;cases h2;rfl
  | 1,h1,h2=>cases h1;cases h2;rfl
  | j+2,h1,h2=>simp at h1)
def Qi:Scope:={ kind:=.function,names:=[(jE "seen",.local),(jE "lesser",.free),(jE "way",.free),(jE "_law_told_rule",.globalImplicit)],isGenerator:=false,isCoroutine:=false,more:=[] }
theorem zv4:wJ "seen" ["lesser","way"] Qi:=⟨rfl,rfl,rfl,by nofun,rfl,by nofun,by nofun,by nofun⟩
theorem Tx:∀ y∈Qi.names,y.2=.free->(gO AE).names.lookup y.1=Ga .cell\/(gO AE).names.lookup y.1=Ga .free:=by nofun
theorem zsM:∀ (j i:Nat) (y:Str),([8,9]:List Nat)[j]?=Ga i->(["lesser","way"]:List Str)[j]?=Ga y->(["script","k","mixed","many","numbers","j","run","found","lesser","way",".t"]:List Str)[i]?=Ga y:=λj i y h1 h2=>(by
  match j,h1,h2 with
  | 0,h1,h2=>cases h1;cases h2;rfl
  | 1,h1,h2=>cases h1;cases h2;rfl
  | j+2,h1,h2=>simp at h1)
abbrev dP:=ib lP gC ga
abbrev aO:=gP dP (gP (ib lr gG fZ) iB)
abbrev cT:=ib sC (iO (.int 10)) (iO (.int 59))
def zDg (mk:(D->Option D)->iz)(Pt:Gj):FS:=ik (mS (Ov wD gb (ib wM (iO (.int 63)) fR) (iO (.int 9))) (mf 1) (ik (iH 2 (gY yr (gP (sO xt (zp (zM gy (se gz) (se (ib lr gz (iO (.int 9))))))) fk))) (ik (iH 3 gh) (ik (mV (NT dM (lh lj (ib lQ gA ga) gb)) (iH 3 (iO (.int 4))) nE) (ik (sB 4 iB) (ik (mS (mM la gC) (mf 5) (yA 4 (ib lP (ib lQ (gY pX (gP gy (gP (ib lr gz (ib nk gD (ib lQ (ib lQ (ib nw gA ga) gh) ga))) iB))) (ib nk ga cT)) cT))) (ik (iH 8 (ib lQ (ib nw gA (iO (.int 6))) dP)) (ik (iH 9 (ib lQ (ib nw gA (iO (.int 12))) (iO (.int 4)))) (ik (iH 6 (rq (gP (sO pj (gl 4)) (gP (rq iB) iB)))) (ik (iH 7 (pW 10 Pt mk (gY sg bW) zq [8,9] (gP gH aO))) (mV (rz (nJ (pW 10 Pt mk (gY sg bW) Au [8,9] (gP gF (gP gC aO))))) eO nE))))))))))) (iZ (iO (.bool true)))
def zlS (mk:(D->Option D)->iz)(Pt:Gj):List D->Option D:=Av 1 11 Pt (zDg mk Pt)
theorem zAH (T:iP K mg t):hV P w K mg base io 36 t.a_q77 t.d_q77 ["script"] (spT K t.Pt (zlS (yI P w K mg base 9) t.Pt)) :=
 okT T.q77.F T.lam_cd tN (by decide) (by decide) λ_ _ _ _ _ hr=>ii (nz PassesOwn.never rfl (zD7 rfl T.b_range gQ (zD6 rfl rfl T.b_min gQ (nS rfl T.b_len (gK 0))) gQ) (mD 1 tN.nd) (ii (lv 2 (vc (zpR T) T.q28 hr (gN (XF rfl rfl T.b_sum (PV.sh (sQ (gK 0) (rO (gK 1)) (rO (nT (gK 1) gQ))))) (gN (gK 1) gU))) tN.nd) (ii (lv 3 gQ tN.nd) (ii (lz (nN.b (CL (nQ (lY hr) (gK 1) gQ) (Ds (nQ (lY hr) (xn (gK 2) gQ) gQ)))) (hG (lv 3 gQ tN.nd)) ma) (ii (wt 4 (rH gU) tN.nd) (ii (nz PassesOwn.never rfl (pC rfl T.b_range (gK 3)) (mD 5 tN.nd) (hG (yn 4 (sj (xn (vc (YI T) T.q18 hr (gN (gK 0) (gN (nT (gK 1) (zX (gK 5) (xn (xn (Bl (gK 2) gQ) gQ) gQ))) gU))) (zX gQ (Dc gQ gQ))) (Dc gQ gQ))))) (ii (lv 8 (xn (Bl (gK 2) gQ) (sj (gK 3) gQ)) tN.nd) (ii (lv 9 (xn (Bl (gK 2) gQ) gQ) tN.nd) (ii (lv 6 (oC (gN (Ay rfl T.b_tuple (sN 4)) (gN (oC gU) gU))) tN.nd) (ii (lv 7 (OX 10 (kl:=8) zv3 Pn (by nofun) (λ_=>rfl) rfl zsL (λ_ _ _ _ _ _ _=>rfl) (λqual fl cdl cl A outer s H hr=>vc (RU T) T.q6 hr (gN (gK 0) (gN (gK 2) (gN (gK 1) gU)))) (λφ=>ZQ T (Tk P w K mg base (8+1) φ)) (hr.mono (by decide)) T.q65.m T.q65.F.kp T.q65.b (QD ⟨rfl,λh Y=>v5 Y T.lam_hd,T.lam_bm⟩ Pn (by nofun) (gN (gK 6) (gN (sj (gK 3) gQ) (gN (nT (gK 8) gQ) gU))))) tN.nd) (hG (lz (oD (nG (OX 10 (kl:=8) zv4 Tx (by nofun) (λ_=>rfl) rfl zsM (λ_ _ _ _ _ _ _=>rfl) (λqual fl cdl cl A outer s H hr=>vc (RU T) T.q6 hr (gN (gK 0) (gN (gK 2) (gN (gK 1) gU)))) (λφ=>zoO T (Tk P w K mg base (8+1) φ)) (hr.mono (by decide)) T.q22.m T.q22.F.kp T.q22.b (Zi (gK 7) (QD ⟨rfl,λh Y=>v5 Y T.lam_hd,T.lam_bm⟩ Tx (by nofun) (gN (gK 3) (gN (sj (gK 3) gQ) (gN (nT (gK 8) gQ) gU)))))))) (hG (iy (oi))) ma)))))))))))) (hG (iy (oi)))
set_option autoImplicit true in
theorem zE8 {K:jb}{mg:Str->Option Gg}{h:Heap}(X:K.In h)(G:h.Ns mainGlobals mg) (w_q57:iK K "is_whole" HZ cd_q57 a_q57 d_q57) (w_q67:iK K "bit_of" Nl cd_q67 a_q67 d_q67) (w_q55:iK K "has_hand" MB cd_q55 a_q55 d_q55) (w_q60:iK K "mask_of" Ia cd_q60 a_q60 d_q60) (w_q43:iK K "hands_in" LQ cd_q43 a_q43 d_q43) (w_q34:iK K "is_number" Nt cd_q34 a_q34 d_q34) (w_q20:iK K "are_numbers" HL cd_q20 a_q20 d_q20) (w_q25:iK K "many_hands" Iy cd_q25 a_q25 d_q25) (w_q61:iK K "fall_of" HP cd_q61 a_q61 d_q61) (w_q11:iK K "without_fall" MQ cd_q11 a_q11 d_q11) (w_q39:iK K "with_fall" MT cd_q39 a_q39 d_q39) (w_q13:iK K "with_number" Ka cd_q13 a_q13 d_q13) (w_q69:iK K "is_up" IC cd_q69 a_q69 d_q69) (w_q32:iK K "who_is_up" Nx cd_q32 a_q32 d_q32) (w_q71:iK K "comes" Hq cd_q71 a_q71 d_q71) (w_q72:iK K "keeps" Ou cd_q72 a_q72 d_q72) (w_q2:iK K "with_reach_turned" Ip cd_q2 a_q2 d_q2) (w_q0:iK K "changed_while_hushed" KN cd_q0 a_q0 d_q0) (w_q66:iK K "hushed" KQ cd_q66 a_q66 d_q66) (w_q35:iK K "all_heard" Mv cd_q35 a_q35 d_q35) (w_q10:iK K "is_found_out" KC cd_q10 a_q10 d_q10) (w_q38:iK K "found_out" IV cd_q38 a_q38 d_q38) (w_q44:iK K "waste_of" NF cd_q44 a_q44 d_q44) (w_q7:iK K "closing_round" Lh cd_q7 a_q7 d_q7) (w_q58:iK K "is_open" KF cd_q58 a_q58 d_q58) (w_q1:iK K "without_late_falls" Mc cd_q1 a_q1 d_q1) (w_q16:iK K "heard_falls" Nf cd_q16 a_q16 d_q16) (w_q17:iK K "fallen_next" Ky cd_q17 a_q17 d_q17) (w_q3:iK K "with_heard_next" HA cd_q3 a_q3 d_q3) (w_q74:iK K "risen" MJ cd_q74 a_q74 d_q74) (w_q12:iK K "heard_healed" Ot cd_q12 a_q12 d_q12) (w_q24:iK K "made_heard" IX cd_q24 a_q24 d_q24) (w_q9:iK K "round_healed" NU cd_q9 a_q9 d_q9) (w_q68:iK K "healed" MF cd_q68 a_q68 d_q68) (w_q23:iK K "renumbered" Nm cd_q23 a_q23 d_q23) (w_q4:iK K "are_numbers_for" KZ cd_q4 a_q4 d_q4) (w_q42:iK K "chain_of" Ix cd_q42 a_q42 d_q42) (w_q15:iK K "view_behind" Na cd_q15 a_q15 d_q15) (w_q8:iK K "views_behind" Np cd_q8 a_q8 d_q8) (w_q54:iK K "views_of" HX cd_q54 a_q54 d_q54) (w_q50:iK K "own_part" Nz cd_q50 a_q50 d_q50) (w_q36:iK K "rounds_of" NN cd_q36 a_q36 d_q36) (w_q53:iK K "own_past" Kz cd_q53 a_q53 d_q53) (w_q52:iK K "parts_of" MR cd_q52 a_q52 d_q52) (w_q30:iK K "layers_of" KH cd_q30 a_q30 d_q30) (w_q73:iK K "known" MS cd_q73 a_q73 d_q73) (w_q19:iK K "least_known" Iq cd_q19 a_q19 d_q19) (w_q48:iK K "heard_of" KP cd_q48 a_q48 d_q48) (w_q27:iK K "missing_in" Li cd_q27 a_q27 d_q27) (w_q56:iK K "is_clean" Ll cd_q56 a_q56 d_q56) (w_q64:iK K "lacking" IE cd_q64 a_q64 d_q64) (w_q37:iK K "choice_by" Op cd_q37 a_q37 d_q37) (w_q40:iK K "number_by" NQ cd_q40 a_q40 d_q40) (w_q62:iK K "told_by" HM cd_q62 a_q62 d_q62) (w_q46:iK K "all_told" Kv cd_q46 a_q46 d_q46) (w_q59:iK K "torn_in" MX cd_q59 a_q59 d_q59) (w_q31:iK K "strangers" Ko cd_q31 a_q31 d_q31) (w_q63:iK K "torn_on" Ml cd_q63 a_q63 d_q63) (w_q14:iK K "broken_from" Kg cd_q14 a_q14 d_q14) (w_q65:iK K "broken" MW cd_q65 a_q65 d_q65) (w_q26:iK K "waste_seen" LU cd_q26 a_q26 d_q26) (w_q5:iK K "is_behind_bound" Hw cd_q5 a_q5 d_q5) (w_q33:iK K "was_clean" LA cd_q33 a_q33 d_q33) (w_q21:iK K "least_where" Kp cd_q21 a_q21 d_q21) (w_q70:iK K "plain" Kn cd_q70 a_q70 d_q70) (w_q75:iK K "soon" NY cd_q75 a_q75 d_q75) (w_q76:iK K "sure" Kb cd_q76 a_q76 d_q76) (w_q49:iK K "together" Iu cd_q49 a_q49 d_q49) (w_q18:iK K "_law_cell_at" HB cd_q18 a_q18 d_q18) (w_q29:iK K "_law_whole" Ig cd_q29 a_q29 d_q29) (w_q28:iK K "_law_mixed" Oa cd_q28 a_q28 d_q28) (w_q47:iK K "_law_view" Nc cd_q47 a_q47 d_q47) (w_q41:iK K "_law_views" Mp cd_q41 a_q41 d_q41) (w_q51:iK K "_law_good" Iw cd_q51 a_q51 d_q51) (w_q45:iK K "_law_told" Ny cd_q45 a_q45 d_q45) (w_q22:iK K "_law_breaks" Lf cd_q22 a_q22 d_q22) (w_q6:iK K "_law_told_rule" Kd cd_q6 a_q6 d_q6) (w_q77:iK K "law" AE cd_q77 a_q77 d_q77) (z_abs:kb K mainGlobals "abs"=Ga Gb) (z_all:kb K mainGlobals "all"=Ga Gb) (z_any:kb K mainGlobals "any"=Ga Gb) (z_bool:kb K mainGlobals "bool"=Ga Gb) (z_int:kb K mainGlobals "int"=Ga Gb) (z_isinstance:kb K mainGlobals "isinstance"=Ga Gb) (z_len:kb K mainGlobals "len"=Ga Gb) (z_list:kb K mainGlobals "list"=Ga Gb) (z_max:kb K mainGlobals "max"=Ga Gb) (z_min:kb K mainGlobals "min"=Ga Gb) (z_range:kb K mainGlobals "range"=Ga Gb) (z_reversed:kb K mainGlobals "reversed"=Ga Gb) (z_sorted:kb K mainGlobals "sorted"=Ga Gb) (z_sum:kb K mainGlobals "sum"=Ga Gb) (z_tuple:kb K mainGlobals "tuple"=Ga Gb) {k_LAST_ROUND} (c_LAST_ROUND:kb K mainGlobals "LAST_ROUND"=Ga (Ga (.int 5 k_LAST_ROUND))) {k_LEAST_HANDS} (c_LEAST_HANDS:kb K mainGlobals "LEAST_HANDS"=Ga (Ga (.int 2 k_LEAST_HANDS))) {k_MOST_HANDS} (c_MOST_HANDS:kb K mainGlobals "MOST_HANDS"=Ga (Ga (.int 5 k_MOST_HANDS))) {c0 Pt bm:Gj} {slm:Array (Option Gg)} (l_1:cd_q77=.ref c0) (l_2:qB K c0 Pt=true) (l_3:kb K mainGlobals "__builtins__"=Ga (Ga (.ref bm))) (l_4:K.lookup bm=Ga ⟨.type "module",Ga builtinsNs,.plain,slm⟩) (l_5:bm≠builtinsNs) (l_6:bm≠mainGlobals) : ∃ t,iP K mg t/\t.Pt=Pt/\t.a_q77=a_q77/\∀ (s:Gh) (v:Gg),BindsTo s t.d_q77 ⟨[v],[]⟩ [("script",v)]:=by
 exact⟨⟨a_q57,d_q57,a_q67,d_q67,a_q55,d_q55,a_q60,d_q60,a_q43,d_q43,a_q34,d_q34,a_q20,d_q20,a_q25,d_q25,a_q61,d_q61,a_q11,d_q11,a_q39,d_q39,a_q13,d_q13,a_q69,d_q69,a_q32,d_q32,a_q71,d_q71,a_q72,d_q72,a_q2,d_q2,a_q0,d_q0,a_q66,d_q66,a_q35,d_q35,a_q10,d_q10,a_q38,d_q38,a_q44,d_q44,a_q7,d_q7,a_q58,d_q58,a_q1,d_q1,a_q16,d_q16,a_q17,d_q17,a_q3,d_q3,a_q74,d_q74,a_q12,d_q12,a_q24,d_q24,a_q9,d_q9,a_q68,d_q68,a_q23,d_q23,a_q4,d_q4,a_q42,d_q42,a_q15,d_q15,a_q8,d_q8,a_q54,d_q54,a_q50,d_q50,a_q36,d_q36,a_q53,d_q53,a_q52,d_q52,a_q30,d_q30,a_q73,d_q73,a_q19,d_q19,a_q48,d_q48,a_q27,d_q27,a_q56,d_q56,a_q64,d_q64,a_q37,d_q37,a_q40,d_q40,a_q62,d_q62,a_q46,d_q46,a_q59,d_q59,a_q31,d_q31,a_q63,d_q63,a_q14,d_q14,a_q65,d_q65,a_q26,d_q26,a_q5,d_q5,a_q33,d_q33,a_q21,d_q21,a_q70,d_q70,a_q75,d_q75,a_q76,d_q76,a_q49,d_q49,a_q18,d_q18,a_q29,d_q29,a_q28,d_q28,a_q47,d_q47,a_q41,d_q41,a_q51,d_q51,a_q45,d_q45,a_q22,d_q22,a_q6,d_q6,a_q77,d_q77,c0,Pt⟩,⟨iT X G w_q57,iT X G w_q67,iT X G w_q55,iT X G w_q60,iT X G w_q43,iT X G w_q34,iT X G w_q20,iT X G w_q25,iT X G w_q61,iT X G w_q11,iT X G w_q39,iT X G w_q13,iT X G w_q69,iT X G w_q32,iT X G w_q71,iT X G w_q72,iT X G w_q2,iT X G w_q0,iT X G w_q66,iT X G w_q35,iT X G w_q10,iT X G w_q38,iT X G w_q44,iT X G w_q7,iT X G w_q58,iT X G w_q1,iT X G w_q16,iT X G w_q17,iT X G w_q3,iT X G w_q74,iT X G w_q12,iT X G w_q24,iT X G w_q9,iT X G w_q68,iT X G w_q23,iT X G w_q4,iT X G w_q42,iT X G w_q15,iT X G w_q8,iT X G w_q54,iT X G w_q50,iT X G w_q36,iT X G w_q53,iT X G w_q52,iT X G w_q30,iT X G w_q73,iT X G w_q19,iT X G w_q48,iT X G w_q27,iT X G w_q56,iT X G w_q64,iT X G w_q37,iT X G w_q40,iT X G w_q62,iT X G w_q46,iT X G w_q59,iT X G w_q31,iT X G w_q63,iT X G w_q14,iT X G w_q65,iT X G w_q26,iT X G w_q5,iT X G w_q33,iT X G w_q21,iT X G w_q70,iT X G w_q75,iT X G w_q76,iT X G w_q49,iT X G w_q18,iT X G w_q29,iT X G w_q28,iT X G w_q47,iT X G w_q41,iT X G w_q51,iT X G w_q45,iT X G w_q22,iT X G w_q6,iT X G w_q77,j6 X G z_abs,j6 X G z_all,j6 X G z_any,j6 X G z_bool,j6 X G z_int,j6 X G z_isinstance,j6 X G z_len,j6 X G z_list,j6 X G z_max,j6 X G z_min,j6 X G z_range,j6 X G z_reversed,j6 X G z_sorted,j6 X G z_sum,j6 X G z_tuple,w_q77.code.trans l_1,l_2,⟨bm,_,vU X G l_3,l_5,l_6,l_4,rfl,rfl,rfl⟩,⟨_,vU X G c_LAST_ROUND⟩,⟨_,vU X G c_LEAST_HANDS⟩,⟨_,vU X G c_MOST_HANDS⟩⟩,rfl,rfl,w_q77.bt (Q:=λfd=>∀ (s:Gh) (v:Gg),BindsTo s fd ⟨[v],[]⟩ [("script",v)]) λ_ _ _ _ _ _ _ _=>.of_eq rfl⟩
theorem zE9 {l:Program}{w:World}{K:jb}{mg:Str->Option Gg}{h:Heap}{fa a Pt:Gj}(X:K.In h)(G:h.Ns mainGlobals mg)(hmg:mg "law"=Ga (.ref fa))
  (z:∃ t,iP K mg t/\t.Pt=Pt/\t.a_q77=a/\∀ (s:Gh) (v:Gg),BindsTo s t.d_q77 ⟨[v],[]⟩ [("script",v)]) :
  ∃ fd:Gi,(∀ (s:Gh) (v:Gg),BindsTo s fd ⟨[v],[]⟩ [("script",v)])/\∀ base:Heap,K.In base->base.Ns mainGlobals mg->hV l w K mg base io 36 fa fd ["script"] (λvs H Q E=>∀ mk,spT K Pt (zlS mk Pt) vs H Q E):=by
 obtain⟨t,T,rfl,_,hb⟩:=z;have e:=hmg.symm.trans T.q77.m;cases e;exact⟨t.d_q77,hb,λbase _ _=>(zAH T).imp λvs H Q E h=>h _⟩
end
noncomputable section
open PySem PySem.Spec PyProof.Rows L2 T3
theorem VX (x0:D):yW [x0]=hJ (My [.val x0]):=rfl
theorem zpU (x0:D):BC [x0]=hJ (ML [.val x0]):=rfl
theorem znI (x0:D):Bh [x0]=hJ (Kk [.val x0]):=rfl
theorem zmK (x0 x1:D):DJ [x0,x1]=hJ (Lo [.val x0,.val x1]):=rfl
theorem Wi (x0 x1 x2 x3:D):xT [x0,x1,x2,x3]=hJ (Hl [.val x0,.val x1,.val x2,.val x3,.no]):=rfl
theorem znJ (x0 x1 x2:D):wd [x0,x1,x2]=hJ (Nd [.val x0,.val x1,.val x2,.no]):=rfl
theorem ziH (x0 x1 x2:D):yU [x0,x1,x2]=hJ (Kh [.val x0,.val x1,.val x2,.no]):=rfl
abbrev fL:=gX gB (lD)
abbrev cM:=gX gA (gX gC fL)
def MG (pb:List D->Option (List D)):FS:=lL (gW lr (nZ (pL pb (gX gy cM))) (nZ (QO (pL pb (gX gz cM)))))
abbrev bG:=gX (gW lr gA fV) fE
abbrev eE:=gX gz fL
abbrev eZ:=lI lR gy gz
def CM (pb:List D->Option (List D))(rg:List D->Option D):FS:=gT (iI (lI pM gA gC) (Bv fA) iW) (gT (Dk 5 (wx 5 (iQ (oN (nZ (pL sJ dY))) eZ gy [1]))) (gT (wx 6 (pL pb (gX gy (gX gz bG)))) (gT (oP 6 (ig xT (gX gy (gX gz (gX gA (gX (ig wz fH) lD)))))) (gT (nL (oN gD) (md 4) (gT (ly 7 (Ce (gl 6) eQ)) (gT (ly 8 (ig yU (gX gF eE))) (tU 6 (oI (ig rg (gX gF (gX gG (gX gB bG)))) fx oY))))) (Bv (go 6))))))
theorem Qb (n:Nat)(x0 x1 x2 x3:D):pb (n+1) [x0,x1,x2,x3]=rQ (CM (pb n) (rg n) [.val x0,.val x1,.val x2,.val x3,.no,.no,.no,.no,.no]):=rfl
theorem Ph (n:Nat)(x0 x1 x2 x3 x4:D):rg n [x0,x1,x2,x3,x4]=hJ (MG (pb n) [.val x0,.val x1,.val x2,.val x3,.val x4]):=rfl
theorem zh6 (x0 x1:D):zA [x0,x1]=hJ (MH [.val x0,.val x1]):=rfl
theorem znK (x0 x1:D):zy [x0,x1]=hJ (NL [.val x0,.val x1,.no]):=rfl
theorem zmL (x0 x1 x2:D):AO [x0,x1,x2]=rQ (HN [.val x0,.val x1,.val x2,.no,.no,.no]):=rfl
theorem zmM (x0 x1 x2:D):zv [x0,x1,x2]=hJ (LG [.val x0,.val x1,.val x2,.no,.no,.no]):=rfl
theorem ztN (x0 x1 x2:D):BM [x0,x1,x2]=hJ (Lg [.val x0,.val x1,.val x2,.no,.no,.no]):=rfl
theorem zoQ (x0 x1 x2:D):As [x0,x1,x2]=hJ (NK [.val x0,.val x1,.val x2,.no,.no,.no,.no]):=rfl
theorem VO (x0 x1:D):Ap [x0,x1]=hJ (Lz [.val x0,.val x1]):=rfl
theorem ZX (x0 x1 x2 x3:D):yX [x0,x1,x2,x3]=hJ (IJ [.val x0,.val x1,.val x2,.val x3,.no,.no]):=rfl
def Pd:FS:=gT (ly 1 (ig pf fA)) (gT (iI dN eM iW) (gT (iI dO (lL (gW lj (ig zS fA) fU)) iW) (lL (gW lj (ig Bt fA) (ig Bt (gX (ig Aa fA) lD))))))
theorem zrE (x0:D):yh [x0]=hJ (Pd [.val x0,.no]):=rfl
abbrev aL:=iI (lI mm gC gn) (lL (ol dW)) (iW)
def Qk (c:iz)(φ:D->Option D):FS:=gT (nL (wl la (gW lr (ig pf fC) fV)) (md 2) (gT (ly 3 (oQ 0 c φ (ig Aq ed))) aL)) fG
theorem zpW (c:iz)(φ:D->Option D)(x0:D):BE c φ [x0]=hJ (Qk c φ [.fn c,.val x0,.no,.no]):=rfl
abbrev aM:=lL (Cn (lI oB gA gn) gn (gW gZ gA fV))
def Qz (c:iz)(φ:D->Option D):FS:=gT (ly 2 (lF 0 c (BE c φ) fC)) aM
theorem zpX (c:iz)(φ:D->Option D)(x0:D):AF c φ [x0]=hJ (Qz c φ [.fn c,.val x0,.no]):=rfl
abbrev dy:=gX (gW gZ gA gy) (lD)
def Rf (c:iz)(φ:D->Option D):FS:=gT (ly 3 (ig CD ed)) (lL (nZ (iQ (oN (nZ (pL sJ ed))) (λ_=>Ga true) (ol (gX gy (gX (lF 1 c (AF c φ) dy) lD))) [0,3])))
theorem Wj (c:iz)(φ:D->Option D)(x0 x1:D):nu c φ [x0,x1]=hJ (Rf c φ [.fn c,.val x0,.val x1,.no]):=rfl
theorem zrF (x0 x1:D):oM [x0,x1]=hJ (Mi [.val x0,.val x1]):=rfl
theorem zsO (x0 x1:D):sT [x0,x1]=hJ (NW [.val x0,.val x1,.no]):=rfl
theorem YW (x0 x1:D):yT [x0,x1]=hJ (Mq [.val x0,.val x1]):=rfl
abbrev bB:=ly 6 (gW nw (gW lr gB gD) fT)
abbrev cb:=lI pM (gW lP gD gB) fV
abbrev cw:=gX (gW gZ gz gH) fE
abbrev gi:=ly 5 gH
def TF (c:iz)(φ:D->Option D):FS:=gT (ly 4 fU) (gT (ly 5 (gW lP (nW iU gz) fV)) (gT (mI cb (gT bB (iI (lE (ig oM (gX (lF 0 c (nu c φ) cw) fF))) gf gi)) 100) (lL (ig sT (gX (gW gZ gz gD) (gX (lF 0 c (nu c φ) (gX (gW gZ gz gD) fE)) lD))))))
theorem YB (c:iz)(φ:D->Option D)(x0 x1 x2:D):An c φ [x0,x1,x2]=hJ (TF c φ [.fn c,.val x0,.val x1,.val x2,.no,.no,.no]):=rfl
abbrev eL:=me (.str ge)
abbrev cN:=gW gZ gH eQ
def SE (c:iz)(φ:D->Option D):FS:=gT (ly 5 (Cn (lI lj gB fU) fV fU)) (gT (ly 6 (ig yX (gX gz (gX gA (gX gC (gX (pF pj (iQ (wl la (ig pk fC)) (λ_=>Ga true) gz [5])) lD)))))) (gT (ly 7 (ig yT (gX (lF 0 c (nu c φ) (gX cN fE)) fH))) (gT (iI (lI pM (nW iU gF) fU) (lL (ol (gX eL (gX cN (gX (gW gZ gF fU) lD))))) iW) (lL (lF 0 c (An c φ) (gX gH (gX gB fE)))))))
theorem Xo (c:iz)(φ:D->Option D)(x0 x1 x2 x3:D):zu c φ [x0,x1,x2,x3]=hJ (SE c φ [.fn c,.val x0,.val x1,.val x2,.val x3,.no,.no,.no]):=rfl
def KO (c:iz)(φ:D->Option D):FS:=gT (iI (mP (lE (ig tH cJ))) Fm iW) (gT (ly 4 (lF 0 c (nu c φ) (gX gz fE))) (gT (ly 5 (gW gZ (gW gZ gB fU) fV)) (gT (iI (mP (lE (ig oM eB))) (lL (ig sT eE)) iW) (gT (iI (lI oB gD gn) fG iW) (lL (lF 0 c (zu c φ) (gX gz (gX gA (gX gC fH)))))))))
theorem PF (c:iz)(φ:D->Option D)(x0 x1 x2:D):zq c φ [x0,x1,x2]=hJ (KO c φ [.fn c,.val x0,.val x1,.val x2,.no,.no]):=rfl
theorem Xl (x0:D):Az [x0]=hJ (Ku [.val x0]):=rfl
theorem WU (x0 x1:D):wa [x0,x1]=hJ (Mn [.val x0,.val x1]):=rfl
theorem Wg (x0:D):Ah [x0]=hJ (IL [.val x0]):=rfl
theorem znM (x0 x1:D):we [x0,x1]=hJ (Ma [.val x0,.val x1]):=rfl
theorem zv5 (x0 x1:D):AV [x0,x1]=hJ (Oo [.val x0,.val x1]):=rfl
theorem zyM (x0 x1:D):Bp [x0,x1]=hJ (LR [.val x0,.val x1]):=rfl
theorem zyN (x0 x1:D):BL [x0,x1]=hJ (NS [.val x0,.val x1]):=rfl
theorem zrG (x0 x1:D):BI [x0,x1]=hJ (KS [.val x0,.val x1]):=rfl
theorem znN (x0 x1:D):pX [x0,x1]=hJ (NV [.val x0,.val x1]):=rfl
theorem zp0 (x0:D):om [x0]=hJ (KB [.val x0]):=rfl
theorem zp1 (x0 x1:D):yr [x0,x1]=hJ (Ht [.val x0,.val x1,.no]):=rfl
theorem TJ (x0 x1 x2 x3:D):zx [x0,x1,x2,x3]=hJ (GH [.val x0,.val x1,.val x2,.val x3,.no,.no,.no,.no]):=rfl
theorem Xp (x0 x1:D):yY [x0,x1]=hJ (LF [.val x0,.val x1,.no,.no,.no,.no,.no]):=rfl
theorem YU (x0 x1 x2:D):yb [x0,x1,x2]=hJ (LJ [.val x0,.val x1,.val x2,.no,.no,.no,.no,.no,.no]):=rfl
abbrev bj:=lI mm (gW gZ (gW gZ gC gA) gD) gn
abbrev bQ:=wl la (nW iU dF)
abbrev dm:=ol (gX gD fI)
abbrev eI:=lI oB gH gn
abbrev eX:=gW gZ gF gD
def Sn (c:iz)(φ:D->Option D):FS:=gT (ly 3 (ig yY ed)) (gT gj (gT (nL bQ gr (iI bj (gT (ly 6 gn) (gT (nL (oN gC) gu (iI eI (ly 6 (oQ 0 c φ eX)) iW)) (oP 4 dm))) iW)) gk))
theorem zrI (c:iz)(φ:D->Option D)(x0 x1:D):yS c φ [x0,x1]=hJ (Sn c φ [.fn c,.val x0,.val x1,.no,.no,.no,.no,.no]):=rfl
abbrev dG:=gW gZ gy fT
abbrev dH:=gW gZ gy fY
abbrev bT:=gW yz gD dG
abbrev ac:=iI (zT (lI lj dB (me (.str gq))) (lI lj fM fX)) (BH 5 (lL (zf (gW pO dG dH) (gW lR bT (gW yz gD dH))))) (iW)
abbrev bD:=gW gZ dC fU
abbrev af:=BH 5 (lL (zf (gW lj bD (gW tj (ol fK) gA)) (zf (gW mm bT gn) (gW lR bT gG))))
abbrev ah:=iI (lV (lI lR dB eL) (lI lR fM fY)) eM (iW)
abbrev aH:=ly 8 (gW gZ bD fU)
abbrev cD:=oN (oI gy (zP fT) oY)
abbrev eU:=lI tw gH gD
def Qq (c:iz)(φ:D->Option D):FS:=gT (iI (lV da (lV (lI pO fM fY) (mP (lE (ig yb (gX dC dW)))))) eM iW) (gT (KM 5) (gT (nL (oN (lF 1 c (yS c φ) (gX dC fL))) cS fj) (gT (nL cD gs (iI (lV (mP (lE (ig om fI))) eU) eM iW)) (gT ac (gT ah (gT aH af))))))
theorem zoV (c:iz)(φ:D->Option D)(x0 x1 x2 x3:D):Au c φ [x0,x1,x2,x3]=hJ (Qq c φ [.val x0,.fn c,.val x1,.val x2,.val x3,.no,.no,.no,.no]):=rfl
theorem YK (x0 x1 x2:D):sg [x0,x1,x2]=hJ (Hz [.val x0,.val x1,.val x2]):=rfl
abbrev ak:=gX gy (gX (gW lr gz (gW nk gD (gW lQ (gW lQ (gW nw gA fT) fY) fT))) lD)
abbrev aq:=iI (zT dN (lI lj (gW lQ gA fT) fU)) (ly 3 fX) (iW)
abbrev dA:=gW lP gC fT
abbrev aP:=gX dA (gX (gW lr gG fV) lD)
abbrev az:=gX gF (gX gC aP)
abbrev aE:=gX gH aP
abbrev aN:=ly 8 (gW lQ (gW nw gA (me (.int 6))) dA)
abbrev aY:=Et (oI gy (zP gz) (zP (gW lr gz fW)))
abbrev fS:=me (.int 59)
abbrev cI:=gW sC fP fS
abbrev ba:=gW nk fT cI
abbrev be:=ly 9 (gW lQ (gW nw gA (me (.int 12))) fX)
abbrev bv:=ly 6 (ol (gX (pF pj (gl 4)) (gX (ol lD) lD)))
abbrev cQ:=gX gy (gX gA fC)
abbrev fN:=wl la gC
def Pb (mk:(D->Option D)->iz)(Pt:Gj):FS:=gT (nL (MP wD fU (gW wM (me (.int 63)) fM) fW) (md 1) (gT (ly 2 (ig yr (gX (pF xt aY) fC))) (gT (ly 3 fY) (gT aq (gT gj (gT (nL fN gr (oP 4 (gW lP (gW lQ (ig pX ak) ba) cI))) (gT aN (gT be (gT bv (gT (ly 7 (pW 10 Pt mk (ig sg cQ) zq [8,9] aE)) (iI (mP (lE (pW 10 Pt mk (ig sg cQ) Au [8,9] az))) eM iW))))))))))) eT
theorem zAI (mk:(D->Option D)->iz)(Pt:Gj)(x0:D):zlS mk Pt [x0]=hJ (Pb mk Pt [.val x0,.no,.no,.no,.no,.no,.no,.no,.no,.no,.tab Pt]):=rfl
end
open PySem T3
open Lean in
local macro_rules|`(tactic|simp_arith[$a,*])=>do let l:TSyntaxArray `ident:=("zEe TM PK zEg zEh YE zCu zCv zEi zCw zEj zCy ZS Zr zx1 zCz Zj zCA TB zAl zAm zEl Xs zCB zCC zCD zCE Yr zCH zCI VD zEo zEp zEq Zx zEr Yl Xv VM zCM zEs zCN zCO VG zCQ zCR zCS YY zCV zEt zAs zx4 zEu zvH zvI zvJ zvK ztH zAt XW zx6 zx7 zEv zEw zEx zCW ZJ zEy YR WX zEA zCZ zC0 YF YO zED Yd XQ zEF YL zEH zC2 WC zEJ zC3 Xk zC4 zEL zEM Wk zEO zC5 zEP zEQ Zm VU zC7 Zw VI zAv zAw zvL ztI zvM zvN Xz QZ zC9 zET zAx zEU WD Pi Sh zEW zEX zEY zEZ zGm Yv zGo zGp WG zE1 zDa YG zE2 zE3 Im zE4 VE zE6 Yt zAz zAA zAB zDc zDd zDe zyC Ws zyE Wd zAC Yu ZL zAE zpG zvP YH zqT jv Option.bind_none qq Bool.not_false zvQ ite_true ite_false decide_true decide_false".splitOn " ").toArray.map fun s=>mkIdent s.toName;`(tactic|simp only[$[$l:ident],*,$a,*])
theorem RO (a:Sl):∀ (ds:List D) (b:Int) (x:Sl),∃ x',iV (mf 2) (iH 1 (ib nk (gv 1) (iO (.int 2)))) ds [a,.val (.int b),x]=Ga (.nx [a,.val (.int (b*2^ds.length)),x'])
 | [],b,x=>⟨x,by simp[iV]⟩
 | d::r,b,x=>by
  obtain⟨x',e⟩:=RO a r (b*2) (.val d);refine⟨x',?_⟩;have hm:nk (.int b) (.int 2)=Ga (.int (b*2)):=by simp[nk,dI,tZ]
  unfold iV;simp only[mf,iH,ib,iO,gv,List.set_cons_succ,List.set_cons_zero,vA,List.getElem?_cons_zero,jv,hm];rw[show(ib nk (gv 1) (iO (.int 2)):FV)=λψ=>(gv 1 ψ).bind λx=>(iO (.int 2) ψ).bind λy=>nk x y from rfl] at e;refine e.trans ?_;rw[jX,Int.pow_succ',Int.mul_assoc]
theorem IZ (n:Int)(h0:0<=n)(h1:n<1000):xS [.int n]=Ga (.int (2^n.toNat)):=by
 show hJ (KJ [.val (.int n),.no,.no])=_;have hr:la (.int n)=Ga (lX 0 n.toNat):=by unfold la;dsimp only;rw[Ge (by constructor<;>omega)]
 obtain⟨x',e⟩:=RO (.val (.int n)) (lX 0 n.toNat) 1 .no;have hl:(lX 0 n.toNat).length=n.toNat:=by simp[lX]
 rw[hl,Int.one_mul] at e;unfold KJ;have e1:iH 1 (iO (.int 1)) [.val (.int n),.no,.no]=Ga (.nx [.val (.int n),.val (.int 1),.no]):=rfl;have e2:mS (mM la (gv 0)) (mf 2) (iH 1 (ib nk (gv 1) (iO (.int 2)))) [.val (.int n),.val (.int 1),.no]=Ga (.nx [.val (.int n),.val (.int (2^n.toNat)),x']):=by
  show(la (.int n)).bind (λds=>iV _ _ ds _)=_;rw[hr];exact e
 show hJ (lT (iH 1 (iO (.int 1)) [.val (.int n),.no,.no]) _)=_;rw[e1];show hJ (lT (mS (mM la (gv 0)) (mf 2) (iH 1 (ib nk (gv 1) (iO (.int 2)))) [.val (.int n),.val (.int 1),.no]) _)=_;rw[e2];rfl
theorem OZ (m h:Int)(h0:0<=h)(h1:h<1000):vv [.int m,.int h]=Ga (.bool (!(uK m (2^h.toNat)==0))):=by
 refine congrArg hJ (oG (ψ:=[.val (.int m),.val (.int h)]) ((pe ((pe rfl ((mv rfl).trans (IZ h h0 h1))).trans rfl) rfl).trans ?_));exact NZ _ _
structure Fl where
 h:Nat
 a:Int
 m:Nat
structure mT (n:Nat)(fs:List Fl):Prop where
 n2:2<=n
 n5:n<=5
 hb:∀ f∈fs,f.h<n
 mb:∀ f∈fs,f.m<32
 nd:(fs.map Fl.h).Nodup
 ab:∀ f∈fs,1<=f.a
 a5:∀ f∈fs,f.a<=5
theorem SU {i j:Int}(h1:-(2^64)<i)(h2:i<2^64):tZ i j=true:=by unfold tZ;rw[Gc h1,Gc h2];rfl
def mB (b0 b1 b2 b3 b4:Bool):Int:=(if b0 then 1 else 0)+(if b1 then 2 else 0)+(if b2 then 4 else 0)+(if b3 then 8 else 0)+(if b4 then 16 else 0)
def Cv (b0 b1 b2 b3 b4:Bool):List Int:=(if b0 then[0] else[])++(if b1 then[1] else[])++(if b2 then[2] else[])++(if b3 then[3] else[])++(if b4 then[4] else[])
theorem SN:∀ (b0 b1 b2 b3 b4:Bool),rD [.int (mB b0 b1 b2 b3 b4)]=Ga ((Cv b0 b1 b2 b3 b4).map jc):=by
 have key:∀ (b0 b1 b2 b3 b4:Bool),((je (kM (mB b0 b1 b2 b3 b4))).map λ(k:Nat)=>(k:Int)).filter (λh=>!(uK (mB b0 b1 b2 b3 b4) (2^h.toNat)==0))=Cv b0 b1 b2 b3 b4:=by nofun
 have small:∀ (b0 b1 b2 b3 b4:Bool),kM (mB b0 b1 b2 b3 b4)<10:=by nofun
 intro b0 b1 b2 b3 b4;have sm:=small b0 b1 b2 b3 b4;show rQ (LB [.val (.int (mB b0 b1 b2 b3 b4))])=_;generalize hm:mB b0 b1 b2 b3 b4=m at sm ⊢;have ei:(mM la (un Cb (gv 0))) [.val (.int m)]=Ga (lX 0 (kM m)):=by
  refine(xf (a:=.int (kM m:Nat)) ((wv (a:=.int m) rfl).trans rfl)).trans ?_;generalize kM m=k at sm;unfold la;dsimp only;rw[Ge (by constructor<;>omega),j5]
 have hlen:(lX 0 (kM m)).length<=1000000:=by unfold lX;rw[jd,jD];omega
 have e:=SJ ((wm (fc:=nJ (gY vv (gP (gv 1) (gP (gv 0) iB)))) (fe:=gv 0) (ix:=[0]) ei hlen).trans (Bx (p:=λd=>match d with|.int h=>!(uK m (2^h.toNat)==0)|_=>false) (F:=id) (λd hd=>by
  obtain⟨k,hk,rfl⟩:=jz.mp hd;have hk':=jk.mp hk;exact zg ((mv rfl).trans (OZ _ _ (by omega) (by omega))) rfl) (λd hd _=>rfl)))
 unfold LB;rw[e];rw[Pv];rw[List.map_id];rw[<- key b0 b1 b2 b3 b4];rw[hm];refine congrArg Ga ?_;unfold lX;rw[uZ,uZ,jN];exact congr (congrArg JH (funext λx=>congrArg jc (v8 _))) (congrArg (λp=>List.filter p _) (funext λx=>congrArg (λz:Int=>!(uK m (2^z.toNat)==0)) (v8 (x:Int))))
def mJ (fs:List Fl)(h:Nat):Option Fl:=fs.find? λf=>f.h==h
def up (fs:List Fl)(h:Nat)(r:Int):Bool:=match mJ fs h with|some f=>decide (r<f.a)|none=>true
theorem GA {fs:List Fl}{h:Nat}{f:Fl}(e:mJ fs h=Ga f):f∈fs/\f.h=h:=⟨List.mem_of_find?_eq_some e,by have:=List.find?_some e;exact beq_iff_eq.mp this⟩
theorem FW:∀ (n:Nat) (l:List Nat),l.Nodup->(∀ x∈l,x<n)->l.length<=n
 | 0,[],_,_=>jm _
 | 0,x::r,_,h=>absurd (h x jh) (qR _)
 | n+1,l,nd,h=>by
  by_cases hm:n∈l
  .have ih:=FW n (l.erase n) (nd.erase n) (λx hx=>by
    have h1:=(nd.mem_erase_iff.mp hx);have h2:=h x h1.2;have h3:=h1.1;omega)
   rw[qu hm] at ih;omega
  .have ih:=FW n l nd (λx hx=>by
    have h2:=h x hx;have h3:x≠n:=λe=>hm (e▸hx);omega)
   omega
def bt (m h:Nat):Bool:=decide ((m:Int)/(2^h)%2=1)
theorem zFa (fs:List Fl)(nd:(fs.map Fl.h).Nodup)(h:Nat)(r:Int):fs.all (λf=>!(f.h==h&&decide (f.a<=r)))=up fs h r:=by
 unfold up;rw[jV,jL];cases e:mJ fs h with
 | none =>
  refine⟨λ_=>rfl,λ_ f hf=>?_⟩;have:=uV.mp e f hf;rw[ka] at this;rw[this];rfl
 | some g =>
  obtain⟨g1,g2⟩:=GA e;dsimp only;rw[decide_eq_true_eq];constructor
  .intro z;have:=z g g1;rw[g2,beq_self_eq_true,vV,kF,decide_eq_false_iff_not] at this;omega
  .intro z f hf;rw[kF,Bool.and_eq_false_iff];by_cases q:f.h=h
   .have:f=g:=by
     obtain⟨i,hi,ei⟩:=vm hf;obtain⟨j,hj,ej⟩:=vm g1;have a1:(fs.map Fl.h)[i]?=Ga h:=by rw[jC,ji hi,ei,vx,q]
     have a2:(fs.map Fl.h)[j]?=Ga h:=by rw[jC,ji hj,ej,vx,g2]
     have:=(List.getElem?_inj (by rw[jd];exact hi) nd).mp (a1.trans a2.symm);subst this;rw[<- ei,<- ej]
    rw[this];exact .inr (Gd (by omega))
   .exact .inl (by rw[<- ka,beq_iff_eq];exact q)
def QC (b t:Nat)(at_:Int)(f:Fl):Bool:=!((f.h==t&&decide (f.a<=at_))||(f.h==b&&decide (f.a<at_)))&&!(f.h==b&&(decide (f.a=at_)&&!bt f.m t))
def cm (fs:List Fl)(b t:Nat)(at_:Int):Bool:=fs.all (QC b t at_)
theorem NG {n:Nat}{fs:List Fl}(G:mT n fs)(b t:Nat)(r:Int):cm fs b t r=true↔∀ f∈fs,(f.h=t->r<f.a)/\(f.h=b->r<=f.a/\(f.a=r->bt f.m t=true)):=by
 unfold cm;rw[jL];refine forall_congr' λf=>forall_congr' λ_=>?_;unfold QC;by_cases h1:f.h=t<;>by_cases h2:f.h=b<;>by_cases h3:f.a<r<;>by_cases h4:f.a=r<;>by_cases h5:f.a<=r<;>cases h6:bt f.m t<;>simp[h1,h2,h3,h4,h5,h6]<;>omega
theorem GD {n:Nat}{fs:List Fl}(G:mT n fs)(h:Nat)(r:Int):up fs h r=true↔∀ f∈fs,f.h=h->r<f.a:=by
 rw[<- zFa fs G.nd h r,jL];refine forall_congr' λf=>forall_congr' λ_=>?_;by_cases h1:f.h=h<;>by_cases h2:f.a<=r<;>simp[h1,h2]<;>omega
def vw (ns:List D)(fs:List Fl):Nat->Nat->D
 | 0,h=>.tuple [.int h,ns.getD h .none]
 | r+1,h=>.tuple [.int h,.tuple ((je ns.length).map λo=>if o=h\/cm fs o h ((r+1:Nat):Int)=true then vw ns fs r o else .none)]
theorem Oh (ns:List D)(fs:List Fl)(r h:Nat)(hh:h<ns.length):Aa [vw ns fs (r+1) h]=Ga (vw ns fs r h):=by
 have g:((je ns.length).map λo=>if o=h\/cm fs o h ((r+1:Nat):Int)=true then vw ns fs r o else .none)[h]?=Ga (vw ns fs r h):=by
  rw[jC,kN hh,vx,Ge (k8 rfl)]
 show hJ (Om [.val (vw ns fs (r+1) h)])=_;unfold Om;exact(congrArg hJ (oG (d:=vw ns fs r h) ((pe (a:=.tuple ((je ns.length).map λo=>if o=h\/cm fs o h ((r+1:Nat):Int)=true then vw ns fs r o else .none)) (b:=.int h) rfl rfl).trans (Da g)))).trans rfl
theorem RA (ns:List D)(fs:List Fl)(hi:∀ d∈ns,∃ i:Int,d=.int i)(h:Nat)(hh:h<ns.length):∀ (r m:Nat) (j:Int),r<m->mI (nJ (un (sw "tuple") (ib gZ (gv 0) (iO (.int 1))))) (ik (iH 0 (gY Aa (gP (gv 0) iB))) (iH 1 (ib lr (gv 1) (iO (.int 1))))) m [.val (vw ns fs r h),.val (.int j)]=Ga (.nx [.val (vw ns fs 0 h),.val (.int (j+r))])
 | 0,m,j,hm=>by
  obtain⟨m',rfl⟩:∃ m',m=m'+1:=⟨m-1,by omega⟩;unfold mI;have e:nJ (un (sw "tuple") (ib gZ (gv 0) (iO (.int 1)))) (frz [.val (vw ns fs 0 h),.val (.int j)])=Ga false:=by
   obtain⟨i,hi'⟩:=hi (ns[h]) (k9 hh);refine zg (d:=.bool false) ((wv (a:=.int i) ((pe (a:=vw ns fs 0 h) (b:=.int 1) rfl rfl).trans ?_)).trans rfl) rfl;show Ga (ns.getD h .none)=_;rw[jg,ji hh,<- hi'];rfl
  rw[e,jv,Gf jr,show(j+((0:Nat):Int))=j by omega]
 | r+1,m,j,hm=>by
  obtain⟨m',rfl⟩:∃ m',m=m'+1:=⟨m-1,by omega⟩;have ih:=RA ns fs hi h hh r m' (j+1) (by omega);unfold mI;have e:nJ (un (sw "tuple") (ib gZ (gv 0) (iO (.int 1)))) (frz [.val (vw ns fs (r+1) h),.val (.int j)])=Ga true:=rfl;have b1:ik (iH 0 (gY Aa (gP (gv 0) iB))) (iH 1 (ib lr (gv 1) (iO (.int 1)))) [.val (vw ns fs (r+1) h),.val (.int j)]=Ga (.nx [.val (vw ns fs r h),.val (.int (j+1))]) :=
   (mX (e:=[.val (vw ns fs r h),.val (.int j)]) (xh ((mv (ds:=[vw ns fs (r+1) h]) rfl).trans (Oh ns fs r h hh)))).trans rfl
  rw[e,jv,Ge rfl,b1,jv];show mI _ _ m' [.val (vw ns fs r h),.val (.int (j+1))]=_;rw[ih,show j+1+(r:Int)=j+((r+1:Nat):Int) by omega]
theorem yP (ns:List D)(fs:List Fl)(hi:∀ d∈ns,∃ i:Int,d=.int i)(r h:Nat)(hh:h<ns.length)(hr:r<100):pf [vw ns fs r h]=Ga (.int r):=by
 show hJ (Ol [.val (vw ns fs r h),.no])=_;unfold Ol;rw[mX (e:=[.val (vw ns fs r h),.val (.int 0)]) rfl,mX (RA ns fs hi h hh r 100 0 hr),v8];rfl
theorem AR {t:FT}{g:FS}{α:Type}(f:α->D)(I:List α->En->Prop)(xs:List α)(st:∀ pre x suf,xs=pre++x::suf->∀ ψ,I pre ψ->∃ e1 e2,t (f x) ψ=Ga e1/\g e1=Ga (.nx e2)/\I (pre++[x]) e2) :
  ∀ suf pre ψ,xs=pre++suf->I pre ψ->∃ e,iV t g (suf.map f) ψ=Ga (.nx e)/\I xs e
 | [],pre,ψ,h,hI=>⟨ψ,rfl,(by rw[h,km];exact hI)⟩
 | x::suf,pre,ψ,h,hI=>by
  obtain⟨e1,e2,h1,h2,h3⟩:=st pre x suf h ψ hI;obtain⟨e,h4,h5⟩:=AR f I xs st suf (pre++[x]) e2 (by rw[h,kU];rfl) h3;refine⟨e,?_,h5⟩;rw[jK];unfold iV;rw[h1,jv,h2];exact h4
theorem WW {ns:List D}{fs:List Fl}{r a b:Nat}(h:vw ns fs r a=vw ns fs r b):a=b:=by
 have hd:∀ (r a:Nat),∃ d,vw ns fs r a=.tuple [.int (a:Int),d]:=λr a=>by cases r<;>exact⟨_,rfl⟩
 obtain⟨d1,e1⟩:=hd r a;obtain⟨d2,e2⟩:=hd r b;rw[e1,e2] at h;have:=J0 (J2 (PyData.tuple.inj h)).1;omega
theorem zDh (ns:List D)(fs:List Fl)(r h:Nat):mm (vw ns fs r h) .none=Ga (.bool true):=by cases r<;>rfl
theorem EX:∀ {xs:List D} {n:Nat},(∀ x∈xs,iq x n=true)->mz xs n=true
 | [],_,_=>by rw[mz]
 | x::xs,n,h=>by rw[mz,h x jh,EX λy hy=>h y (jo _ hy)];rfl
theorem SX (ns:List D)(fs:List Fl)(hi:∀ d∈ns,∃ i:Int,d=.int i):∀ (r h m:Nat),2*r+1<=m->iq (vw ns fs r h) m=true
 | 0,h,m,hm=>by
  obtain⟨m',rfl⟩:∃ m',m=m'+1:=⟨m-1,by omega⟩;show iq (.tuple [.int h,ns.getD h .none]) (m'+1)=true;rw[iq];refine EX λx hx=>?_;rcases jw.mp hx with rfl|hx
  .rw[iq]
  .cases jj.mp hx;by_cases hh:h<ns.length
   .obtain⟨i,e⟩:=hi _ (k9 hh);rw[jg,ji hh];show iq ns[h] m'=true;rw[e,iq]
   .rw[jg,kf (by omega)];show iq uc m'=true;rw[iq]
 | r+1,h,m,hm=>by
  obtain⟨m',rfl⟩:∃ m',m=m'+2:=⟨m-2,by omega⟩;show iq (.tuple [.int h,.tuple ((je ns.length).map λo=>if o=h\/cm fs o h ((r+1:Nat):Int)=true then vw ns fs r o else .none)]) (m'+1+1)=true;rw[iq];refine EX λx hx=>?_;rcases jw.mp hx with rfl|hx
  .rw[iq]
  .cases jj.mp hx;rw[iq];refine EX λy hy=>?_;obtain⟨o,_,rfl⟩:=jz.mp hy;split
   .exact SX ns fs hi r o m' (by omega)
   .rw[iq]
theorem Xm (ns:List D)(fs:List Fl)(r h:Nat):wK (vw ns fs r h)=true:=by cases r<;>rfl
theorem ZB (ns:List D)(fs:List Fl)(r w:Nat)(B:List Nat):pB (B.map (vw ns fs r)) (vw ns fs r w)=(if w∈B then B else B++[w]).map (vw ns fs r):=by
 unfold pB;by_cases h:w∈B
 .rw[Ge h,Ge (jz.mpr ⟨w,h,rfl⟩)]
 .rw[Gf h,Gf (λz=>by obtain⟨b,hb,e⟩:=jz.mp z;exact h (WW e▸hb)),j0];rfl
theorem Uw {B:List Nat}{w n:Nat}(nB:B.Nodup)(lB:∀ x∈B,x<n)(hw:w<n):(if w∈B then B else B++[w]).Nodup/\(∀ x∈(if w∈B then B else B++[w]),x<n)/\∀ x,x∈(if w∈B then B else B++[w])↔x∈B\/x=w:=by
 by_cases h:w∈B
 .rw[Ge h];exact⟨nB,lB,λx=>⟨.inl,λz=>by rcases z with z|z;exact z;rw[z];exact h⟩⟩
 .rw[Gf h];refine⟨?_,λx hx=>?_,λx=>by rw[jI,jj]⟩
  .rw[ug];refine⟨nB,ko.mpr ⟨by simp,uw⟩,λx hx y hy=>?_⟩;rw[jj.mp hy];exact λz=>h (z▸hx)
  .rcases jI.mp hx with z|z
   .exact lB x z
   .rw[jj.mp z];exact hw
theorem zFc {i:Nat}{f:FV}{ψ:En}{k:D}{ks:List D}(h1:f ψ=Ga k)(h2:ψ[i]?=Ga (.dic ks))(hk:(iq k 8&&wK k)=true)(hl:ks.length<1000000):AL i f ψ=Ga (.nx (ψ.set i (.dic (pB ks k)))):=by
 unfold AL;rw[h1,jv,h2];exact Ge ⟨hk,hl⟩
noncomputable abbrev Ib:FS:=mV (lh mm (gv 3) (iO .none)) (AL 1 (gv 3)) (nE)
noncomputable abbrev FY:FS:=mS (ng (ib gZ (gv 2) (iO (.int 1)))) (mf 3) Ib
theorem ZE (ns:List D)(fs:List Fl)(hi:∀ d∈ns,∃ i:Int,d=.int i)(n5:ns.length<=5)(r:Nat)(hr:r<=3)(A:List Nat)(lA:∀ x∈A,x<ns.length) :
  ∃ B:List Nat,FM [.list (A.map (vw ns fs (r+1)))]=Ga (.list (B.map (vw ns fs r)))/\B.Nodup/\(∀ x∈B,x<ns.length)/\∀ x,x∈B↔x<ns.length/\∃ o∈A,x=o\/cm fs x o ((r+1:Nat):Int)=true:=by
 have inner:∀ (L:D) (o:Nat) (x3:Sl) (B0:List Nat),o<ns.length->B0.Nodup->(∀ x∈B0,x<ns.length)->∃ (B:List Nat) (y3:Sl),FY [.val L,.dic (B0.map (vw ns fs r)),.val (vw ns fs (r+1) o),x3]=Ga (.nx [.val L,.dic (B.map (vw ns fs r)),.val (vw ns fs (r+1) o),y3])/\B.Nodup/\(∀ x∈B,x<ns.length)/\∀ x,x∈B↔x∈B0\/(x<ns.length/\(x=o\/cm fs x o ((r+1:Nat):Int)=true)):=by
  intro L o x3 B0 ho nB0 lB0;have hs:ng (ib gZ (gv 2) (iO (.int 1))) [.val L,.dic (B0.map (vw ns fs r)),.val (vw ns fs (r+1) o),x3]=Ga ((je ns.length).map λw=>if w=o\/cm fs w o ((r+1:Nat):Int)=true then vw ns fs r w else .none):=rfl;have hv:∀ w,w<ns.length->(iq (vw ns fs r w) 8&&wK (vw ns fs r w))=true:=λw _=>by rw[SX ns fs hi r w 8 (by omega),Xm];rfl
  generalize (Sl.val (vw ns fs (r+1) o))=S2 at hs ⊢;have Lp:=AR (t:=mf 3) (g:=Ib) (λw=>if w=o\/cm fs w o ((r+1:Nat):Int)=true then vw ns fs r w else .none)
   (λpre ψ=>∃ (B:List Nat) (y3:Sl),ψ=[.val L,.dic (B.map (vw ns fs r)),S2,y3]/\B.Nodup/\(∀ x∈B,x<ns.length)/\∀ x,x∈B↔x∈B0\/(x∈pre/\(x=o\/cm fs x o ((r+1:Nat):Int)=true)))
   (je ns.length) (by
    intro pre w suf hx ψ hI;obtain⟨B,y3,rfl,nB,lB,mB⟩:=hI;have hw:w<ns.length:=jk.mp (by rw[hx];exact jG _ jh);have mpre:∀ x,x∈pre++[w]↔x∈pre\/x=w:=λx=>by rw[jI,jj]
    by_cases c:w=o\/cm fs w o ((r+1:Nat):Int)=true
    .rw[Ge c];have lenB:=FW ns.length B nB lB;obtain⟨p1,p2,p3⟩:=Uw nB lB hw;refine⟨[.val L,.dic (B.map (vw ns fs r)),S2,.val (vw ns fs r w)],[.val L,.dic ((if w∈B then B else B++[w]).map (vw ns fs r)),S2,.val (vw ns fs r w)],rfl,?_,_,_,rfl,p1,p2,λx=>?_⟩
     .refine(wB (rZ (x:=vw ns fs r w) (y:=.none) rfl rfl (zDh ns fs r w))).trans ?_;rw[<- ZB];exact zFc (ks:=B.map (vw ns fs r)) (k:=vw ns fs r w) rfl rfl (hv w hw) (by rw[jd];omega)
     .rw[p3,mB,mpre];constructor
      .rintro((z|⟨z1,z2⟩)|z)
       .exact .inl z
       .exact .inr ⟨.inl z1,z2⟩
       .rw[z];exact .inr ⟨.inr rfl,c⟩
      .rintro(z|⟨z1|z1,z2⟩)
       .exact .inl (.inl z)
       .exact .inl (.inr ⟨z1,z2⟩)
       .exact .inr z1
    .rw[Gf c];refine⟨[.val L,.dic (B.map (vw ns fs r)),S2,.val .none],_,rfl,(sX (rZ (x:=.none) (y:=.none) rfl rfl rfl)).trans rfl,B,_,rfl,nB,lB,λx=>?_⟩;rw[mB,mpre];constructor
     .rintro(z|⟨z1,z2⟩)
      .exact .inl z
      .exact .inr ⟨.inl z1,z2⟩
     .rintro(z|⟨z1|z1,z2⟩)
      .exact .inl z
      .exact .inr ⟨z1,z2⟩
      .rw[z1] at z2;exact absurd z2 c)
   (je ns.length) [] [.val L,.dic (B0.map (vw ns fs r)),S2,x3] rfl ⟨B0,x3,rfl,nB0,lB0,λx=>⟨.inl,λz=>by rcases z with z|⟨z,_⟩;exact z;cases z⟩⟩
  obtain⟨e,e1,B,y3,rfl,nB,lB,mB⟩:=Lp;refine⟨B,y3,(wV hs).trans e1,nB,lB,λx=>?_⟩;rw[mB,jk]
 generalize hL:uO (A.map (vw ns fs (r+1)))=L;show ∃ B:List Nat,hJ (LI [.val L,.no,.no,.no])=_/\_;have Lq:=AR (t:=mf 2) (g:=FY) (vw ns fs (r+1))
  (λpre ψ=>∃ (B:List Nat) (y2 y3:Sl),ψ=[.val L,.dic (B.map (vw ns fs r)),y2,y3]/\B.Nodup/\(∀ x∈B,x<ns.length)/\∀ x,x∈B↔x<ns.length/\∃ o∈pre,x=o\/cm fs x o ((r+1:Nat):Int)=true)
  A (by
   intro pre o suf hx ψ hI;obtain⟨B,y2,y3,rfl,nB,lB,mB⟩:=hI;have ho:o<ns.length:=lA o (by rw[hx];exact jG _ jh);obtain⟨C,z3,e1,nC,lC,mC⟩:=inner L o y3 B ho nB lB;refine⟨[.val L,.dic (B.map (vw ns fs r)),.val (vw ns fs (r+1) o),y3],_,rfl,e1,C,_,_,rfl,nC,lC,λx=>?_⟩;rw[mC,mB];constructor
   .rintro(⟨z1,o',z2,z3⟩|⟨z1,z2⟩)
    .exact⟨z1,o',uC _ z2,z3⟩
    .exact⟨z1,o,jG _ jh,z2⟩
   .rintro⟨z1,o',z2,z3⟩;rcases jI.mp z2 with z2|z2
    .exact .inl ⟨z1,o',z2,z3⟩
    .rw[jj.mp z2] at z3;exact .inr ⟨z1,z3⟩)
  A [] [.val L,.dic [],.no,.no] rfl ⟨[],_,_,rfl,uw,λx h=>(by cases h),λx=>⟨λh=>(by cases h),λh=>(by obtain⟨_,o,h,_⟩:=h;cases h)⟩⟩
 obtain⟨e,e1,B,y2,y3,rfl,nB,lB,mB⟩:=Lq;refine⟨B,?_,nB,lB,mB⟩;have hsL:ng (gv 0) [.val L,.dic [],.no,.no]=Ga (A.map (vw ns fs (r+1))):=by rw[<- hL];rfl
 unfold LI;rw[mX (e:=[.val L,.dic [],.no,.no]) rfl];rw[mX ((wV hsL).trans e1)];have kd:wH (Cy (B.map (vw ns fs r)))=Ga (B.map (vw ns fs r)):=by
  rw[SG,NR]
 show hJ (iZ (mL (mM wH (gv 1))) [.val L,.val (Cy (B.map (vw ns fs r))),y2,y3])=_;exact(congrArg hJ (oG (xk ((xf (a:=Cy (B.map (vw ns fs r))) rfl).trans kd)))).trans rfl
def Rb (fs:List Fl)(n r h:Nat):Nat->Nat->Prop
 | 0,x=>x=h
 | i+1,x=>x<n/\∃ o,Rb fs n r h i o/\(x=o\/cm fs x o ((r-i:Nat):Int)=true)
theorem zGq {fs:List Fl}{n r h:Nat}(hh:h<n):∀ {i x:Nat},Rb fs n r h i x->x<n
 | 0,x,z=>by rw[show x=h from z];exact hh
 | _+1,_,z=>z.1
theorem atI_last {xs:List D}{m:Nat}{v:D}(hl:xs.length=m+1)(h:xs[m]?=Ga v):L2.atI xs (-1)=Ga v:=by
 unfold L2.atI L2.ixN;rw[Gf (by decide),Ge (by omega),jv,show((-1:Int)+(xs.length:Nat)).toNat=m by omega];exact h
def Ch (ns:List D)(fs:List Fl)(r h i:Nat)(d:D):Prop:=∃ A:List Nat,d=.list (A.map (vw ns fs (r-i)))/\A.Nodup/\(∀ x∈A,x<ns.length)/\∀ x,x∈A↔Rb fs ns.length r h i x
theorem RT (ns:List D)(fs:List Fl)(hi:∀ d∈ns,∃ i:Int,d=.int i)(n5:ns.length<=5)(r h:Nat)(hr:r<=4)(hh:h<ns.length) :
  ∃ Ls:List D,yR [vw ns fs r h]=Ga (.list Ls)/\Ls.length=r+1/\∀ k,k<=r->∃ d,Ls[k]?=Ga d/\Ch ns fs r h (r-k) d:=by
 have hro:=yP ns fs hi r h hh (by omega);have h0:∀ f:Nat,Ch ns fs r h 0 (.list [vw ns fs r h]):=λ_=>⟨[h],rfl,ko.mpr ⟨by simp,uw⟩,λx hx=>by rw[jj.mp hx];exact hh,λx=>by rw[jj];exact Iff.rfl⟩;show ∃ Ls:List D,hJ (NP [.val (vw ns fs r h),.no,.no])=_/\_;have h0:=h0 0;generalize vw ns fs r h=v at hro h0;have Lp:=AR (t:=mf 2) (g:=yA 1 (gY FM (gP (Dw (gl 1) (un wb (iO (.int 1)))) iB))) (λ(k:Nat)=>jc (k:Int))
  (λpre ψ=>∃ (Ls:List D) (x2:Sl),ψ=[.val v,.own Ls,x2]/\Ls.length=pre.length+1/\pre.length<=r/\∀ i,i<=pre.length->∃ d,Ls[i]?=Ga d/\Ch ns fs r h i d)
  (je r) (by
   intro pre w suf hx ψ hI;obtain⟨Ls,x2,rfl,hl,hp,hL⟩:=hI;have hlen:pre.length+1<=r:=by
    have:=congrArg JT hx;rw[jD,ju,jX] at this;omega
   obtain⟨d,hd,A,rfl,nA,lA,mA⟩:=hL pre.length (jm _);obtain⟨q,hq⟩:∃ q,r-pre.length=q+1:=⟨r-pre.length-1,by omega⟩;rw[hq] at hd;obtain⟨B,e1,nB,lB,mB⟩:=ZE ns fs hi n5 q (by omega) A lA;have hix:Dw (gl 1) (un wb (iO (.int 1))) [.val v,.own Ls,.val (.int w)]=Ga (.list (A.map (vw ns fs (q+1)))):=by
    show yw Ls (.int (-1))=_;show L2.atI Ls (-1)=_;exact atI_last hl hd
   refine⟨[.val v,.own Ls,.val (.int w)],[.val v,.own (Ls++[.list (B.map (vw ns fs q))]),.val (.int w)],rfl,zGj (ds:=Ls) rfl ((mv (ds:=[.list (A.map (vw ns fs (q+1)))]) (yN hix rfl)).trans e1) (by omega),Ls++[.list (B.map (vw ns fs q))],_,rfl,by rw[ju,ju,hl];rfl,by rw[ju];exact hlen,λi hi'=>?_⟩;rw[ju,j9] at hi';by_cases c:i<=pre.length
   .obtain⟨d,h1,h2⟩:=hL i c;exact⟨d,by rw[k5 (by omega)];exact h1,h2⟩
   .have ei:i=pre.length+1:=by omega
    subst ei;refine⟨_,by rw[kS (by omega),hl,v9];rfl,B,by rw[show r-(pre.length+1)=q by omega],nB,lB,λx=>?_⟩;rw[mB];show _↔x<ns.length/\∃ o,Rb fs ns.length r h pre.length o/\(x=o\/cm fs x o ((r-pre.length:Nat):Int)=true);rw[hq];constructor
    .rintro⟨z1,o,z2,z3⟩;exact⟨z1,o,(mA o).mp z2,z3⟩
    .rintro⟨z1,o,z2,z3⟩;exact⟨z1,o,(mA o).mpr z2,z3⟩)
  (je r) [] [.val v,.own [.list [v]],.no] rfl ⟨[.list [v]],_,rfl,rfl,jT _,λi hi'=>⟨.list [v],by rw[show i=0 from by simpa using hi'];rfl,by rw[show i=0 from by simpa using hi'];exact h0⟩⟩
 obtain⟨e,e1,Ls,x2,rfl,hl,_,hL⟩:=Lp;rw[jD] at hl hL;refine⟨Ls.reverse,?_,by rw[kD];exact hl,λk hk=>?_⟩
 .unfold NP;rw[mX (e:=[.val v,.own [.list [v]],.no]) rfl];have er:mM la (gY pf (gP (gv 0) iB)) [.val v,.own [.list [v]],.no]=Ga ((je r).map λ(k:Nat)=>jc (k:Int)):=(xf (a:=.int r) ((mv (ds:=[v]) rfl).trans hro)).trans ((tX (by omega)).trans (by rw[rP]));rw[mX ((wV er).trans e1)];rfl
 .obtain⟨d,h1,h2⟩:=hL (r-k) (by omega);refine⟨d,?_,h2⟩;rw[qW (by omega),hl,show r+1-1-k=r-k by omega];exact h1
def wy:Nat->List (List Nat)
 | 0=>[[]]
 | n+1=>(wy n).flatMap λA=>((je 5).filter λx=>!A.contains x).map λx=>x::A
theorem Mf:∀ (A:List Nat),A.Nodup->(∀ x∈A,x<5)->A∈wy A.length
 | [],_,_=>jj.mpr rfl
 | x::A,nd,lt=>by
  rw[ko] at nd;show x::A∈(wy A.length).flatMap _;rw[List.mem_flatMap];refine⟨A,Mf A nd.2 λy hy=>lt y (jo _ hy),jz.mpr ⟨x,jO.mpr ⟨jk.mpr (lt x jh),?_⟩,rfl⟩⟩;rw[kF,<- ka,jM];exact nd.1
def EW (A:List Nat)(i j:Nat):Option Bool:=(A[i]?).bind λa=>(A[j]?).bind λb=>Ga (decide (a<b))
def yC (A:List Nat):Bool:=match pU (EW A) (uu A.length) with
 | some p=>decide (p.size<=64)&&(p.toList.all λi=>decide (i<A.length))&&(p.toList.map (λi=>A.getD i 0)==(je 5).filter λx=>A.contains x)
 | none=>false
theorem VS:((wy 2).all yC&&(wy 3).all yC&&(wy 4).all yC&&(wy 5).all yC)=true:=by nofun
theorem Xi:(je 5).all (λa=>(je 5).filter (λx=>[a].contains x)==[a])=true:=by nofun
theorem Yn (n:Nat)(hn:n<=5)(A:List Nat)(lt:∀ x∈A,x<n):(je 5).filter (λx=>A.contains x)=(je n).filter λx=>A.contains x:=by
 have e:je 5=je n++(je (5-n)).map (n+·):=by rw[<- List.range_add,show n+(5-n)=5 by omega]
 rw[e,kA];have:((je (5-n)).map (n+·)).filter (λx=>A.contains x)=[]:=by
  rw[uW];intro x hx;obtain⟨k,_,rfl⟩:=jz.mp hx;rw[jM];intro z;have:=lt _ z;omega
 rw[this,km]
theorem Yc (ns:List D)(fs:List Fl)(hi:∀ d∈ns,∃ i:Int,d=.int i)(n5:ns.length<=5)(A:List Nat)(nd:A.Nodup)(lt:∀ x∈A,x<ns.length) :
  nt (A.map (vw ns fs 0))=Ga (((je ns.length).filter λx=>A.contains x).map (vw ns fs 0)):=by
 have hlen:=FW ns.length A nd lt;have l5:∀ x∈A,x<5:=λx hx=>by have:=lt x hx;omega
 have hm:=Mf A nd l5;rw[<- Yn ns.length n5 A lt];have num:∀ a,a<ns.length->∃ i:Int,ns.getD a .none=.int i:=λa ha=>by
  obtain⟨i,e⟩:=hi _ (k9 ha);exact⟨i,by rw[jg,ji ha];exact e⟩
 unfold nt;by_cases h2:A.length<2
 .rw[Ge (by rw[jd];exact h2)];refine congrArg Ga (congrArg (JH _) ?_)
  match A,h2,l5 with
  | [],_,_=>rfl
  | [a],_,l5 =>
   have:=jL.mp Xi a (jk.mpr (l5 a jh));exact(eq_of_beq this).symm
  | _::_::_,h2,_=>simp at h2;omega
 .rw[Gf (by rw[jd];exact h2)];have ok:(decide ((A.map (vw ns fs 0)).length<64)&&rj (A.map (vw ns fs 0)))=true:=by
   rw[jd,Gc (show A.length<64 by omega),vV];unfold rj;rw[kB];refine .inr (jL.mpr λd hd=>?_);obtain⟨a,ha,rfl⟩:=jz.mp hd;obtain⟨i,e⟩:=num a (lt a ha);show Eu (.tuple [.int a,ns.getD a .none])=true;rw[e];rfl
  rw[Ge ok,jd];have lte:xD (A.map (vw ns fs 0))=EW A:=by
   funext i j
   unfold xD EW;rw[jC,jC];cases hA:A[i]? with
   | none=>rfl
   | some a =>
    cases hB:A[j]? with
    | none=>rfl
    | some b =>
     obtain⟨x,ex⟩:=num a (lt a (j7 hA));obtain⟨y,ey⟩:=num b (lt b (j7 hB));show AG (.tuple [.int a,ns.getD a .none]) (.tuple [.int b,ns.getD b .none])=Ga (decide (a<b));rw[ex,ey];show Ga (pR [(a:Int),x] [(b:Int),y])=_;unfold pR;by_cases hab:a=b
     .subst hab;have exy:x=y:=by rw[ex] at ey;exact J0 ey
      subst exy;rw[beq_self_eq_true,Ge rfl];unfold pR;rw[beq_self_eq_true,Ge rfl,Gd (jY a)];rfl
     .rw[Gf (by rw[beq_iff_eq];omega)];refine congrArg Ga ?_;rw[jV,decide_eq_true_eq,decide_eq_true_eq];omega
  rw[lte];have hc:yC A=true:=by
   have h5:A.length=2\/A.length=3\/A.length=4\/A.length=5:=by omega
   have ca:=VS;rw[jA,jA,jA] at ca;obtain⟨⟨⟨c2,c3⟩,c4⟩,c5⟩:=ca;rcases h5 with e|e|e|e<;>rw[e] at hm
   .exact jL.mp c2 A hm
   .exact jL.mp c3 A hm
   .exact jL.mp c4 A hm
   .exact jL.mp c5 A hm
  unfold yC at hc;cases hk:pU (EW A) (uu A.length) with
  | none=>rw[hk] at hc;cases hc
  | some p =>
   rw[hk] at hc;dsimp only at hc;rw[jA,jA,decide_eq_true_eq] at hc;obtain⟨⟨c1,c2⟩,c3⟩:=hc;rw[jv,Ge c1,<- eq_of_beq c3,jN];refine congrArg Ga (jR λi hi'=>?_);have hl:i<A.length:=of_decide_eq_true (jL.mp c2 i hi');show(A.map (vw ns fs 0)).getD i .none=vw ns fs 0 (A.getD i 0);rw[jg,jC,ji hl,jg,ji hl];rfl
def Tf (fs:List Fl)(n:Nat):Nat->Nat->Nat->Bool
 | 0,h,o=>decide (o=h)
 | r+1,h,o=>Tf fs n r h o||(je n).any λw=>cm fs w h ((r+1:Nat):Int)&&Tf fs n r w o
theorem Sq (fs:List Fl)(n r h:Nat)(hh:h<n)(x:Nat):∀ i,i<=r->((∃ o,Rb fs n r h i o/\Tf fs n (r-i) o x=true)↔Tf fs n r h x=true)
 | 0,_=>⟨λ⟨o,z1,z2⟩=>by rw[show o=h from z1] at z2;exact z2,λz=>⟨h,rfl,z⟩⟩
 | i+1,hi=>by
  rw[<- Sq fs n r h hh x i (by omega)];obtain⟨q,hq⟩:∃ q,r-i=q+1:=⟨r-i-1,by omega⟩;rw[show r-(i+1)=q by omega,hq];constructor
  .rintro⟨o',⟨z1,o,z2,z3⟩,z4⟩;refine⟨o,z2,?_⟩;show(Tf fs n q o x||(je n).any λw=>cm fs w o ((q+1:Nat):Int)&&Tf fs n q w x)=true;rw[hq] at z3;rw[kB];rcases z3 with z3|z3
   .rw[<- z3];exact .inl z4
   .refine .inr (uv.mpr ⟨o',jk.mpr z1,?_⟩);rw[z3,z4];rfl
  .rintro⟨o,z2,z4⟩;have ho:=zGq hh z2;have z4':(Tf fs n q o x||(je n).any λw=>cm fs w o ((q+1:Nat):Int)&&Tf fs n q w x)=true:=z4;rw[kB] at z4';rcases z4' with z|z
   .exact⟨o,⟨ho,o,z2,.inl rfl⟩,z⟩
   .obtain⟨w,hw,e⟩:=uv.mp z;rw[jA] at e;exact⟨w,⟨jk.mp hw,o,z2,.inr (by rw[hq];exact e.1)⟩,e.2⟩
theorem XM (fs:List Fl)(n r h:Nat)(hh:h<n)(x:Nat):Rb fs n r h r x↔Tf fs n r h x=true:=by
 rw[<- Sq fs n r h hh x r (jm _),v9];constructor
 .intro z;exact⟨x,z,Gc rfl⟩
 .rintro⟨o,z1,z2⟩;have:x=o:=of_decide_eq_true z2;rw[this];exact z1
def kn (fs:List Fl)(n r h:Nat):List Nat:=(je n).filter λo=>Tf fs n r h o
def yE (ns:List D)(fs:List Fl)(r h:Nat):List D:=(kn fs ns.length r h).map (vw ns fs 0)
theorem zAL (ns:List D)(fs:List Fl)(hi:∀ d∈ns,∃ i:Int,d=.int i)(n5:ns.length<=5)(r h:Nat)(hr:r<=4)(hh:h<ns.length):FX [vw ns fs r h]=Ga (.list (yE ns fs r h)):=by
 obtain⟨Ls,e1,hl,hL⟩:=RT ns fs hi n5 r h hr hh;obtain⟨d,hd,A,rfl,nA,lA,mA⟩:=hL 0 (jT _);rw[JI,v9] at hd;have hs:=Yc ns fs hi n5 A nA lA;have ea:((je ns.length).filter λx=>A.contains x)=kn fs ns.length r h:=by
  unfold kn;refine u7 λx hx=>?_;rw[jV,jM,mA,JI];exact XM fs ns.length r h hh x
 rw[ea] at hs;show hJ (NB [.val (vw ns fs r h)])=_;generalize vw ns fs r h=v at e1;unfold NB;have e2:ib gZ (gY yR (gP (gv 0) iB)) (iO (.int 0)) [.val v]=Ga (.list (A.map (vw ns fs 0))):=(pe (a:=.list Ls) (b:=.int ((0:Nat):Int)) ((mv (ds:=[v]) rfl).trans e1) rfl).trans (Da hd);have s:Cs (zp (ib gZ (gY yR (gP (gv 0) iB)) (iO (.int 0)))) [.val v]=Ga (yE ns fs r h):=by
  show(zp (ib gZ (gY yR (gP (gv 0) iB)) (iO (.int 0))) [.val v]).bind nt=_;rw[Ir e2];exact hs
 exact(congrArg hJ (oG (xk s))).trans rfl
theorem zDl (fs:List Fl)(n h:Nat)(hh:h<n):∀ r,h∈kn fs n r h:=λr=>by
 unfold kn;rw[jO];refine⟨jk.mpr hh,?_⟩;induction r with
 | zero=>exact Gc rfl
 | succ r ih =>
  show(Tf fs n r h h||_)=true;rw[ih];rfl
theorem zGr {fs:List Fl}{n r h x:Nat}(hx:x∈kn fs n r h):x<n:=jk.mp (jO.mp hx).1
theorem zyQ (ns:List D)(fs:List Fl)(hi:∀ d∈ns,∃ i:Int,d=.int i)(r h:Nat)(hh:h<ns.length):∃ m:Int,yf ((kn fs ns.length r h).map λo=>ns.getD o .none)=Ga (.int m):=by
 have num:∀ a,a<ns.length->∃ i:Int,ns.getD a .none=.int i:=λa ha=>by
  obtain⟨i,e⟩:=hi _ (k9 ha);exact⟨i,by rw[jg,ji ha];exact e⟩
 have key:∀ l:List Nat,(∀ x∈l,x<ns.length)->∃ is:List Int,(l.map λo=>ns.getD o .none)=is.map jc/\is.length=l.length:=by
  intro l;induction l with
  | nil=>exact λ_=>⟨[],rfl,rfl⟩
  | cons a l ih =>
   intro hl;obtain⟨is,e1,e2⟩:=ih λx hx=>hl x (jo _ hx);obtain⟨i,e3⟩:=num a (hl a jh);exact⟨i::is,by rw[jK,jK,e1,e3],by rw[jX,jX,e2]⟩
 obtain⟨is,e1,e2⟩:=key (kn fs ns.length r h) λx hx=>zGr hx;have hpos:0<is.length:=by rw[e2];exact vK (zDl fs ns.length h hh r)
 match is,hpos,e1 with
 | i::is,_,e1 =>
  refine⟨is.foldl (λa b=>if b<a then b else a) i,?_⟩;rw[e1];unfold yf;rw[nV,jv];rfl
theorem zyR {f:FL}{ψ:En}{ns:List D}{fs:List Fl}{r h:Nat}(hf:f ψ=Ga (yE ns fs r h))(n5:ns.length<=5):iQ f (λ_=>Ga true) (ib gZ (gv 0) (iO (.int 1))) [] ψ=Ga ((kn fs ns.length r h).map λo=>ns.getD o .none):=by
 have hlen:(yE ns fs r h).length<=1000000:=by
  unfold yE kn;rw[jd];have:=ku (λo=>Tf fs ns.length r h o) (je ns.length);rw[jD] at this;omega
 refine(wm hf hlen).trans ((Ac (F:=λd=>match d with|.tuple [_,x]=>x|_=>.none) (λd hd=>?_)).trans ?_)
 .obtain⟨o,_,rfl⟩:=jz.mp hd;rfl
 .unfold yE;rw[jN];rfl
theorem zAM (ns:List D)(fs:List Fl)(hi:∀ d∈ns,∃ i:Int,d=.int i)(n5:ns.length<=5)(r h:Nat)(hr:r<=4)(hh:h<ns.length){m:Int}(hm:yf ((kn fs ns.length r h).map λo=>ns.getD o .none)=Ga (.int m)):AY [vw ns fs r h]=Ga (.int m):=by
 have hk:=zAL ns fs hi n5 r h hr hh;show hJ (Hs [.val (vw ns fs r h)])=_;generalize vw ns fs r h=v at hk;unfold Hs;have e:iQ (ng (gY FX (gP (gv 0) iB))) (λ_=>Ga true) (ib gZ (gv 0) (iO (.int 1))) [] [.val v]=Ga ((kn fs ns.length r h).map λo=>ns.getD o .none) :=
  zyR (QQ ((mv (ds:=[v]) rfl).trans hk) rfl) n5
 exact(congrArg hJ (oG ((HV e).trans hm))).trans rfl
theorem zGs:∀ (b0 b1 b2 b3 b4:Bool) (h:Fin 5),vS (mB b0 b1 b2 b3 b4) (2^h.val)=mB (b0||h.val==0) (b1||h.val==1) (b2||h.val==2) (b3||h.val==3) (b4||h.val==4):=by nofun
theorem To (a:Sl):∀ (hs:List Int) (b0 b1 b2 b3 b4:Bool) (x:Sl),(∀ h∈hs,0<=h/\h<5) ->
  ∃ x',iV (mf 2) (iH 1 (ib Af (gv 1) (gY xS (gP (gv 2) iB)))) (hs.map jc) [a,.val (.int (mB b0 b1 b2 b3 b4)),x] =
   Ga (.nx [a,.val (.int (mB (b0||hs.contains 0) (b1||hs.contains 1) (b2||hs.contains 2) (b3||hs.contains 3) (b4||hs.contains 4))),x'])
 | [],b0,b1,b2,b3,b4,x,_=>⟨x,by simp only[Jz,iV,List.contains_nil,uI]⟩
 | h::r,b0,b1,b2,b3,b4,x,hh=>by
  obtain⟨h0,h5⟩:=hh h jh;obtain⟨x',e⟩:=To a r (b0||h.toNat==0) (b1||h.toNat==1) (b2||h.toNat==2) (b3||h.toNat==3) (b4||h.toNat==4) (.val (.int h)) (λy hy=>hh y (jo _ hy));refine⟨x',?_⟩;have hm:=zGs b0 b1 b2 b3 b4 ⟨h.toNat,by omega⟩;dsimp only at hm;have hb:(ib Af (gv 1) (gY xS (gP (gv 2) iB))) [a,.val (.int (mB b0 b1 b2 b3 b4)),.val (.int h)]=Ga (.int (mB (b0||h.toNat==0) (b1||h.toNat==1) (b2||h.toNat==2) (b3||h.toNat==3) (b4||h.toNat==4))) :=
   (pe (a:=.int (mB b0 b1 b2 b3 b4)) rfl ((mv rfl).trans (IZ h h0 (by omega)))).trans (congrArg (λz=>Ga (jc z)) hm)
  rw[jK];unfold iV;rw[show(mf 2 (jc h) [a,.val (.int (mB b0 b1 b2 b3 b4)),x])=Ga [a,.val (.int (mB b0 b1 b2 b3 b4)),.val (.int h)] from rfl,jv,xh hb];refine e.trans ?_;have c:∀ k:Nat,((h.toNat==k)||r.contains (k:Int))=(h::r).contains (k:Int):=λk=>by
   rw[qh]
   congr 1
   rw[jV,beq_iff_eq,beq_iff_eq];omega
  simp only[Bool.or_assoc];rw[show((h.toNat==0)||r.contains (0:Int))=_ from c 0,show((h.toNat==1)||r.contains (1:Int))=_ from c 1,show((h.toNat==2)||r.contains (2:Int))=_ from c 2,show((h.toNat==3)||r.contains (3:Int))=_ from c 3,show((h.toNat==4)||r.contains (4:Int))=_ from c 4];rfl
theorem Hm (hs:List Int)(hh:∀ h∈hs,0<=h/\h<5):wz [.list (hs.map jc)]=Ga (.int (mB (hs.contains 0) (hs.contains 1) (hs.contains 2) (hs.contains 3) (hs.contains 4))):=by
 obtain⟨x',e⟩:=To (.val (.list (hs.map jc))) hs false false false false false .no hh;simp only[uq] at e;rw[show mB false false false false false=0 from rfl] at e;show hJ (IG [.val (.list (hs.map jc)),.no,.no])=_;unfold IG;rw[mX (e:=[.val (.list (hs.map jc)),.val (.int 0),.no]) rfl,mX ((wV (ds:=hs.map jc) rfl).trans e)];rfl
theorem SD (n:Nat)(h5:n<=5)(p:Nat->Bool):wz [.list (((je n).filter p).map λ(k:Nat)=>jc (k:Int))]=Ga (.int (mB (decide (0<n)&&p 0) (decide (1<n)&&p 1) (decide (2<n)&&p 2) (decide (3<n)&&p 3) (decide (4<n)&&p 4))):=by
 have e:(((je n).filter p).map λ(k:Nat)=>jc (k:Int))=(((je n).filter p).map λ(k:Nat)=>(k:Int)).map jc:=by rw[jN];rfl
 rw[e,Hm _ (λh hh=>by
  obtain⟨k,hk,rfl⟩:=jz.mp hh;have:=jk.mp (jO.mp hk).1;omega)]
 have c:∀ j:Nat,(((je n).filter p).map λ(k:Nat)=>(k:Int)).contains (j:Int)=(decide (j<n)&&p j):=λj=>by
  rw[jV,jM,jz,jA,decide_eq_true_eq];constructor
  .rintro⟨k,hk,z⟩;have:k=j:=by omega
   subst this;exact⟨jk.mp (jO.mp hk).1,(jO.mp hk).2⟩
  .rintro⟨h1,h2⟩;exact⟨j,jO.mpr ⟨jk.mpr h1,h2⟩,rfl⟩
 have c0:=c 0;have c1:=c 1;have c2:=c 2;have c3:=c 3;have c4:=c 4;rw[show(0:Int)=((0:Nat):Int) from rfl,show(1:Int)=((1:Nat):Int) from rfl,show(2:Int)=((2:Nat):Int) from rfl,show(3:Int)=((3:Nat):Int) from rfl,show(4:Int)=((4:Nat):Int) from rfl,c0,c1,c2,c3,c4]
def hd (fs:List Fl)(h:Nat)(r:Nat)(o:Nat):Bool:=decide (o=h)||cm fs o h (r:Int)
def mH (n:Nat)(p:Nat->Bool):Int:=mB (decide (0<n)&&p 0) (decide (1<n)&&p 1) (decide (2<n)&&p 2) (decide (3<n)&&p 3) (decide (4<n)&&p 4)
theorem TD (ns:List D)(fs:List Fl)(r h:Nat):mm (vw ns fs r h) .none=Ga (.bool true)/\oB (vw ns fs r h) .none=Ga (.bool false):=by
 cases r with
 | zero=>exact⟨rfl,rfl⟩
 | succ r=>exact⟨rfl,rfl⟩
theorem Ui {ns:List D}{fs:List Fl}{r h o:Nat}(ho:o<ns.length):gZ (.tuple ((je ns.length).map λo=>if o=h\/cm fs o h ((r+1:Nat):Int)=true then vw ns fs r o else .none)) (.int o)=Ga (if hd fs h (r+1) o=true then vw ns fs r o else .none):=by
 refine Da ?_;rw[jC,kN ho,vx];refine congrArg Ga ?_;unfold hd;by_cases q:o=h\/cm fs o h ((r+1:Nat):Int)=true
 .rw[Ge q,Ge (by rw[kB,decide_eq_true_eq];exact q)]
 .rw[Gf q,Gf (by rw[kB,decide_eq_true_eq];exact q)]
theorem Ss (ns:List D)(fs:List Fl)(r h:Nat):iU (.tuple ((je ns.length).map λo=>if o=h\/cm fs o h ((r+1:Nat):Int)=true then vw ns fs r o else .none))=Ga (.int ns.length):=by
 show Ga (jc ((JH _ (je ns.length)).length:Nat))=_;rw[jd,jD]
theorem QT (ns:List D)(fs:List Fl)(h5:ns.length<=5)(r h:Nat):Bt [vw ns fs (r+1) h]=Ga (.int (mH ns.length (hd fs h (r+1)))):=by
 show hJ (Nv [.val (vw ns fs (r+1) h),.no])=_;have hg:=λo (ho:o<ns.length)=>Ui (ns:=ns) (fs:=fs) (r:=r) (h:=h) ho;have hl:=Ss ns fs r h;unfold vw;generalize j3 ((je ns.length).map λo=>if o=h\/cm fs o h ((r+1:Nat):Int)=true then vw ns fs r o else uc)=P at hg hl;unfold Nv;rw[mX (e:=[.val (.tuple [.int h,P]),.val P]) rfl];have ec:iQ (mM la (un iU (gv 1))) (lh mm (ib gZ (gv 1) (gv 0)) (iO .none)) (gv 0) [1] [.val (.tuple [.int h,P]),.val P]=Ga (((je ns.length).filter (hd fs h (r+1))).map λ(k:Nat)=>jc (k:Int)):=by
  refine(wm (ds:=lX 0 ns.length) ((xf (a:=.int ns.length) ((wv (a:=P) rfl).trans hl)).trans (tX (by omega))) (by rw[zd];omega)).trans ((Bx (p:=λd=>match d with|.int t=>hd fs h (r+1) t.toNat|_=>false) (F:=id) (λd hd'=>?_) (λd hd' _=>rfl)).trans ?_)
  .rw[rP] at hd';obtain⟨o,ho,rfl⟩:=jz.mp hd';have ho':=jk.mp ho;show lh _ _ _ [.val (.int o),.val P]=Ga (hd fs h (r+1) (o:Int).toNat);rw[j5];refine rZ ((pe (a:=P) (b:=.int o) rfl rfl).trans (hg o ho')) rfl ?_;cases hd fs h (r+1) o with
   | true=>rw[Ge rfl];exact(TD ns fs r o).1
   | false=>rw[Gf jr];rfl
  .rw[rP,uZ,jN];rfl
 rw[oG (d:=.int (mH ns.length (hd fs h (r+1)))) ((mv (ds:=[.list (((je ns.length).filter (hd fs h (r+1))).map λ(k:Nat)=>jc (k:Int))]) (yN (xk ec) rfl)).trans (SD _ h5 _))];rfl
theorem Sz (ns:List D)(fs:List Fl)(h5:ns.length<=5)(r h:Nat):zS [vw ns fs (r+1) h]=Ga (.int (mH ns.length (λo=>!hd fs h (r+1) o))):=by
 show hJ (HF [.val (vw ns fs (r+1) h),.no])=_;have hg:=λo (ho:o<ns.length)=>Ui (ns:=ns) (fs:=fs) (r:=r) (h:=h) ho;have hl:=Ss ns fs r h;unfold vw;generalize j3 ((je ns.length).map λo=>if o=h\/cm fs o h ((r+1:Nat):Int)=true then vw ns fs r o else uc)=P at hg hl;unfold HF;rw[mX (e:=[.val (.tuple [.int h,P]),.val P]) rfl];have ec:iQ (mM la (un iU (gv 1))) (lh oB (ib gZ (gv 1) (gv 0)) (iO .none)) (gv 0) [1] [.val (.tuple [.int h,P]),.val P]=Ga (((je ns.length).filter (λo=>!hd fs h (r+1) o)).map λ(k:Nat)=>jc (k:Int)):=by
  refine(wm (ds:=lX 0 ns.length) ((xf (a:=.int ns.length) ((wv (a:=P) rfl).trans hl)).trans (tX (by omega))) (by rw[zd];omega)).trans ((Bx (p:=λd=>match d with|.int t=>!hd fs h (r+1) t.toNat|_=>false) (F:=id) (λd hd'=>?_) (λd hd' _=>rfl)).trans ?_)
  .rw[rP] at hd';obtain⟨o,ho,rfl⟩:=jz.mp hd';have ho':=jk.mp ho;show lh _ _ _ [.val (.int o),.val P]=Ga (!hd fs h (r+1) (o:Int).toNat);rw[j5];refine rZ ((pe (a:=P) (b:=.int o) rfl rfl).trans (hg o ho')) rfl ?_;cases hd fs h (r+1) o with
   | true=>rw[Ge rfl];exact(TD ns fs r o).2
   | false=>rw[Gf jr];rfl
  .rw[rP,uZ,jN];rfl
 rw[oG (d:=.int (mH ns.length (λo=>!hd fs h (r+1) o))) ((mv (ds:=[.list (((je ns.length).filter (λo=>!hd fs h (r+1) o)).map λ(k:Nat)=>jc (k:Int))]) (yN (xk ec) rfl)).trans (SD _ h5 _))];rfl
def cf (c0 c1 c2 c3 c4:Bool)(k:Nat):Bool:=match k with|0=>c0|1=>c1|2=>c2|3=>c3|4=>c4|_=>false
theorem zAN:∀ (n:Fin 6) (q0 q1 q2 q3 q4:Bool),0<n.val->((mB (decide (0<n.val)&&!q0) (decide (1<n.val)&&!q1) (decide (2<n.val)&&!q2) (decide (3<n.val)&&!q3) (decide (4<n.val)&&!q4)==0)=(mB (decide (0<n.val)&&q0) (decide (1<n.val)&&q1) (decide (2<n.val)&&q2) (decide (3<n.val)&&q3) (decide (4<n.val)&&q4)==2*2^(n.val-1)-1)):=by nofun
def cl (n:Nat)(fs:List Fl)(h r:Nat):Bool:=if r=0 then mH n (hd fs h 1)==2*2^(n-1)-1 else mH n (hd fs h (r+1))==mH n (hd fs h r)
theorem zAO (ns:List D)(fs:List Fl)(G:mT ns.length fs)(hi:∀ d∈ns,∃ i:Int,d=.int i)(r h:Nat)(hh:h<ns.length)(hr:r<50):yh [vw ns fs (r+1) h]=Ga (.bool (cl ns.length fs h r)):=by
 have h5:=G.n5;have h2:=G.n2;show hJ (Io [.val (vw ns fs (r+1) h),.no])=_;have e1:=yP ns fs hi (r+1) h hh (by omega);have e2:=QT ns fs h5 r h;have e3:=Sz ns fs h5 r h;have e4:=Oh ns fs r h hh;generalize hv:vw ns fs (r+1) h=v at e1 e2 e3 e4;unfold Io;rw[mX (e:=[.val v,.val (.int ((r+1:Nat):Int))]) (xh ((mv (ds:=[v]) rfl).trans e1))];rw[mX (sX (rZ (x:=.int ((r+1:Nat):Int)) (y:=.int 0) (b:=false) rfl rfl ((tK _ _).trans (by congr 2))))];have c1:lh lj (gv 1) (iO (.int 1)) (frz [.val v,.val (.int ((r+1:Nat):Int))])=Ga (decide (r=0)):=by
  refine rZ (x:=.int ((r+1:Nat):Int)) (y:=.int 1) rfl rfl ((tK _ _).trans ?_)
  congr 2;rw[jV,beq_iff_eq,decide_eq_true_eq];omega
 unfold cl;by_cases q:r=0
 .rw[Ge q];have am:((mH ns.length (λo=>!hd fs h (r+1) o))==0)=(mH ns.length (hd fs h 1)==2*2^(ns.length-1)-1):=by
   rw[q];exact zAN ⟨ns.length,by omega⟩ _ _ _ _ _ (by show 0<ns.length;omega)
  rw[zI (d:=.bool (mH ns.length (hd fs h 1)==2*2^(ns.length-1)-1)) ((wB (c1.trans (congrArg Ga (Gc q)))).trans (oG ((pe (b:=.int 0) ((mv (ds:=[v]) rfl).trans e3) rfl).trans ((tK _ _).trans (congrArg (λz=>Ga (jP z)) am)))))];rfl
 .rw[Gf q,mX (sX (c1.trans (congrArg Ga (Gd q))))];obtain⟨r',rfl⟩:∃ r',r=r'+1:=⟨r-1,by omega⟩;have e5:=QT ns fs h5 r' h;rw[oG (d:=.bool (mH ns.length (hd fs h (r'+1+1))==mH ns.length (hd fs h (r'+1)))) ((pe ((mv (ds:=[v]) rfl).trans e2) ((mv (ds:=[vw ns fs (r'+1) h]) (yN ((mv (ds:=[v]) rfl).trans e4) rfl)).trans e5)).trans (tK _ _))];rfl
theorem Yg:∀ b0 b1 b2 b3 b4 c0 c1 c2 c3 c4:Bool,vS (mB b0 b1 b2 b3 b4) (mB c0 c1 c2 c3 c4)=mB (b0||c0) (b1||c1) (b2||c2) (b3||c3) (b4||c4):=by nofun
theorem CG (a b c:Bool):(a&&b||a&&c)=(a&&(b||c)):=by cases a<;>rfl
theorem XH (n:Nat)(p q:Nat->Bool):vS (mH n p) (mH n q)=mH n λo=>p o||q o:=by
 unfold mH;rw[Yg,CG,CG,CG,CG,CG]
theorem Df (n:Nat)(p q:Nat->Bool)(h:∀ o,o<n->p o=q o):mH n p=mH n q:=by
 have e:∀ k,(decide (k<n)&&p k)=(decide (k<n)&&q k):=λk=>by
  by_cases hk:k<n
  .rw[h k hk]
  .rw[Gd hk];rfl
 unfold mH;rw[e 0,e 1,e 2,e 3,e 4]
theorem zDm (n:Nat):mH n (λ_=>false)=0:=by
 unfold mH;rw[ud,ud,ud,ud,ud];rfl
noncomputable def tr (P:Prop):Bool:=@decide P (uf P)
theorem xY {P:Prop}:tr P=true↔P:=by unfold tr;exact @decide_eq_true_iff P (uf P)
theorem VH {P Q:Prop}(h:P↔Q):tr P=tr Q:=by rw[jV,xY,xY];exact h
def Lq (fs:List Fl)(n r h q x:Nat):Prop:=∃ o,Rb fs n r h (r-(q+1)) o/\hd fs o (q+1) x=false
def Lk (fs:List Fl)(n r h k x:Nat):Prop:=∃ q,q<k/\q<r/\Lq fs n r h q x
theorem zFg (Ls:List D)(r k:Nat)(hl:Ls.length=r+1)(hk:k<=r+1):pS Ls (Ga 1) (Ga ((k:Int)+1))=(je (min k r)).map λj=>Ls.getD (j+1) .none:=by
 have s1:HT.sIx Ls.length 0 (Ga 1)=1:=by rw[hl];exact(HT.sIx_nat (r+1) 0 1).trans (by omega)
 have s2:HT.sIx Ls.length Ls.length (Ga ((k:Int)+1))=min (k+1) (r+1):=by rw[hl,show(k:Int)+1=((k+1:Nat):Int) by omega];exact HT.sIx_nat _ _ _
 unfold pS;rw[s1,s2];refine JJ λi=>?_;rw[List.getElem?_take,List.getElem?_drop,jC];by_cases hi:i<min k r
 .rw[Ge (by omega),kN hi,vx,jg,show 1+i=i+1 by omega,ji (show i+1<Ls.length by omega)];rfl
 .rw[Gf (by omega),kf (by rw[jD];omega)];rfl
theorem Vy (ns:List D)(fs:List Fl)(hi:∀ d∈ns,∃ i:Int,d=.int i)(n5:ns.length<=5)(r h k:Nat)(hr:r<=4)(hh:h<ns.length)(hk:k<=r+1):wQ [vw ns fs r h,.int k]=Ga (.int (mH ns.length λx=>tr (Lk fs ns.length r h k x))):=by
 obtain⟨Ls,e1,hl,hL⟩:=RT ns fs hi n5 r h hr hh;show hJ (HK [.val (vw ns fs r h),.val (.int k),.no,.no,.no])=_;generalize vw ns fs r h=v at e1;have Lp:=AR (t:=mf 3) (g:=mS (ng (gv 3)) (mf 4) (iH 2 (ib Af (gv 2) (gY zS (gP (gv 4) iB))))) (λ(j:Nat)=>Ls.getD (j+1) .none)
  (λpre ψ=>∃ (x3 x4:Sl),ψ=[.val v,.val (.int k),.val (.int (mH ns.length λx=>tr (∃ q∈pre,Lq fs ns.length r h q x))),x3,x4])
  (je (min k r)) (by
   intro pre q suf hx ψ hI;obtain⟨x3,x4,rfl⟩:=hI;have hq:q<min k r:=jk.mp (by rw[hx];exact jG _ jh);obtain⟨d,hdd,A,rfl,nA,lA,mA⟩:=hL (q+1) (by omega);have eg:Ls.getD (q+1) .none=.list (A.map (vw ns fs (q+1))):=by
    rw[jg,hdd,show r-(r-(q+1))=q+1 by omega];rfl
   rw[eg];refine⟨[.val v,.val (.int k),.val (.int (mH ns.length λx=>tr (∃ q∈pre,Lq fs ns.length r h q x))),.val (.list (A.map (vw ns fs (q+1)))),x4],?_⟩;have Lr:=AR (t:=mf 4) (g:=iH 2 (ib Af (gv 2) (gY zS (gP (gv 4) iB)))) (vw ns fs (q+1))
    (λpr ψ=>∃ (x4:Sl),ψ=[.val v,.val (.int k),.val (.int (mH ns.length λx=>tr (∃ q∈pre,Lq fs ns.length r h q x)||tr (∃ o∈pr,hd fs o (q+1) x=false))),.val (.list (A.map (vw ns fs (q+1)))),x4])
    A (by
     intro pr o sf hy ψ hI;obtain⟨x4,rfl⟩:=hI;refine⟨[.val v,.val (.int k),.val (.int (mH ns.length λx=>tr (∃ q∈pre,Lq fs ns.length r h q x)||tr (∃ o∈pr,hd fs o (q+1) x=false))),.val (.list (A.map (vw ns fs (q+1)))),.val (vw ns fs (q+1) o)],_,rfl,xh ((pe (a:=.int (mH ns.length λx=>tr (∃ q∈pre,Lq fs ns.length r h q x)||tr (∃ o∈pr,hd fs o (q+1) x=false))) (b:=.int (mH ns.length λx=>!hd fs o (q+1) x)) rfl ((mv (ds:=[vw ns fs (q+1) o]) rfl).trans (Sz ns fs n5 q o))).trans (congrArg (λz=>Ga (jc z)) ((XH _ _ _).trans (Df _ _ _ λx hx=>?_)))),_,rfl⟩;rw[Bool.or_assoc];refine congrArg (tr (∃ q∈pre,Lq fs ns.length r h q x)||·) ?_;rw[jV,kB,xY,xY,kF];constructor
     .rintro(⟨o',z1,z2⟩|z)
      .exact⟨o',uC _ z1,z2⟩
      .exact⟨o,jG _ jh,z⟩
     .rintro⟨o',z1,z2⟩;rcases jI.mp z1 with z1|z1
      .exact .inl ⟨o',z1,z2⟩
      .rw[jj.mp z1] at z2;exact .inr z2)
    A [] [.val v,.val (.int k),.val (.int (mH ns.length λx=>tr (∃ q∈pre,Lq fs ns.length r h q x))),.val (.list (A.map (vw ns fs (q+1)))),x4] rfl ⟨x4,by
     rw[Df ns.length (λx=>tr (∃ q∈pre,Lq fs ns.length r h q x)) (λx=>tr (∃ q∈pre,Lq fs ns.length r h q x)||tr (∃ o∈([]:List Nat),hd fs o (q+1) x=false)) λx _=>?_];rw[show tr (∃ o∈([]:List Nat),hd fs o (q+1) x=false)=false from(by rw[<- ka,xY];rintro⟨_,z,_⟩;cases z),uI]⟩
   obtain⟨e,e2,y4,rfl⟩:=Lr;refine⟨_,rfl,(wV (ds:=A.map (vw ns fs (q+1))) rfl).trans e2,.val (.list (A.map (vw ns fs (q+1)))),y4,?_⟩;rw[Df ns.length (λx=>tr (∃ q∈pre,Lq fs ns.length r h q x)||tr (∃ o∈A,hd fs o (q+1) x=false)) (λx=>tr (∃ q'∈pre++[q],Lq fs ns.length r h q' x)) λx hx=>?_];rw[jV,kB,xY,xY,xY];constructor
   .rintro(⟨q',z1,z2⟩|⟨o,z1,z2⟩)
    .exact⟨q',uC _ z1,z2⟩
    .exact⟨q,jG _ jh,o,(mA o).mp z1,z2⟩
   .rintro⟨q',z1,z2⟩;rcases jI.mp z1 with z1|z1
    .exact .inl ⟨q',z1,z2⟩
    .rw[jj.mp z1] at z2;obtain⟨o,z3,z4⟩:=z2;exact .inr ⟨o,(mA o).mpr z3,z4⟩)
  (je (min k r)) [] [.val v,.val (.int k),.val (.int 0),.no,.no] rfl ⟨.no,.no,by
   rw[Df ns.length (λx=>tr (∃ q∈([]:List Nat),Lq fs ns.length r h q x)) (λ_=>false) λx _=>?_,zDm];rw[<- ka,xY];rintro⟨_,z,_⟩;cases z⟩
 obtain⟨e,e2,x3,x4,rfl⟩:=Lp;unfold HK;rw[mX (e:=[.val v,.val (.int k),.val (.int 0),.no,.no]) rfl];have es:zM (gY yR (gP (gv 0) iB)) (se (iO (.int 1))) (se (ib lr (gv 1) (iO (.int 1)))) [.val v,.val (.int k),.val (.int 0),.no,.no]=Ga (.list ((je (min k r)).map λ(j:Nat)=>Ls.getD (j+1) .none)):=by
  have el:gY yR (gP (gv 0) iB) [.val v,.val (.int k),.val (.int 0),.no,.no]=Ga (.list Ls):=(mv (ds:=[v]) rfl).trans e1;unfold zM;rw[el,<- zFg Ls r k hl hk];rfl
 rw[mX ((wV (QQ es rfl)).trans e2)];show Ga (jc (mH ns.length λx=>tr (∃ q∈je (min k r),Lq fs ns.length r h q x)))=_;refine congrArg (λz=>Ga (jc z)) (Df _ _ _ λx _=>VH ?_);constructor
 .rintro⟨q,z1,z2⟩;have:=jk.mp z1;exact⟨q,by omega,by omega,z2⟩
 .rintro⟨q,z1,z2,z3⟩;exact⟨q,jk.mpr (by omega),z3⟩
def pr (x b:Nat):D:=.tuple [.int (x:Int),.int (b:Int)]
theorem Uc (ns:List D)(fs:List Fl)(h:Nat)(hh:h<ns.length)(b:Sl):∀ (ds:List D) (r:Nat) (x:Sl),ds.length<=r->∃ x',iV (mf 2) (iH 0 (gY Aa (gP (gv 0) iB))) ds [.val (vw ns fs r h),b,x]=Ga (.nx [.val (vw ns fs (r-ds.length) h),b,x'])
 | [],r,x,_=>⟨x,rfl⟩
 | d::ds,r,x,hl=>by
  rw[jX] at hl ⊢;obtain⟨r',rfl⟩:∃ r',r=r'+1:=⟨r-1,by omega⟩;obtain⟨x',e⟩:=Uc ns fs h hh b ds r' (.val d) (by omega);refine⟨x',?_⟩;unfold iV;rw[show mf 2 d [.val (vw ns fs (r'+1) h),b,x]=Ga [.val (vw ns fs (r'+1) h),b,.val d] from rfl,jv];rw[xh (d:=vw ns fs r' h) ((mv (ds:=[vw ns fs (r'+1) h]) rfl).trans (Oh ns fs r' h hh))];rw[show r'+1-(ds.length+1)=r'-ds.length by omega];exact e
theorem Gz (ns:List D)(fs:List Fl)(hi:∀ d∈ns,∃ i:Int,d=.int i)(r q h:Nat)(hh:h<ns.length)(hr:r<100)(hq:q<=r):Aq [vw ns fs r h,.int q]=Ga (vw ns fs q h):=by
 show hJ (Hv [.val (vw ns fs r h),.val (.int q),.no])=_;unfold Hv;have er:mM la (ib lP (gY pf (gP (gv 0) iB)) (gv 1)) [.val (vw ns fs r h),.val (.int q),.no]=Ga (lX 0 (r-q)):=by
  refine(xf (a:=.int ((r-q:Nat):Int)) ((pe (a:=.int r) (b:=.int q) ((mv (ds:=[vw ns fs r h]) rfl).trans (yP ns fs hi r h hh hr)) rfl).trans ?_)).trans (tX (by omega));show Ga (jc ((r:Int)-q))=_;rw[show(r:Int)-q=((r-q:Nat):Int) by omega]
 obtain⟨x',e⟩:=Uc ns fs h hh (.val (.int q)) (lX 0 (r-q)) r .no (by rw[zd];omega);rw[zd,show r-(r-q)=q by omega] at e;rw[mX ((wV er).trans e)];rfl
theorem Bc {α:Type}{fc:FB}{fe:FV}{base:En}(f:α->D)(p:α->Bool)(F:α->D):∀ {l:List α},(∀ a∈l,fc (.val (f a)::base)=Ga (p a))->(∀ a∈l,p a=true->fe (.val (f a)::base)=Ga (F a))->lw fc fe base (l.map f)=Ga ((l.filter p).map F)
 | [],_,_=>rfl
 | x::r,h1,h2=>by
  have ih:=Bc (fc:=fc) (fe:=fe) (base:=base) f p F (l:=r) (λa ha=>h1 a (jo _ ha)) (λa ha=>h2 a (jo _ ha));rw[jK];unfold lw;rw[h1 x jh,jv];cases c:p x with
  | true=>rw[Ge rfl,h2 x jh c,jv,ih,ky c];rfl
  | false=>rw[Gf jr,ih,kG (by rw[c];exact jr)]
theorem ze {α:Type}{fe:FV}{base:En}(f:α->D)(F:α->D){l:List α}(h2:∀ a∈l,fe (.val (f a)::base)=Ga (F a)):lw (λ_=>Ga true) fe base (l.map f)=Ga (l.map F):=by
 rw[Bc (fc:=λ_=>Ga true) f (λ_=>true) F (λ_ _=>rfl) (λa ha _=>h2 a ha)];rw[List.filter_eq_self.mpr (λ_ _=>rfl)]
def pt (ns:List D)(fs:List Fl)(r h o:Nat):D:=if hd fs h (r+1) o=true then vw ns fs r o else .none
theorem Zt (ns:List D)(fs:List Fl)(r h:Nat):∃ ds,vw ns fs r h=.tuple ds:=by cases r<;>exact⟨_,rfl⟩
noncomputable def lc (n:Nat)(fs:List Fl)(r h k:Nat):Nat:=((je n).filter λx=>tr (Lk fs n r h k x)).length
theorem ZV:∀ (n:Fin 6) (b0 b1 b2 b3 b4:Bool),(Cv (decide (0<n.val)&&b0) (decide (1<n.val)&&b1) (decide (2<n.val)&&b2) (decide (3<n.val)&&b3) (decide (4<n.val)&&b4)).length=((je n.val).filter (cf b0 b1 b2 b3 b4)).length:=by nofun
theorem Xf (p:Nat->Bool){x:Nat}(h:x<5):cf (p 0) (p 1) (p 2) (p 3) (p 4) x=p x:=by
 match x,h with
 | 0,_=>rfl
 | 1,_=>rfl
 | 2,_=>rfl
 | 3,_=>rfl
 | 4,_=>rfl
theorem WO (n:Nat)(n5:n<=5)(p:Nat->Bool):(Cv (decide (0<n)&&p 0) (decide (1<n)&&p 1) (decide (2<n)&&p 2) (decide (3<n)&&p 3) (decide (4<n)&&p 4)).length=((je n).filter p).length:=by
 rw[ZV ⟨n,by omega⟩];refine congrArg JT (u7 λx hx=>?_);have:=jk.mp hx;exact Xf p (by show x<5;have:x<n:=this;omega)
theorem Yp (ns:List D)(fs:List Fl)(hi:∀ d∈ns,∃ i:Int,d=.int i)(n5:ns.length<=5)(r h k:Nat)(hr:r<=4)(hh:h<ns.length)(hk:k<=r+1):∃ (m:Int) (L:List D),wQ [vw ns fs r h,.int k]=Ga (.int m)/\rD [.int m]=Ga L/\L.length=lc ns.length fs r h k:=by
 refine⟨_,_,Vy ns fs hi n5 r h k hr hh hk,SN _ _ _ _ _,?_⟩;rw[jd];exact WO ns.length n5 λx=>tr (Lk fs ns.length r h k x)
theorem Qu {r:Nat}(h:r<1000):oh (.int 1) (.int (r:Int))=Ga ((je (r-1)).map λ(k:Nat)=>.int ((k+1:Nat):Int)):=by
 unfold oh;dsimp only;rw[Ge ⟨by decide,by decide,by omega,by omega⟩];unfold lX;rw[show((r:Int)-1).toNat=r-1 by omega];refine congrArg Ga (jR λk _=>?_);exact congrArg jc (by omega)
noncomputable def ws (n:Nat)(fs:List Fl)(r h s:Nat):Int:=(je s).foldl (λa k=>if a<(lc n fs r h (k+1):Int)-((k+1:Nat):Int) then(lc n fs r h (k+1):Int)-((k+1:Nat):Int) else a) 0
theorem zyU (l:List Int):Cm (0::l)=Ga (l.foldl (λa b=>if a<b then b else a) 0):=rfl
theorem nV (l:List Int):ny (l.map jc)=Ga l:=by
 induction l with
 | nil=>rfl
 | cons i r ih=>rw[jK];show(ny (r.map jc)).bind _=_;rw[ih];rfl
theorem ZN (V:D)(R M:Int)(L1 L2 L3:List D)(er:pf [V]=Ga (.int R))(e0:oh (.int 1) (.int R)=Ga L1)(hn:L1.length<=1000000)(hc:lw (λ_=>Ga true) (gW lP (nW iU (nZ (pL rD (gX (ig wQ (gX (gv 1) (gX (gv 0) lD))) lD)))) (gv 0)) [.val V] L1=Ga L2)(ha:lr (.list [.int 0]) (.list L2)=Ga (.list L3))(hx:tm L3=Ga (.int M)):Az [V]=Ga (.int M):=by
 rw[Xl];unfold Ku;simp_arith[oZ,er,e0,Ge hn,hc,ha,hx]
theorem zDo (A:List D->Option D)(B:List D->Option (List D))(V:D)(kk m:Int)(L:List D)(h1:A [V,.int kk]=Ga (.int m))(h2:B [.int m]=Ga L):(pL B (gX (ig A (gX (gv 1) (gX (gv 0) lD))) lD)) [.val (.int kk),.val V]=Ga L:=by simp_arith[h1,h2]
theorem zDp (V:D)(kk m:Int)(L:List D)(c:Int)(h1:wQ [V,.int kk]=Ga (.int m))(h2:rD [.int m]=Ga L)(h3:iU (.list L)=Ga (.int c)):(gW lP (nW iU (nZ (pL rD (gX (ig wQ (gX (gv 1) (gX (gv 0) lD))) lD)))) (gv 0)) [.val (.int kk),.val V]=Ga (.int (c-kk)):=by
 have hB:=zDo wQ rD V kk m L h1 h2;have hA:(nW iU (nZ (pL rD (gX (ig wQ (gX (gv 1) (gX (gv 0) lD))) lD)))) [.val (.int kk),.val V]=Ga (.int c):=by
  rw[PK,TB,hB];exact h3
 rw[TM,hA];rfl
theorem zAS (ns:List D)(fs:List Fl)(hi:∀ d∈ns,∃ i:Int,d=.int i)(n5:ns.length<=5)(r h:Nat)(hr:r<=4)(hh:h<ns.length):Az [vw ns fs r h]=Ga (.int (ws ns.length fs r h (r-1))):=by
 have hl:=λk hk=>Yp ns fs hi n5 r h k hr hh hk;have e0:=Qu (r:=r) (by omega);have er:=yP ns fs hi r h hh (by omega);generalize vw ns fs r h=V at hl er;have hn:((je (r-1)).map λ(k:Nat)=>jc ((k+1:Nat):Int)).length<=1000000:=by rw[jd,jD];omega
 have hc:lw (λ_=>Ga true) (gW lP (nW iU (nZ (pL rD (gX (ig wQ (gX (gv 1) (gX (gv 0) lD))) lD)))) (gv 0)) [.val V] ((je (r-1)).map λ(k:Nat)=>jc ((k+1:Nat):Int))=Ga ((je (r-1)).map λ(k:Nat)=>jc ((lc ns.length fs r h (k+1):Int)-((k+1:Nat):Int))):=by
  refine ze (λ(k:Nat)=>jc ((k+1:Nat):Int)) (λ(k:Nat)=>jc ((lc ns.length fs r h (k+1):Int)-((k+1:Nat):Int))) λk hk=>?_;obtain⟨m,L,h1,h2,h3⟩:=hl (k+1) (by have:=jk.mp hk;omega);exact zDp V _ m L _ h1 h2 (by rw[<- h3];rfl)
 have ha:lr (.list [.int 0]) (.list ((je (r-1)).map λ(k:Nat)=>jc ((lc ns.length fs r h (k+1):Int)-((k+1:Nat):Int))))=Ga (.list ((0::(je (r-1)).map λ(k:Nat)=>((lc ns.length fs r h (k+1):Int)-((k+1:Nat):Int))).map jc)):=by
  have:[jc 0].length+((je (r-1)).map λ(k:Nat)=>jc ((lc ns.length fs r h (k+1):Int)-((k+1:Nat):Int))).length<=sizeLine:=by
   rw[jd,jD,sizeLine_eq];show 1+(r-1)<=_;omega
  unfold lr;dsimp only;rw[Ge this,jK,jN];rfl
 have hx:tm ((0::(je (r-1)).map λ(k:Nat)=>((lc ns.length fs r h (k+1):Int)-((k+1:Nat):Int))).map jc)=Ga (.int (ws ns.length fs r h (r-1))):=by
  unfold tm;rw[nV,jv,zyU,List.foldl_map];rfl
 exact ZN V _ _ _ _ _ er e0 hn hc ha hx
def hl (n:Nat)(p:Nat->Bool):List D:=(je n).map λo=>.bool (p o)
def cn (n:Nat)(fs:List Fl)(h:Nat):Nat->Bool
 | 0=>false
 | r+1=>cl n fs h r
def wZ (n:Nat)(fs:List Fl)(h:Nat):Nat->Bool
 | 0=>false
 | 1=>false
 | r+2=>cn n fs h (r+1)||wZ n fs h (r+1)
theorem Ra (n:Nat)(fs:List Fl)(h:Nat):∀ r,wZ n fs h r=(je (r-1)).any λk=>cn n fs h (k+1)
 | 0=>rfl
 | 1=>rfl
 | r+2=>by
  have ih:=Ra n fs h (r+1);show(cn n fs h (r+1)||wZ n fs h (r+1))=_;rw[ih,show r+1-1=r by omega,show r+2-1=r+1 by omega,kh,List.any_append,Bool.or_comm];simp only[vp,List.any_nil,uI]
theorem ox (l:List Bool):pD (l.map jP)=Ga l:=by
 induction l with
 | nil=>rfl
 | cons i r ih=>rw[jK];show(pD (r.map jP)).bind _=_;rw[ih];rfl
theorem zFi (V:D)(R:Int)(L1 L2:List D)(b:Bool)(er:pf [V]=Ga (.int R))(e0:oh (.int 1) (.int R)=Ga L1)(hn:L1.length<=1000000)(hc:lw (λ_=>Ga true) (ig yh (gX (ig Aq (gX (gv 1) (gX (gv 0) lD))) lD)) [.val V] L1=Ga L2)(hx:Co L2=Ga (.bool b)):Ah [V]=Ga (.bool b):=by
 rw[Wg];unfold IL;simp_arith[oZ,er,e0,Ge hn,hc,hx]
theorem zFj (A B:List D->Option D)(V W:D)(kk:Int)(b:Bool)(h1:A [V,.int kk]=Ga W)(h2:B [W]=Ga (.bool b)):(ig B (gX (ig A (gX (gv 1) (gX (gv 0) lD))) lD)) [.val (.int kk),.val V]=Ga (.bool b):=by simp_arith[h1,h2]
def fd (f:Fl):D:=.tuple [.int f.h,.int f.a,.int f.m]
def rd (ns:List D)(fs:List Fl):D:=.tuple [.tuple ns,.tuple (fs.map fd)]
def bk (d:D):Fl:=match d with
 | .tuple [.int a,.int b,.int c]=>⟨a.toNat,b,c.toNat⟩
 | _=>⟨0,0,0⟩
theorem Si {i:Nat}{f:FL}{ψ e:En}{d:List D}(h:f ψ=Ga d)(he:frzAt i (ψ.set i (.own d))=e):AH i (sB i f) ψ=Ga (.nx e):=by rw[VQ (zGf h),he]
theorem eqH (f:Fl)(h:Nat):lj (.int f.h) (.int h)=Ga (.bool (f.h==h)):=by
 rw[tK];congr 2;rw[jV,beq_iff_eq,beq_iff_eq];omega
def xC (fs:List Fl)(h:Nat):D:=match mJ fs h with|some f=>fd f|none=>.none
theorem Tw (a:Sl)(h:Nat):∀ (fs:List Fl) (x:Sl),
  (mJ fs h=Gb->∃ x',iV (mf 2) (mV (lh lj (ib gZ (gv 2) (iO (.int 0))) (gv 1)) (iZ (gv 2)) nE) (fs.map fd) [a,.val (.int h),x]=Ga (.nx [a,.val (.int h),x'])) /\
  (∀ f,mJ fs h=Ga f->iV (mf 2) (mV (lh lj (ib gZ (gv 2) (iO (.int 0))) (gv 1)) (iZ (gv 2)) nE) (fs.map fd) [a,.val (.int h),x]=Ga (.rt (fd f)))
 | [],x=>⟨λ_=>⟨x,rfl⟩,λf e=>by cases e⟩
 | f::r,x=>by
  obtain⟨i1,i2⟩:=Tw a h r (.val (fd f));have hc:lh lj (ib gZ (gv 2) (iO (.int 0))) (gv 1) (frz [a,.val (.int h),.val (fd f)])=Ga (f.h==h):=rZ (x:=.int f.h) (y:=.int h) rfl rfl (eqH f h);by_cases hh:(f.h==h)=true
  .have ef:mJ (f::r) h=Ga f:=by unfold mJ;exact kz (p:=λ(f:Fl)=>f.h==h) hh
   rw[ef];refine⟨λe=>by(cases e),λf' e=>?_⟩;cases e;rw[jK];unfold iV;rw[show mf 2 (fd f) [a,.val (.int h),x]=Ga [a,.val (.int h),.val (fd f)] from rfl,jv,wB (hc.trans (congrArg Ga hh))];rfl
  .have ef:mJ (f::r) h=mJ r h:=by unfold mJ;exact kx (p:=λ(f:Fl)=>f.h==h) hh
   have hf:(f.h==h)=false:=by cases hq:(f.h==h) with|true=>exact absurd hq hh|false=>rfl
   have st:∀ o,iV (mf 2) (mV (lh lj (ib gZ (gv 2) (iO (.int 0))) (gv 1)) (iZ (gv 2)) nE) (r.map fd) [a,.val (.int h),.val (fd f)]=o->iV (mf 2) (mV (lh lj (ib gZ (gv 2) (iO (.int 0))) (gv 1)) (iZ (gv 2)) nE) ((f::r).map fd) [a,.val (.int h),x]=o:=by
    intro o e;rw[jK];rw[show ∀ t g d (ds:List D) ψ,iV t g (d::ds) ψ=(t d ψ).bind λe1=>(g e1).bind λo=>match o with|.nx e=>iV t g ds e|.ct e=>iV t g ds e|.bk e=>Ga (.nx e)|.rt d=>Ga (.rt d)|.ro ds=>Ga (.ro ds)|.rm a k=>Ga (.rm a k)|.rc d e=>Ga (.rc d e) from λ_ _ _ _ _=>rfl];rw[show mf 2 (fd f) [a,.val (.int h),x]=Ga [a,.val (.int h),.val (fd f)] from rfl,jv,sX (hc.trans (congrArg Ga hf))];exact e
   rw[ef];exact⟨λe=>by obtain⟨x',e'⟩:=i1 e;exact⟨x',st _ e'⟩,λf' e=>st _ (i2 f' e)⟩
theorem Lm (ns:List D)(fs:List Fl)(h:Nat):zV [rd ns fs,.int h]=Ga (xC fs h):=by
 obtain⟨i1,i2⟩:=Tw (.val (rd ns fs)) h fs .no;show hJ (Oj [.val (rd ns fs),.val (.int h),.no])=_;unfold Oj xC;cases e:mJ fs h with
 | none =>
  obtain⟨x',e'⟩:=i1 e;rw[mX ((wV (ds:=fs.map fd) rfl).trans e')];rfl
 | some f=>rw[zI ((wV (ds:=fs.map fd) rfl).trans (i2 f e))];rfl
theorem TR (ns:List D)(fs:List Fl)(h:Nat)(r:Int):Bf [rd ns fs,.int h,.int r]=Ga (.bool (up fs h r)):=by
 show hJ (HQ [.val (rd ns fs),.val (.int h),.val (.int r),.no])=_;unfold HQ;rw[mX (e:=[.val (rd ns fs),.val (.int h),.val (.int r),.val (xC fs h)]) (xh ((mv (ds:=[rd ns fs,.int h]) rfl).trans (Lm ns fs h)))];unfold xC up;cases mJ fs h<;>rfl
theorem DA (ns:List D)(fs:List Fl):pk [rd ns fs]=Ga (.int ns.length):=rfl
theorem Dl (ns:List D)(fs:List Fl)(r:Int)(hn:ns.length<=5):sJ [rd ns fs,.int r]=Ga (((je ns.length).filter λh=>up fs h r).map λ(h:Nat)=>jc (h:Int)):=by
 show rQ (KG [.val (rd ns fs),.val (.int r)])=_;have ei:(mM la (gY pk (gP (gv 0) iB))) [.val (rd ns fs),.val (.int r)]=Ga (lX 0 ns.length) :=
  (xf (a:=.int ns.length) ((mv (ds:=[rd ns fs]) rfl).trans (DA ns fs))).trans (tX (by omega))
 have e:=SJ ((wm (fc:=nJ (gY Bf (gP (gv 2) (gP (gv 0) (gP (gv 1) iB))))) (fe:=gv 0) (ix:=[1,0]) ei (by rw[zd];omega)).trans (Bx (p:=λd=>match d with|.int h=>up fs h.toNat r|_=>false) (F:=id) (λd hd=>by
  rw[rP] at hd;obtain⟨k,hk,rfl⟩:=jz.mp hd;exact zg ((mv (ds:=[rd ns fs,.int (k:Int),.int r]) rfl).trans (TR _ _ _ _)) rfl) (λd hd _=>rfl)))
 unfold KG;rw[e,Pv,rP,uZ,jN];rfl
theorem WB:∀ (m:Fin 32) (h:Fin 5),(!(uK (m.val:Int) (2^h.val)==0))=decide ((m.val:Int)/(2^h.val)%2=1):=by nofun
theorem Pk (m h:Nat)(hm:m<32)(hh:h<5):vv [.int m,.int h]=Ga (.bool (decide ((m:Int)/(2^h)%2=1))):=by
 rw[OZ _ _ (by omega) (by omega),j5];exact congrArg (λb=>Ga (jP b)) (WB ⟨m,hm⟩ ⟨h,hh⟩)
def Fg (fs:List Fl)(b t:Nat)(at_:Int):Bool :=
 if b=t then false else if up fs t at_=false then false else match mJ fs b with
  | none=>true
  | some f=>if at_<f.a then true else decide (f.a=at_)&&decide ((f.m:Int)/(2^t)%2=1)
theorem zAU (ns:List D)(fs:List Fl)(b t:Nat)(at_:Int)(G:mT ns.length fs)(ht:t<ns.length):CY [rd ns fs,.int b,.int t,.int at_]=Ga (.bool (Fg fs b t at_)):=by
 have h5:=G.n5;show hJ (Nh [.val (rd ns fs),.val (.int b),.val (.int t),.val (.int at_),.no])=_;unfold Nh;have c1:lh lj (gv 1) (gv 2) (frz [.val (rd ns fs),.val (.int b),.val (.int t),.val (.int at_),.no])=Ga (decide (b=t)):=by
  refine rZ (x:=.int b) (y:=.int t) rfl rfl ((tK _ _).trans ?_)
  congr 2;rw[jV,beq_iff_eq,decide_eq_true_eq];omega
 have c2:rz (nJ (gY Bf (gP (gv 0) (gP (gv 2) (gP (gv 3) iB))))) (frz [.val (rd ns fs),.val (.int b),.val (.int t),.val (.int at_),.no])=Ga (!(up fs t at_)) :=
  LZ (zg ((mv (ds:=[rd ns fs,.int t,.int at_]) rfl).trans (TR _ _ _ _)) rfl)
 unfold Fg;by_cases hbt:b=t
 .rw[Ge hbt,zI ((wB (Em (c1.trans (congrArg Ga (Gc hbt))))).trans (oG rfl))];rfl
 rw[Gf hbt];by_cases hu:up fs t at_=false
 .rw[Ge hu,zI ((wB ((yD (c1.trans (congrArg Ga (Gd hbt)))).trans (c2.trans (by rw[hu];rfl)))).trans (oG rfl))];rfl
 rw[Gf hu];have hu':up fs t at_=true:=by cases h:up fs t at_ with|true=>rfl|false=>exact absurd h hu
 rw[mX (sX ((yD (c1.trans (congrArg Ga (Gd hbt)))).trans (c2.trans (by rw[hu'];rfl))))];rw[mX (e:=[.val (rd ns fs),.val (.int b),.val (.int t),.val (.int at_),.val (xC fs b)]) (xh ((mv (ds:=[rd ns fs,.int b]) rfl).trans (Lm ns fs b)))];unfold xC;cases e:mJ fs b with
 | none=>rw[zI ((wB (Em (rZ (x:=.none) (y:=.none) rfl rfl rfl))).trans (oG rfl))];rfl
 | some f =>
  have hm:=G.mb f (GA e).1;dsimp only;have d1:lh oB (gv 4) (iO .none) (frz [.val (rd ns fs),.val (.int b),.val (.int t),.val (.int at_),.val (fd f)])=Ga false:=rZ (x:=fd f) (y:=.none) rfl rfl rfl;have d2:lh pM (ib gZ (gv 4) (iO (.int 1))) (gv 3) (frz [.val (rd ns fs),.val (.int b),.val (.int t),.val (.int at_),.val (fd f)])=Ga (decide (at_<f.a)):=rZ (x:=.int f.a) (y:=.int at_) rfl rfl rfl;by_cases hl:at_<f.a
  .rw[Ge hl,zI ((wB ((yD d1).trans (d2.trans (congrArg Ga (Gc hl))))).trans (oG rfl))];rfl
  rw[Gf hl,mX (sX ((yD d1).trans (d2.trans (congrArg Ga (Gd hl)))))];have d3:ib lj (ib gZ (gv 4) (iO (.int 1))) (gv 3) [.val (rd ns fs),.val (.int b),.val (.int t),.val (.int at_),.val (fd f)]=Ga (.bool (decide (f.a=at_))):=by
   refine(pe (a:=.int f.a) (b:=.int at_) rfl rfl).trans ((tK _ _).trans ?_)
   congr 2
  have d4:gY vv (gP (ib gZ (gv 4) (iO (.int 2))) (gP (gv 2) iB)) [.val (rd ns fs),.val (.int b),.val (.int t),.val (.int at_),.val (fd f)]=Ga (.bool (decide ((f.m:Int)/(2^t)%2=1))) :=
   (mv (ds:=[.int f.m,.int t]) rfl).trans (Pk _ _ hm (by omega))
  rw[oG (d:=.bool (decide (f.a=at_)&&decide ((f.m:Int)/(2^t)%2=1))) ?_]
  .rfl
  .show((ib lj (ib gZ (gv 4) (iO (.int 1))) (gv 3) [.val (rd ns fs),.val (.int b),.val (.int t),.val (.int at_),.val (fd f)]).bind lM).bind _=_;rw[d3,jv,show lM (.bool (decide (f.a=at_)))=Ga (decide (f.a=at_)) from rfl,jv];cases decide (f.a=at_) with
   | false=>rfl
   | true=>exact d4
def pI (ns:List D)(fs:List Fl)(r h:Nat):D:=if up fs h r=true then vw ns fs r h else .none
def vL (ns:List D)(fs:List Fl)(r:Nat):List D:=(je ns.length).map λh=>pI ns fs r h
theorem SF (ns:List D)(fs:List Fl)(r:Nat):(vL ns fs r).length=ns.length:=by unfold vL;rw[jd,jD]
theorem EO {ns:List D}{fs:List Fl}{r h:Nat}(hh:h<ns.length):gZ (.list (vL ns fs r)) (.int h)=Ga (pI ns fs r h):=by
 refine Da ?_;unfold vL;rw[jC,kN hh];rfl
theorem Ms {fs:List Fl}{h:Nat}{r r':Int}(hr:r<=r')(u:up fs h r'=true):up fs h r=true:=by
 unfold up at u ⊢;cases e:mJ fs h with
 | none=>rfl
 | some f=>rw[e] at u;dsimp only at u ⊢;rw[decide_eq_true_eq] at u ⊢;omega
theorem SV:∀ {fs:List Fl},(fs.map Fl.h).Nodup->∀ {f g:Fl},f∈fs->g∈fs->f.h=g.h->f=g
 | [],_,f,g,hf,_,_=>by cases hf
 | x::r,nd,f,g,hf,hg,e=>by
  rw[jK,ko] at nd;rcases jw.mp hf with z|z
  .rcases jw.mp hg with w|w
   .exact z.trans w.symm
   .exact absurd (jz.mpr ⟨g,w,by rw[<- e,z]⟩) nd.1
  .rcases jw.mp hg with w|w
   .exact absurd (jz.mpr ⟨f,z,by rw[e,w]⟩) nd.1
   .exact SV nd.2 z w e
theorem RM {n:Nat}{fs:List Fl}(G:mT n fs){o h:Nat}{r:Nat}(c:cm fs o h ((r+1:Nat):Int)=true):up fs o r=true:=by
 rw[NG G] at c;rw[GD G];intro f hf e;have:=((c f hf).2 e).1;omega
theorem zFl {n:Nat}{fs:List Fl}(G:mT n fs){b t:Nat}{r:Int}(q:¬b=t):Fg fs b t r=cm fs b t r:=by
 rw[jV,NG G];unfold Fg;rw[Gf q];have us:=GD G t r;cases u:up fs t r with
 | false =>
  rw[Ge rfl];constructor
  .intro z;cases z
  .intro z;have:=us.mpr λf hf e=>(z f hf).1 e;rw[u] at this;cases this
 | true =>
  rw[Gf (by decide)];have ut:=us.mp u;cases e:mJ fs b with
  | none =>
   refine⟨λ_ f hf=>⟨ut f hf,λeb=>?_⟩,λ_=>rfl⟩;have:=uV.mp e f hf;rw[eb] at this;exact absurd (beq_self_eq_true b) this
  | some f0 =>
   obtain⟨m0,e0⟩:=GA e;dsimp only;constructor
   .intro z f hf;refine⟨ut f hf,λeb=>?_⟩;have:f=f0:=SV G.nd hf m0 (eb.trans e0.symm);subst this;split at z
    .exact⟨by omega,λw=>by omega⟩
    .rw[jA,decide_eq_true_eq] at z;exact⟨by omega,λ_=>z.2⟩
   .intro z;have z:=(z f0 m0).2 e0;split
    .rfl
    .have:f0.a=r:=by omega
     rw[Gc this,vV];exact z.2 this
theorem Cd {c:FB}{f g:FV}{ψ:En}{b:Bool}(h:c ψ=Ga b):xa c f g ψ=if b then f ψ else g ψ:=by show(c ψ).bind _=_;rw[h];rfl
theorem YM (ns:List D)(fs:List Fl)(G:mT ns.length fs)(r h:Nat)(hh:h<ns.length)(u:up fs h ((r+1:Nat):Int)=true) :
  GF [rd ns fs,.list (vL ns fs r),.int h,.int ((r+1:Nat):Int)]=Ga (vw ns fs (r+1) h):=by
 have h5:=G.n5;show hJ (Mg [.val (rd ns fs),.val (.list (vL ns fs r)),.val (.int h),.val (.int ((r+1:Nat):Int)),.no])=_;unfold Mg;have el:un iU (gv 1) [.val (rd ns fs),.val (.list (vL ns fs r)),.val (.int h),.val (.int ((r+1:Nat):Int)),.no]=Ga (.int ns.length):=by
  rw[wv (a:=.list (vL ns fs r)) rfl];show Ga (jc ((vL ns fs r).length:Nat))=_;rw[SF]
 have ec:iQ (mM la (un iU (gv 1))) (λ_=>Ga true) (xa (xg (lh lj (gv 0) (gv 2)) (nJ (gY CY (gP (gv 3) (gP (gv 0) (gP (gv 2) (gP (gv 1) iB))))))) (ib gZ (gv 4) (gv 0)) (iO .none)) [3,2,0,1] [.val (rd ns fs),.val (.list (vL ns fs r)),.val (.int h),.val (.int ((r+1:Nat):Int)),.no]=Ga ((je ns.length).map λo=>if o=h\/cm fs o h ((r+1:Nat):Int)=true then vw ns fs r o else .none):=by
  refine(wm (ds:=lX 0 ns.length) ((xf el).trans (tX (by omega))) (by rw[zd];omega)).trans ((Ac (F:=λd=>match d with|.int t=>(if t.toNat=h\/cm fs t.toNat h ((r+1:Nat):Int)=true then vw ns fs r t.toNat else .none)|_=>.none) (λd hd=>?_)).trans ?_)
  .rw[rP] at hd;obtain⟨o,ho,rfl⟩:=jz.mp hd;have ho':=jk.mp ho;show xa _ _ _ [.val (.int o),.val (.int ((r+1:Nat):Int)),.val (.int h),.val (rd ns fs),.val (.list (vL ns fs r))]=Ga (if (o:Int).toNat=h\/cm fs (o:Int).toNat h ((r+1:Nat):Int)=true then vw ns fs r (o:Int).toNat else .none);rw[j5];have c1:lh lj (gv 0) (gv 2) [.val (.int o),.val (.int ((r+1:Nat):Int)),.val (.int h),.val (rd ns fs),.val (.list (vL ns fs r))]=Ga (decide (o=h)):=by
    refine rZ (x:=.int o) (y:=.int h) rfl rfl ((tK _ _).trans ?_)
    congr 2;rw[jV,beq_iff_eq,decide_eq_true_eq];omega
   have c2:¬o=h->nJ (gY CY (gP (gv 3) (gP (gv 0) (gP (gv 2) (gP (gv 1) iB))))) [.val (.int o),.val (.int ((r+1:Nat):Int)),.val (.int h),.val (rd ns fs),.val (.list (vL ns fs r))]=Ga (cm fs o h ((r+1:Nat):Int)) :=
    λq=>zg ((mv (ds:=[rd ns fs,.int o,.int h,.int ((r+1:Nat):Int)]) rfl).trans ((zAU ns fs o h _ G hh).trans (congrArg (λb=>Ga (jP b)) (zFl G q)))) rfl
   have ix:∀ (w:up fs o r=true),ib gZ (gv 4) (gv 0) [.val (.int o),.val (.int ((r+1:Nat):Int)),.val (.int h),.val (rd ns fs),.val (.list (vL ns fs r))]=Ga (vw ns fs r o):=λw=>by
    refine(pe (a:=.list (vL ns fs r)) (b:=.int o) rfl rfl).trans ((EO ho').trans ?_);unfold pI;rw[Ge w]
   by_cases q:o=h
   .rw[Cd (b:=true) (Em (c1.trans (congrArg Ga (Gc q)))),Ge rfl,Ge (k8 q)];exact ix (by rw[q];exact Ms (by omega) u)
   .cases hc:cm fs o h ((r+1:Nat):Int) with
    | true =>
     rw[Cd (b:=true) ((yD (c1.trans (congrArg Ga (Gd q)))).trans ((c2 q).trans (congrArg Ga hc))),Ge rfl,Ge (kJ rfl)];exact ix (RM G hc)
    | false =>
     rw[Cd (b:=false) ((yD (c1.trans (congrArg Ga (Gd q)))).trans ((c2 q).trans (congrArg Ga hc))),Gf jr,Gf (λz=>by rcases z with z|z;exact q z;cases z)]
  .rw[rP,jN];rfl
 rw[mX (Si ec rfl)];rfl
theorem zsW {n:Nat}{fs:List Fl}{r:Int}{h:Nat}(hh:h<n):(((je n).filter λh=>up fs h r).map λ(k:Nat)=>(k:Int)).contains (h:Int)=up fs h r:=by
 rw[jV,jM,jz];constructor
 .rintro⟨k,hk,e⟩;have:k=h:=by omega
  subst this;exact(jO.mp hk).2
 .intro u;exact⟨h,jO.mpr ⟨jk.mpr hh,u⟩,rfl⟩
theorem zo1 (ns:List D)(fs:List Fl)(G:mT ns.length fs)(r:Nat):Fq [rd ns fs,.list (vL ns fs r),.int ((r+1:Nat):Int)]=Ga (.list (vL ns fs (r+1))):=by
 have h5:=G.n5;show hJ (Nu [.val (rd ns fs),.val (.list (vL ns fs r)),.val (.int ((r+1:Nat):Int)),.no])=_;unfold Nu;have hw:=Dl ns fs ((r+1:Nat):Int) h5;generalize hU:(((je ns.length).filter λh=>up fs h ((r+1:Nat):Int)).map λ(h:Nat)=>jc (h:Int))=U at hw;have hU':U=((((je ns.length).filter λh=>up fs h ((r+1:Nat):Int)).map λ(k:Nat)=>(k:Int))).map jc:=by rw[jN,<- hU];rfl
 rw[mX (e:=[.val (rd ns fs),.val (.list (vL ns fs r)),.val (.int ((r+1:Nat):Int)),.val (.list U)]) (xh (xk ((Mh (ds:=[rd ns fs,.int ((r+1:Nat):Int)]) rfl).trans hw)))];have el:un iU (gv 1) [.val (rd ns fs),.val (.list (vL ns fs r)),.val (.int ((r+1:Nat):Int)),.val (.list U)]=Ga (.int ns.length):=by
  rw[wv (a:=.list (vL ns fs r)) rfl];show Ga (jc ((vL ns fs r).length:Nat))=_;rw[SF]
 have ec:iQ (mM la (un iU (gv 1))) (λ_=>Ga true) (xa (lh Al (gv 0) (gv 3)) (gY GF (gP (gv 2) (gP (gv 4) (gP (gv 0) (gP (gv 1) iB))))) (iO .none)) [2,0,3,1] [.val (rd ns fs),.val (.list (vL ns fs r)),.val (.int ((r+1:Nat):Int)),.val (.list U)]=Ga (vL ns fs (r+1)):=by
  refine(wm (ds:=lX 0 ns.length) ((xf el).trans (tX (by omega))) (by rw[zd];omega)).trans ((Ac (F:=λd=>match d with|.int t=>pI ns fs (r+1) t.toNat|_=>.none) (λd hd=>?_)).trans ?_)
  .rw[rP] at hd;obtain⟨h,ho,rfl⟩:=jz.mp hd;have ho':=jk.mp ho;show xa _ _ _ [.val (.int h),.val (.int ((r+1:Nat):Int)),.val (rd ns fs),.val (.list U),.val (.list (vL ns fs r))]=Ga (pI ns fs (r+1) (h:Int).toNat);rw[j5];have c1:lh Al (gv 0) (gv 3) [.val (.int h),.val (.int ((r+1:Nat):Int)),.val (rd ns fs),.val (.list U),.val (.list (vL ns fs r))]=Ga (up fs h ((r+1:Nat):Int)) :=
    rZ (x:=.int h) (y:=.list U) rfl rfl (by rw[hU',zz0,zsW ho'])
   rw[Cd c1];unfold pI;cases u:up fs h ((r+1:Nat):Int) with
   | true=>rw[Ge rfl,Ge rfl];exact(mv (ds:=[rd ns fs,.list (vL ns fs r),.int h,.int ((r+1:Nat):Int)]) rfl).trans (YM ns fs G r h ho' u)
   | false=>rw[Gf jr,Gf jr]
  .rw[rP,jN];rfl
 exact(congrArg hJ (oG (xk ec))).trans rfl
theorem up0 {n:Nat}{fs:List Fl}(G:mT n fs)(h:Nat):up fs h ((0:Nat):Int)=true:=by
 unfold up;cases e:mJ fs h with
 | none=>rfl
 | some f=>dsimp only;rw[decide_eq_true_eq];have:=G.ab f (GA e).1;omega
theorem zDq {ns:List D}{h:Nat}(hh:h<ns.length):gZ (.tuple ns) (.int h)=Ga (ns.getD h .none):=by
 refine Da ?_;rw[jg,ji hh];rfl
theorem Th (ns:List D)(fs:List Fl)(G:mT ns.length fs)(a b:Sl)(hb:a=.val (rd ns fs)):∀ (m s:Nat) (x:Sl),∃ x',iV (mf 3) (iH 2 (gY Fq (gP (gv 0) (gP (gv 2) (gP (gv 3) iB))))) ((ql s m).map λ(k:Nat)=>jc ((k+1:Nat):Int)) [a,b,.val (.list (vL ns fs s)),x]=Ga (.nx [a,b,.val (.list (vL ns fs (s+m))),x'])
 | 0,s,x=>⟨x,rfl⟩
 | m+1,s,x=>by
  subst hb;obtain⟨x',e⟩:=Th ns fs G (.val (rd ns fs)) b rfl m (s+1) (.val (.int ((s+1:Nat):Int)));refine⟨x',?_⟩;rw[qC,jK];unfold iV;rw[show mf 3 (jc ((s+1:Nat):Int)) [.val (rd ns fs),b,.val (.list (vL ns fs s)),x]=Ga [.val (rd ns fs),b,.val (.list (vL ns fs s)),.val (.int ((s+1:Nat):Int))] from rfl,jv];rw[xh (d:=.list (vL ns fs (s+1))) ((mv (ds:=[rd ns fs,.list (vL ns fs s),.int ((s+1:Nat):Int)]) rfl).trans (zo1 ns fs G s))];rw[show s+(m+1)=s+1+m by omega];exact e
theorem Xd (ns:List D)(fs:List Fl)(G:mT ns.length fs)(r:Nat)(hr:r<100):CD [rd ns fs,.int r]=Ga (.list (vL ns fs r)):=by
 have h5:=G.n5;show hJ (Oe [.val (rd ns fs),.val (.int r),.no,.no])=_;unfold Oe;have ec:iQ (mM la (gY pk (gP (gv 0) iB))) (λ_=>Ga true) (rq (gP (gv 0) (gP (ib gZ (ib gZ (gv 1) (iO (.int 0))) (gv 0)) iB))) [0] [.val (rd ns fs),.val (.int r),.no,.no]=Ga (vL ns fs 0):=by
  refine(wm (ds:=lX 0 ns.length) ((xf (a:=.int ns.length) ((mv (ds:=[rd ns fs]) rfl).trans (DA ns fs))).trans (tX (by omega))) (by rw[zd];omega)).trans ((Ac (F:=λd=>match d with|.int t=>pI ns fs 0 t.toNat|_=>.none) (λd hd=>?_)).trans ?_)
  .rw[rP] at hd;obtain⟨h,ho,rfl⟩:=jz.mp hd;have ho':=jk.mp ho;show rq _ [.val (.int h),.val (rd ns fs)]=Ga (pI ns fs 0 (h:Int).toNat);rw[j5];unfold pI;rw[Ge (up0 G h)];exact ZH (yN rfl (yN ((pe (a:=.tuple ns) (b:=.int h) rfl rfl).trans (zDq ho')) rfl))
  .rw[rP,jN];rfl
 rw[mX (Si ec rfl)];obtain⟨x',e⟩:=Th ns fs G (.val (rd ns fs)) (.val (.int r)) rfl r 0 .no;rw[v7] at e;have er:yu oh (iO (.int 1)) (ib lr (gv 1) (iO (.int 1))) [.val (rd ns fs),.val (.int r),.val (.list (vL ns fs 0)),.no]=Ga ((ql 0 r).map λ(k:Nat)=>jc ((k+1:Nat):Int)):=by
  refine(zGi (a:=.int 1) (b:=.int ((r:Int)+1)) rfl rfl).trans ?_;unfold oh;dsimp only;rw[Ge (by omega),show((r:Int)+1-1).toNat=r by omega,<- uF];unfold lX;refine congrArg Ga (jR λk _=>?_);rw[show(1:Int)+(k:Nat)=((k+1:Nat):Int) by omega]
 show hJ (ik _ _ [.val (rd ns fs),.val (.int r),.val (.list (vL ns fs 0)),.no])=_;rw[mX ((wV er).trans e)];rfl
def il (A:List Nat):List D:=A.map λ(k:Nat)=>jc (k:Int)
theorem ZF (f:Fl)(hm:f.m<32)(U:List Nat)(hU:∀ x∈U,x<5)(hl:U.length<=5):yQ [fd f,.list (il U)]=Ga (.bool (U.all λh=>bt f.m h)):=by
 show hJ (NH [.val (fd f),.val (.list (il U))])=_;unfold NH;have ec:iQ (ng (gv 1)) (λ_=>Ga true) (gY vv (gP (ib gZ (gv 1) (iO (.int 2))) (gP (gv 0) iB))) [0] [.val (fd f),.val (.list (il U))]=Ga ((U.map λh=>bt f.m h).map jP):=by
  refine(wm (ds:=il U) rfl (by unfold il;rw[jd];omega)).trans ((Ac (F:=λd=>match d with|.int t=>.bool (bt f.m t.toNat)|_=>.none) (λd hd=>?_)).trans ?_)
  .obtain⟨h,hh,rfl⟩:=jz.mp hd;show gY vv _ [.val (.int h),.val (fd f)]=Ga (.bool (bt f.m (h:Int).toNat));rw[j5];exact(mv (ds:=[.int f.m,.int h]) rfl).trans (Pk f.m h hm (hU h hh))
  .unfold il;rw[jN,jN];rfl
 refine(congrArg hJ (oG (d:=.bool (U.all λh=>bt f.m h)) ((HV ec).trans ?_))).trans rfl;unfold su;rw[ox,jv,JK];rfl
theorem FC:∀ (n:Nat) (l:List Nat),l.Nodup->(∀ x∈l,x<n)->l.length<=n
 | 0,[],_,_=>jm _
 | 0,x::r,_,h=>absurd (h x jh) (qR _)
 | n+1,l,nd,h=>by
  by_cases hm:n∈l
  .have ih:=FC n (l.erase n) (nd.erase n) (λx hx=>by
    have h1:=(nd.mem_erase_iff.mp hx);have h2:=h x h1.2;have h3:=h1.1;omega)
   rw[qu hm] at ih;omega
  .have ih:=FC n l nd (λx hx=>by
    have h2:=h x hx;have h3:x≠n:=λe=>hm (e▸hx);omega)
   omega
theorem zFm {n:Nat}{fs:List Fl}(G:mT n fs):fs.length<=n:=by
 have:=FC n (fs.map Fl.h) G.nd (λx hx=>by obtain⟨f,hf,rfl⟩:=jz.mp hx;exact G.hb f hf);rw[jd] at this;exact this
theorem ET (f:Fl):bk (fd f)=f:=by
 show(⟨(f.h:Int).toNat,f.a,(f.m:Int).toNat⟩:Fl)=f;rw[j5,j5]
theorem zGw {f g:FV}{ψ:En}(h:f ψ=Ga (.bool false)):Fj f g ψ=g ψ:=by show((f ψ).bind lM).bind _=_;rw[h];rfl
theorem zGx {f g:FV}{ψ:En}(h:f ψ=Ga (.bool true)):Fj f g ψ=Ga (.bool true):=by show((f ψ).bind lM).bind _=_;rw[h];rfl
theorem OY {f g:FV}{ψ:En}(h:f ψ=Ga (.bool true)):tS f g ψ=g ψ:=by show((f ψ).bind lM).bind _=_;rw[h];rfl
theorem WZ {f g:FV}{ψ:En}(h:f ψ=Ga (.bool false)):tS f g ψ=Ga (.bool false):=by show((f ψ).bind lM).bind _=_;rw[h];rfl
theorem Xj {f g h:FV}{ψ:En}{a b c:Int}(h1:f ψ=Ga (.int a))(h2:g ψ=Ga (.int b))(h3:h ψ=Ga (.int c))(q1:a<=b)(q2:b<=c):Ag rh rh f g h ψ=Ga (.bool true):=by
 show(f ψ).bind _=_;rw[h1,jv,h2,jv];rw[show(rh (.int a) (.int b)).bind lM=Ga true from(by show Ga (decide (a<=b))=_;rw[Gc q1]),jv,Ge rfl,h3,jv];show Ga (jP (decide (b<=c)))=_;rw[Gc q2]
def Us (A:List Nat):Bool:=(Cv ((A.map λ(k:Nat)=>(k:Int)).contains 0) ((A.map λ(k:Nat)=>(k:Int)).contains 1) ((A.map λ(k:Nat)=>(k:Int)).contains 2) ((A.map λ(k:Nat)=>(k:Int)).contains 3) ((A.map λ(k:Nat)=>(k:Int)).contains 4)).length==A.length
theorem zAX:(je 6).all (λn=>(wy n).all Us)=true:=by nofun
theorem WN (A:List Nat)(nd:A.Nodup)(lt:∀ x∈A,x<5):∃ L:List D,L.length=A.length/\∃ m:Int,wz [.list (il A)]=Ga (.int m)/\rD [.int m]=Ga L:=by
 have hl:=FC 5 A nd lt;have c:=jL.mp (jL.mp zAX A.length (jk.mpr (by omega))) A (Mf A nd lt);have e:il A=(A.map λ(k:Nat)=>(k:Int)).map jc:=by unfold il;rw[jN];rfl
 have m:=Hm (A.map λ(k:Nat)=>(k:Int)) (λh hh=>by
  obtain⟨k,hk,rfl⟩:=jz.mp hh;have:=lt k hk;omega)
 refine⟨_,?_,_,by rw[e];exact m,SN _ _ _ _ _⟩;rw[jd];exact eq_of_beq c
def sW (U:List Nat)(k:Nat)(f:Fl):Bool:=decide (f.a<(k:Int))||(decide (f.a=(k:Int))&&!(U.all λh=>bt f.m h))
theorem ztR (f:Fl)(hm:f.m<32)(U:List Nat)(hU:∀ x∈U,x<5)(hl:U.length<=5)(k:Nat):Dv [fd f,.list (il U),.int k]=Ga (.bool (sW U k f)):=by
 have ha:=ZF f hm U hU hl;show hJ (IR [.val (fd f),.val (.list (il U)),.val (.int k)])=_;generalize uO (il U)=W at ha;unfold IR;refine(congrArg hJ (oG (d:=.bool (sW U k f)) ?_)).trans rfl;have c1:ib pO (ib gZ (gv 0) (iO (.int 1))) (gv 2) [.val (fd f),.val W,.val (.int k)]=Ga (.bool (decide (f.a<(k:Int)))):=rfl;have c2:ib lj (ib gZ (gv 0) (iO (.int 1))) (gv 2) [.val (fd f),.val W,.val (.int k)]=Ga (.bool (decide (f.a=(k:Int)))):=by
  refine(pe (a:=.int f.a) (b:=.int k) rfl rfl).trans ((tK _ _).trans (congrArg (λb=>Ga (jP b)) ?_));rw[jV,beq_iff_eq,decide_eq_true_eq]
 have c3:Kl (gY yQ (gP (gv 0) (gP (gv 1) iB))) [.val (fd f),.val W,.val (.int k)]=Ga (.bool (!(U.all λh=>bt f.m h))):=by
  show((gY yQ (gP (gv 0) (gP (gv 1) iB)) [.val (fd f),.val W,.val (.int k)]).bind lM).bind _=_;rw[(mv (ds:=[fd f,W]) rfl).trans ha];rfl
 unfold sW;cases q1:decide (f.a<(k:Int)) with
 | true=>rw[q1] at c1;exact zGx c1
 | false =>
  rw[q1] at c1;refine(zGw c1).trans ?_;cases q2:decide (f.a=(k:Int)) with
  | true=>rw[q2] at c2;exact(OY c2).trans c3
  | false=>rw[q2] at c2;exact WZ c2
def upL (n:Nat)(fs:List Fl)(k:Nat):List Nat:=(je n).filter λh=>up fs h (k:Int)
theorem Zh {n:Nat}{fs:List Fl}{k x:Nat}(h:x∈upL n fs k):x<n:=jk.mp (jO.mp h).1
theorem zDr (n:Nat)(fs:List Fl)(k:Nat):(upL n fs k).length<=n:=by
 have:=ku (λh=>up fs h (k:Int)) (je n);rw[jD] at this;exact this
def FQ (n:Nat)(fs:List Fl)(k:Nat):List Fl:=if (upL n fs k).isEmpty then[] else fs.filter (sW (upL n fs k) k)
theorem zAY (ns:List D)(fs:List Fl)(G:mT ns.length fs)(k:Nat):∃ m:Int,∃ L:List D,BB [rd ns fs,.int k]=Ga (.int m)/\rD [.int m]=Ga L/\L.length=(FQ ns.length fs k).length:=by
 have n5:=G.n5;have hw:=Dl ns fs (k:Int) n5;have hlU:=zDr ns.length fs k;have e0:(((je ns.length).filter λh=>up fs h (k:Int)).map λ(h:Nat)=>jc (h:Int))=il (upL ns.length fs k):=rfl;rw[e0] at hw;show ∃ m:Int,∃ L:List D,hJ (Kr [.val (rd ns fs),.val (.int k),.no])=_/\_;have hfo:∀ f∈fs,Dv [fd f,.list (il (upL ns.length fs k)),.int k]=Ga (.bool (sW (upL ns.length fs k) k f)):=λf hf=>ztR f (G.mb f hf) _ (λx hx=>by have:=Zh hx;omega) (by omega) k;have hln:iU (.list (il (upL ns.length fs k)))=Ga (.int (upL ns.length fs k).length):=by
  show Ga (jc ((il (upL ns.length fs k)).length:Nat))=_;unfold il;rw[jd]
 unfold FQ;generalize upL ns.length fs k=U at hw hlU hfo hln;generalize il U=W at hw hfo hln;have s2:iH 2 (mL (oz sJ (gP (gv 0) (gP (gv 1) iB)))) [.val (rd ns fs),.val (.int k),.no]=Ga (.nx [.val (rd ns fs),.val (.int k),.val (.list W)]):=xh (xk ((Mh (ds:=[rd ns fs,.int k]) rfl).trans hw));have c1:lh lj (un iU (gv 2)) (iO (.int 0)) (frz [.val (rd ns fs),.val (.int k),.val (.list W)])=Ga ((U.length:Int)==0):=rZ ((wv (a:=.list W) rfl).trans hln) rfl (tK _ _);unfold Kr;by_cases hU:U=[]
 .subst hU;refine⟨0,[],?_,by nofun,rfl⟩;rw[mX s2,zI (d:=.int 0) ((wB c1).trans rfl)];rfl
 .have hne:U.isEmpty=false:=by cases U with|nil=>exact absurd rfl hU|cons _ _=>rfl
  have hz:((U.length:Int)==0)=false:=by
   rw[<- ka,beq_iff_eq];cases U with
   | nil=>exact absurd rfl hU
   | cons a b=>rw[jX];omega
  rw[hz] at c1;rw[hne,Gf jr];obtain⟨L,hL,m,hm,hh⟩:=WN ((fs.filter (sW U k)).map Fl.h) (((uj (l:=fs) (p:=sW U k)).map Fl.h).nodup G.nd) (λx hx=>by obtain⟨f,hf,rfl⟩:=jz.mp hx;have:=G.hb f (jO.mp hf).1;omega);refine⟨m,L,?_,hh,by rw[hL,jd]⟩;rw[mX s2,mX ((sX c1).trans rfl)];have ec:iQ (ng (ib gZ (gv 0) (iO (.int 1)))) (nJ (gY Dv (gP (gv 0) (gP (gv 2) (gP (gv 1) iB))))) (ib gZ (gv 0) (iO (.int 0))) [1,2] [.val (rd ns fs),.val (.int k),.val (.list W)]=Ga (il ((fs.filter (sW U k)).map Fl.h)):=by
   have lf:=zFm G;refine(wm (ds:=fs.map fd) rfl (by rw[jd];omega)).trans ((Bx (p:=λd=>sW U k (bk d)) (F:=λd=>.int (bk d).h) (λd hd=>?_) (λd hd _=>?_)).trans ?_)
   .obtain⟨f,hf,rfl⟩:=jz.mp hd;rw[ET];exact zg ((mv (ds:=[fd f,.list W,.int k]) rfl).trans (hfo f hf)) rfl
   .obtain⟨f,hf,rfl⟩:=jz.mp hd;rw[ET];rfl
   .rw[uZ,jN];unfold il;rw[jN];have e1:(λd=>sW U k (bk d))∘fd=sW U k:=by funext f;show sW U k (bk (fd f))=_;rw[ET]
    rw[e1];refine congrArg Ga (jR λf _=>?_);show jc ((bk (fd f)).h:Int)=_;rw[ET];rfl
  exact(congrArg hJ (oG ((mv (ds:=[.list (il ((fs.filter (sW U k)).map Fl.h))]) (yN (xk ec) rfl)).trans hm))).trans rfl
def cnt (n:Nat)(fs:List Fl)(k:Nat):Int:=((FQ n fs k).length:Int)
def mx (a b:Int):Int:=if a<b then b else a
def Bn (c:Nat->Int):Int:=mx (mx (mx (mx (mx 0 (c 1-1)) (c 2-2)) (c 3-3)) (c 4-4)) (c 5-5)
theorem VJ (ns:List D)(fs:List Fl)(G:mT ns.length fs):NE [rd ns fs]=Ga (.int (Bn (cnt ns.length fs))):=by
 have hf:=λk=>zAY ns fs G k;show hJ (Mb [.val (rd ns fs)])=_;have hc:∀ k:Nat,ib lP (un iU (mL (oz rD (gP (gY BB (gP (gv 1) (gP (gv 0) iB))) iB)))) (gv 0) [.val (.int k),.val (rd ns fs)]=Ga (.int (cnt ns.length fs k-k)):=λk=>by
  obtain⟨m,L,e1,e2,e3⟩:=hf k;refine(pe (a:=.int (L.length:Nat)) (b:=.int k) ((wv (a:=.list L) (xk ((Mh (ds:=[.int m]) (yN ((mv (ds:=[rd ns fs,.int k]) rfl).trans e1) rfl)).trans e2))).trans rfl) rfl).trans ?_;show Ga (jc ((L.length:Int)-(k:Int)))=_;unfold cnt;rw[e3]
 unfold Mb;generalize rd ns fs=R at hc;have ec:iQ (yu oh (iO (.int 1)) (ib lr (iO (.int 5)) (iO (.int 1)))) (λ_=>Ga true) (ib lP (un iU (mL (oz rD (gP (gY BB (gP (gv 1) (gP (gv 0) iB))) iB)))) (gv 0)) [0] [.val R]=Ga ([cnt ns.length fs 1-1,cnt ns.length fs 2-2,cnt ns.length fs 3-3,cnt ns.length fs 4-4,cnt ns.length fs 5-5].map jc):=by
  refine(wm (ds:=([1,2,3,4,5]:List Nat).map λ(k:Nat)=>jc (k:Int)) rfl (show 5<=1000000 by decide)).trans ((Ac (F:=λd=>match d with|.int k=>.int (cnt ns.length fs k.toNat-k)|_=>.none) (λd hd=>?_)).trans rfl);obtain⟨k,_,rfl⟩:=jz.mp hd;exact hc k
 have ea:zp (ib lr (mL (gP (iO (.int 0)) iB)) (mL (iQ (yu oh (iO (.int 1)) (ib lr (iO (.int 5)) (iO (.int 1)))) (λ_=>Ga true) (ib lP (un iU (mL (oz rD (gP (gY BB (gP (gv 1) (gP (gv 0) iB))) iB)))) (gv 0)) [0]))) [.val R]=Ga ([0,cnt ns.length fs 1-1,cnt ns.length fs 2-2,cnt ns.length fs 3-3,cnt ns.length fs 4-4,cnt ns.length fs 5-5].map jc) :=
  Ir ((pe (a:=.list [.int 0]) (b:=.list ([cnt ns.length fs 1-1,cnt ns.length fs 2-2,cnt ns.length fs 3-3,cnt ns.length fs 4-4,cnt ns.length fs 5-5].map jc)) rfl (xk ec)).trans rfl)
 refine(congrArg hJ (oG (d:=.int (Bn (cnt ns.length fs))) ((HV ea).trans ?_))).trans rfl;unfold tm;rw[nV,jv];rfl
theorem zA0 (ns:List D)(fs:List Fl)(bd:Nat)(h1:bd+2<=ns.length)(h2:fs.length<=bd):Hi [rd ns fs,.int bd]=Ga (.bool true):=by
 show hJ (KL [.val (rd ns fs),.val (.int bd)])=_;unfold KL;rw[mX ((sX (LZ (b:=true) (zg ((mv (ds:=[.int bd]) rfl).trans rfl) rfl))).trans rfl)];have c1:Ag rh rh (iO (.int 0)) (gv 1) (ib lP (gY pk (gP (gv 0) iB)) (iO (.int 2))) [.val (rd ns fs),.val (.int bd)]=Ga (.bool true):=by
  refine Xj (a:=0) (b:=bd) (c:=(ns.length:Int)-2) rfl rfl rfl (by omega) (by omega)
 have c2:ib rh (un iU (ib gZ (gv 0) (iO (.int 1)))) (gv 1) [.val (rd ns fs),.val (.int bd)]=Ga (.bool true):=by
  show Ga (jP (decide (((fs.map fd).length:Int)<=(bd:Int))))=_;rw[jd,Gc (by omega)]
 refine(congrArg hJ (oG (d:=.bool true) ?_)).trans rfl;exact(OY c1).trans c2
theorem Yj (ns:List D)(fs:List Fl)(G:mT ns.length fs)(bd:Nat)(h1:bd+2<=ns.length)(h2:fs.length<=bd):LY [rd ns fs,.int bd]=Ga (.int ((bd:Int)+1-Bn (cnt ns.length fs))):=by
 have hk:=zA0 ns fs bd h1 h2;have hw:=VJ ns fs G;show hJ (Ie [.val (rd ns fs),.val (.int bd)])=_;generalize rd ns fs=R at hk hw;unfold Ie;rw[mX ((sX (LZ (b:=true) (zg ((mv (ds:=[R,.int bd]) rfl).trans hk) rfl))).trans rfl)];exact(congrArg hJ (oG ((pe (a:=.int ((bd:Int)+1)) rfl ((mv (ds:=[R]) rfl).trans hw)).trans rfl))).trans rfl
theorem Zu (ns:List D)(fs:List Fl)(G:mT ns.length fs)(bd:Nat)(h1:bd+2<=ns.length)(h2:fs.length<=bd)(r:Int):tH [rd ns fs,.int bd,.int r]=Ga (.bool (decide (r<(bd:Int)+1-Bn (cnt ns.length fs)))):=by
 have hc:=Yj ns fs G bd h1 h2;show hJ (IT [.val (rd ns fs),.val (.int bd),.val (.int r)])=_;generalize rd ns fs=R at hc;unfold IT;exact(congrArg hJ (oG ((pe (a:=.int r) rfl ((mv (ds:=[R,.int bd]) rfl).trans hc)).trans rfl))).trans rfl
abbrev Fs:=Nat->Option (Int×Nat)
def ml (E:Fs)(h:Nat)(r:Int):Bool:=match E h with
 | some (a,_)=>decide (r<a)
 | none=>true
def mw (E:Fs)(b t:Nat)(r:Int):Bool:=match E b with
 | some (a,m)=>decide (r<a)||(decide (a=r)&&bt m t)
 | none=>true
def mK (n:Nat)(ns:Nat->D)(E:Fs):Nat->Nat->D
 | 0,h=>.tuple [.int h,ns h]
 | r+1,h=>if ml E h ((r:Int)+1)=true then .tuple [.int h,.tuple ((je n).map λb=>if (b==h||mw E b h ((r:Int)+1))=true then mK n ns E r b else .none)] else .none
structure ES (n:Nat)(ns1 ns2:Nat->D)(E1 E2:Fs)(S:Nat->Bool)(r0 k:Nat):Prop where
 up:∀ i r,i<n->S i=false->r<=k->ml E1 i (r:Int)=ml E2 i (r:Int)
 cm:∀ b t r,t<n->S b=false->S t=false->1<=r->r<=k->ml E1 t (r:Int)=true->mw E1 b t (r:Int)=mw E2 b t (r:Int)
 cmS:∀ b t r,t<n->S b=true->S t=false->1<=r->r<=r0->r<=k->ml E1 t (r:Int)=true->mw E1 b t (r:Int)=mw E2 b t (r:Int)
 no1:∀ b t r,t<n->S b=true->S t=false->r0<r->r<=k->ml E1 t (r:Int)=true->mw E1 b t (r:Int)=false
 no2:∀ b t r,t<n->S b=true->S t=false->r0<r->r<=k->ml E1 t (r:Int)=true->mw E2 b t (r:Int)=false
 upS:∀ i r,i<n->S i=true->r<r0->ml E1 i (r:Int)=ml E2 i (r:Int)
 cmT:∀ b t r,t<n->S t=true->1<=r->r<r0->mw E1 b t (r:Int)=mw E2 b t (r:Int)
 num:∀ i,S i=false\/0<r0->ns1 i=ns2 i
theorem CN {n:Nat}{ns1 ns2:Nat->D}{E1 E2:Fs}{S:Nat->Bool}{r0 k:Nat}(H:ES n ns1 ns2 E1 E2 S r0 k) :
  ∀ r,r<=k->(∀ i,i<n->S i=false->mK n ns1 E1 r i=mK n ns2 E2 r i)/\(r<r0->∀ i,i<n->mK n ns1 E1 r i=mK n ns2 E2 r i)
 | 0,_=>⟨λi _ hi=>by unfold mK;rw[H.num i (.inl hi)],λh i _=>by unfold mK;rw[H.num i (.inr h)]⟩
 | r+1,hk=>by
  obtain⟨ih1,ih2⟩:=CN H r (by omega);have ec:((r+1:Nat):Int)=(r:Int)+1:=by omega
  have part:∀ i,(∀ b,b<n->(b==i)=false->ml E1 i ((r:Int)+1)=true->(if (b==i||mw E1 b i ((r:Int)+1))=true then mK n ns1 E1 r b else .none)=(if (b==i||mw E2 b i ((r:Int)+1))=true then mK n ns2 E2 r b else .none)) ->
    mK n ns1 E1 r i=mK n ns2 E2 r i->ml E1 i ((r:Int)+1)=ml E2 i ((r:Int)+1)->mK n ns1 E1 (r+1) i=mK n ns2 E2 (r+1) i:=λi h1 h2 h3=>by
   unfold mK;rw[<- h3];cases hu:ml E1 i ((r:Int)+1) with
   | false=>rfl
   | true =>
    rw[Ge rfl,Ge rfl];refine congrArg (λl=>j3 [jc (i:Int),j3 l]) (jR λb hbn=>?_);cases hb:(b==i) with
    | true =>
     rw[kX,kX,Ge rfl,Ge rfl];rw[beq_iff_eq] at hb;subst hb;exact h2
    | false =>
     have:=h1 b (jk.mp hbn) hb hu;rw[hb] at this;exact this
  have go:∀ i b,(b==i)=false->ml E1 i ((r:Int)+1)=true->mw E1 b i ((r:Int)+1)=mw E2 b i ((r:Int)+1)->(mw E1 b i ((r:Int)+1)=true->mK n ns1 E1 r b=mK n ns2 E2 r b) ->
    (if (b==i||mw E1 b i ((r:Int)+1))=true then mK n ns1 E1 r b else .none)=(if (b==i||mw E2 b i ((r:Int)+1))=true then mK n ns2 E2 r b else .none):=λi b hb hu he hv=>by
   rw[hb,<- he,uq];cases hc:mw E1 b i ((r:Int)+1) with
   | false=>rfl
   | true=>rw[Ge rfl,Ge rfl];exact hv hc
  refine⟨λi hin hi=>part i (λb hbn hb hu=>?_) (ih1 i hin hi) ?_,λhr i hin=>part i (λb hbn hb hu=>?_) (ih2 (by omega) i hin) ?_⟩
  .rw[<- ec] at hu;cases hs:S b with
   | false=>exact go i b hb (by rw[<- ec];exact hu) (by rw[<- ec];exact H.cm b i (r+1) hin hs hi (by omega) hk hu) λ_=>ih1 b hbn hs
   | true =>
    by_cases hr:r+1<=r0
    .exact go i b hb (by rw[<- ec];exact hu) (by rw[<- ec];exact H.cmS b i (r+1) hin hs hi (by omega) hr hk hu) λ_=>ih2 (by omega) b hbn
    .have n1:=H.no1 b i (r+1) hin hs hi (by omega) hk hu;have n2:=H.no2 b i (r+1) hin hs hi (by omega) hk hu;rw[ec] at n1 n2;exact go i b hb (by rw[<- ec];exact hu) (n1.trans n2.symm) λz=>by rw[n1] at z;cases z
  .rw[<- ec];exact H.up i (r+1) hin hi hk
  .cases hs:S i with
   | true=>exact go i b hb hu (by rw[<- ec];exact H.cmT b i (r+1) hin hs (by omega) hr) λ_=>ih2 (by omega) b hbn
   | false =>
    rw[<- ec] at hu;cases hs2:S b with
    | false=>exact go i b hb (by rw[<- ec];exact hu) (by rw[<- ec];exact H.cm b i (r+1) hin hs2 hs (by omega) hk hu) λ_=>ih2 (by omega) b hbn
    | true=>exact go i b hb (by rw[<- ec];exact hu) (by rw[<- ec];exact H.cmS b i (r+1) hin hs2 hs (by omega) (by omega) hk hu) λ_=>ih2 (by omega) b hbn
  .rw[<- ec];cases hs:S i with
   | true=>exact H.upS i (r+1) hin hs hr
   | false=>exact H.up i (r+1) hin hs hk
def ie (E:Fs)(h:Nat)(v:Option (Int×Nat)):Fs:=λi=>if i=h then v else E i
theorem nY {E:Fs}{h:Nat}{v:Option (Int×Nat)}:ie E h v h=v:=Ge rfl
theorem lW {E:Fs}{h i:Nat}{v:Option (Int×Nat)}(e:i≠h):ie E h v i=E i:=Gf e
theorem Go {E E':Fs}{i:Nat}(e:E i=E' i)(r:Int):ml E i r=ml E' i r:=by unfold ml;rw[e]
theorem FZ {E E':Fs}{b:Nat}(e:E b=E' b)(t:Nat)(r:Int):mw E b t r=mw E' b t r:=by unfold mw;rw[e]
theorem DK {E:Fs}{i:Nat}{a:Int}{m:Nat}(e:E i=Ga (a,m))(r:Int):ml E i r=decide (r<a):=by unfold ml;rw[e]
theorem xM {E:Fs}{b:Nat}{a:Int}{m:Nat}(e:E b=Ga (a,m))(t:Nat)(r:Int):mw E b t r=(decide (r<a)||(decide (a=r)&&bt m t)):=by unfold mw;rw[e]
theorem KR {E:Fs}{i:Nat}(e:E i=Gb)(r:Int):ml E i r=true:=by unfold ml;rw[e]
theorem zA1 {E:Fs}{b:Nat}(e:E b=Gb)(t:Nat)(r:Int):mw E b t r=true:=by unfold mw;rw[e]
theorem zA2 (t:Nat):bt 0 t=false:=by unfold bt;rw[qy,Int.zero_ediv];rfl
def nO (k at_:Nat):Option (Int×Nat):=if at_<k then Ga ((at_:Int)+1,0) else Gb
theorem NI {E:Fs}{h k at_:Nat}(e:E h=nO k at_)(r:Nat)(hr:r<=at_):ml E h (r:Int)=true:=by
 unfold nO at e;split at e
 .rw[DK e];exact Gc (by omega)
 .exact KR e _
theorem Bu {E:Fs}{h k at_:Nat}(e:E h=nO k at_)(t r:Nat)(hr:r<=at_):mw E h t (r:Int)=true:=by
 unfold nO at e;split at e
 .rw[xM e,Gc (by omega),kX]
 .exact zA1 e _ _
theorem De {E:Fs}{h k at_:Nat}(e:E h=nO k at_)(t r:Nat)(hr:at_<r)(hk:r<=k):mw E h t (r:Int)=false:=by
 unfold nO at e;rw[Ge (by omega)] at e;rw[xM e,zA2,ud,uI];exact Gd (by omega)
theorem Qn {n:Nat}{ns:Nat->D}{E1 E2:Fs}{k at_:Nat}(S:Nat->Bool)(hS1:∀ h,S h=true->E1 h=nO k at_)(hS2:∀ h,S h=true->∃ m,E2 h=Ga ((at_:Int),m)/\∀ t,t<n->S t=false->ml E1 t (at_:Int)=true->bt m t=true)
  (same:∀ i,S i=false->E1 i=E2 i):ES n ns ns E1 E2 S at_ k where
 up:=λi r _ hi _=>Go (same i hi) _
 cm:=λb t r _ hb _ _ _ _=>FZ (same b hb) _ _
 cmS:=λb t r htn hb ht h1 h2 h3 hu=>by
  rw[Bu (hS1 b hb) t r h2];obtain⟨m,e,hm⟩:=hS2 b hb;rw[xM e];by_cases c:(r:Int)<(at_:Int)
  .rw[Gc c,kX]
  .have:r=at_:=by omega
   subst this;rw[Gc rfl,hm t htn ht hu,Bool.and_self,Bool.or_true]
 no1:=λb t r _ hb _ h1 h2 _=>De (hS1 b hb) t r h1 h2
 no2:=λb t r _ hb _ h1 h2 _=>by
  obtain⟨m,e,_⟩:=hS2 b hb;rw[xM e,Gd (by omega),Gd (by omega),qc,uI]
 upS:=λi r _ hi hr=>by
  obtain⟨m,e,_⟩:=hS2 i hi;rw[NI (hS1 i hi) r (by omega),DK e,Gc (by omega)]
 cmT:=λb t r _ ht h1 h2=>by
  cases hb:S b with
  | false=>exact FZ (same b hb) _ _
  | true =>
   obtain⟨m,e,_⟩:=hS2 b hb;rw[Bu (hS1 b hb) t r (by omega),xM e,Gc (by omega),kX]
 num:=λ_ _=>rfl
theorem zGy {n:Nat}{ns:Nat->D}{E1 E2:Fs}{k at_ h to:Nat}{m1 m2:Nat}(hne:h≠to)(h1:E1 h=Ga ((at_:Int),m1))(h2:E2 h=Ga ((at_:Int),m2))(hm:∀ t,t≠to->bt m1 t=bt m2 t)(t1:E1 to=nO k at_)(t2:E2 to=nO k at_)
  (same:∀ i,i≠h->i≠to->E1 i=E2 i):ES n ns ns E1 E2 (λi=>i==to) at_ k:=by
 have sm:∀ i,(i==to)=false->∀ r,ml E1 i r=ml E2 i r:=λi hi r=>by
  rw[beq_eq_false_iff_ne] at hi;by_cases e:i=h
  .subst e;rw[DK h1,DK h2]
  .exact Go (same i e hi) _
 have sc:∀ b,(b==to)=false->∀ t r,t≠to->mw E1 b t r=mw E2 b t r:=λb hb t r ht=>by
  rw[beq_eq_false_iff_ne] at hb;by_cases e:b=h
  .subst e;rw[xM h1,xM h2,hm t ht]
  .exact FZ (same b e hb) _ _
 refine⟨λi r _ hi _=>sm i hi _,λb t r _ hb ht _ _ _=>sc b hb t _ (beq_eq_false_iff_ne.mp ht),λb t r _ hb ht _ h _ _=>?_,λb t r _ hb ht h h' _=>?_,λb t r _ hb ht h h' _=>?_,λi r _ hi hr=>?_,λb t r _ ht hh h'=>?_,λ_ _=>rfl⟩
 .rw[beq_iff_eq] at hb;subst hb;rw[Bu t1 t r h,Bu t2 t r h]
 .rw[beq_iff_eq] at hb;subst hb;exact De t1 t r h h'
 .rw[beq_iff_eq] at hb;subst hb;exact De t2 t r h h'
 .rw[beq_iff_eq] at hi;subst hi;rw[NI t1 r (by omega),NI t2 r (by omega)]
 .rw[beq_iff_eq] at ht;subst ht;by_cases e:b=t
  .subst e;rw[Bu t1 b r (by omega),Bu t2 b r (by omega)]
  .by_cases e2:b=h
   .subst e2;rw[xM h1,xM h2,Gc (by omega),kX,kX]
   .exact FZ (same b e2 e) _ _
theorem zGz {n:Nat}{ns1 ns2:Nat->D}{E:Fs}{k h:Nat}(hn:∀ i,i≠h->ns1 i=ns2 i)(t1:E h=nO k 0):ES n ns1 ns2 E E (λi=>i==h) 0 k where
 up:=λ_ _ _ _ _=>rfl
 cm:=λ_ _ _ _ _ _ _ _ _=>rfl
 cmS:=λ_ _ _ _ _ _ h1 h2 _ _=>by omega
 no1:=λb t r _ hb _ h1 h2 _=>by rw[beq_iff_eq] at hb;subst hb;exact De t1 t r h1 h2
 no2:=λb t r _ hb _ h1 h2 _=>by rw[beq_iff_eq] at hb;subst hb;exact De t1 t r h1 h2
 upS:=λ_ _ _ _ h=>by omega
 cmT:=λ_ _ _ _ _ _ h=>by omega
 num:=λi h=>hn i (h.elim (λz=>beq_eq_false_iff_ne.mp z) λz=>absurd z (jY 0))
def rf {α:Type}(R:α->α->Prop):List α->Prop
 | []=>True
 | [_]=>True
 | a::b::r=>R a b/\rf R (b::r)
theorem AK {α:Type}{R:α->α->Prop}:∀ {l m:List α},rf R l->rf R m->(∀ a b,l.getLast?=Ga a->m.head?=Ga b->R a b)->rf R (l++m)
 | [],_,_,h,_=>h
 | [a],[],_,_,_=>trivial
 | [a],b::m,_,h,j=>⟨j a b rfl rfl,h⟩
 | a::b::l,m,h1,h2,j=>⟨h1.1,AK (l:=b::l) h1.2 h2 λx y hx hy=>j x y (by rw[qD];exact hx) hy⟩
theorem zA3 {α:Type}{R:α->α->Prop}:∀ {l:List α},rf R l->rf R l.tail
 | [],_=>trivial
 | [_],_=>trivial
 | _::_::_,h=>h.2
theorem KD {α:Type}{R:α->α->Prop}(sy:∀ a b,R a b->R b a):∀ {l:List α},rf R l->rf R l.reverse
 | [],_=>trivial
 | [_],_=>trivial
 | a::b::r,h=>by
  have ih:=KD sy (l:=b::r) h.2;rw[uD];refine AK ih trivial λx y hx hy=>?_;rw[vO] at hx;cases hx;cases hy;exact sy _ _ h.1
def lu (n:Nat)(E:Fs):Nat:=((je n).filter λi=>(E i).isSome).length
theorem Ez {n:Nat}{E:Fs}(hc:lu n E+2<=n)(h:Nat):∃ i,i<n/\i≠h/\E i=Gb:=by
 refine k6 λno=>?_;have all:∀ i,i<n->i≠h->(E i).isSome=true:=λi hi hn=>by
  cases e:E i with
  | none=>exact absurd ⟨i,hi,hn,e⟩ no
  | some v=>rfl
 have key:∀ m,m<=n->m<=((je m).filter λi=>(E i).isSome).length+(if h<m then 1 else 0):=by
  intro m;induction m with
  | zero=>exact λ_=>jT _
  | succ m ih =>
   intro hm;have ih:=ih (by omega);rw[kh,kA,ju];by_cases e:m=h
   .subst e;rw[Gf (jY m)] at ih;rw[Ge (k7 m)];omega
   .have:([m].filter λi=>(E i).isSome)=[m]:=by rw[ky (p:=λi=>(E i).isSome) (all m (by omega) e)];rfl
    rw[this,j9];split at ih<;>split<;>omega
 have:=key n (jm n);unfold lu at hc;split at this<;>omega
theorem EY {n:Nat}{E:Fs}{h:Nat}(v:Option (Int×Nat)):lu n (ie E h v)<=lu n E+1:=by
 unfold lu;induction n with
 | zero=>exact jT _
 | succ n ih =>
  rw[kh,kA,kA,ju,ju];by_cases e:n=h
  .subst e;have:((je n).filter λi=>(ie E n v i).isSome)=(je n).filter λi=>(E i).isSome:=u7 λi hi=>by
    rw[lW (jH (jk.mp hi))]
   rw[this];have:([n].filter λi=>(ie E n v i).isSome).length<=1:=ku _ _;omega
  .have:([n].filter λi=>(ie E h v i).isSome)=[n].filter λi=>(E i).isSome:=u7 λi hi=>by
    rw[jj.mp hi,lW e]
   rw[this];omega
structure Ok (n:Nat)(E:Fs)(at_:Nat):Prop where
 rnd:∀ i a m,E i=Ga (a,m)->1<=a/\a<=(at_:Int)
 hnd:∀ i a m,E i=Ga (a,m)->i<n
 msk:∀ i a m,E i=Ga (a,m)->m<2^n/\bt m i=false
theorem Ok.mono {n:Nat}{E:Fs}{a b:Nat}(h:Ok n E a)(e:a<=b):Ok n E b:=⟨λi x m z=>by have:=h.rnd i x m z;omega,h.hnd,h.msk⟩
theorem Ok.upd {n:Nat}{E:Fs}{a h:Nat}{x:Int}{m:Nat}(o:Ok n E a)(hh:h<n)(x1:1<=x)(x2:x<=(a:Int))(hm:m<2^n)(hb:bt m h=false):Ok n (ie E h (Ga (x,m))) a:=by
 refine⟨λi y l z=>?_,λi y l z=>?_,λi y l z=>?_⟩<;>(by_cases c:i=h)
 .subst c;rw[nY] at z;cases z;exact⟨x1,x2⟩
 .rw[lW c] at z;exact o.rnd i y l z
 .subst c;exact hh
 .rw[lW c] at z;exact o.hnd i y l z
 .subst c;rw[nY] at z;cases z;exact⟨hm,hb⟩
 .rw[lW c] at z;exact o.msk i y l z
def AZ (n:Nat)(ns:Nat->D)(k:Nat)(E1 E2:Fs):Prop:=∃ i,i<n/\E1 i=Gb/\E2 i=Gb/\mK n ns E1 k i=mK n ns E2 k i
theorem AZ.symm {n:Nat}{ns:Nat->D}{k:Nat}{E1 E2:Fs}(h:AZ n ns k E1 E2):AZ n ns k E2 E1:=by
 obtain⟨i,h1,h2,h3,h4⟩:=h;exact⟨i,h1,h3,h2,h4.symm⟩
theorem zFq {n:Nat}{F E:Fs}{h:Nat}(hn:h<n)(m:∀ i,(F i).isSome=true->(E i).isSome=true)(e1:(E h).isSome=true)(e2:F h=Gb):lu n F+1<=lu n E:=by
 have key:∀ k,k<=n->((je k).filter λi=>(F i).isSome).length+(if h<k then 1 else 0)<=((je k).filter λi=>(E i).isSome).length:=by
  intro k;induction k with
  | zero=>exact λ_=>jm _
  | succ k ih =>
   intro hk;have ih:=ih (by omega);rw[kh,kA,kA,ju,ju];have one:∀ (G:Fs),([k].filter λi=>(G i).isSome).length=if (G k).isSome=true then 1 else 0:=λG=>by
    cases c:(G k).isSome with
    | true=>rw[ky (p:=λi=>(G i).isSome) c];rfl
    | false=>rw[kG (p:=λi=>(G i).isSome) (by rw[c];exact jr)];rfl
   rw[one F,one E];by_cases e:k=h
   .subst e;rw[e1,e2,Ge rfl,Ge (k7 k)];rw[Gf (jY k)] at ih;rw[Gf (by show ¬(Gb:Option (Int×Nat)).isSome=true;exact jr)];omega
   .have:(if (F k).isSome=true then 1 else 0)<=(if (E k).isSome=true then 1 else 0:Nat):=by
     by_cases c:(F k).isSome=true
     .rw[Ge c,Ge (m k c)];exact jm _
     .rw[Gf c];exact jT _
    by_cases y:h<k
    .rw[Ge y] at ih;rw[Ge (show h<k+1 by omega)];omega
    .rw[Gf y] at ih;rw[Gf (show ¬h<k+1 by omega)];omega
 have:=key n (jm n);rw[Ge hn] at this;exact this
def mN (b0 b1 b2 b3 b4:Bool):Nat:=(if b0 then 1 else 0)+(if b1 then 2 else 0)+(if b2 then 4 else 0)+(if b3 then 8 else 0)+(if b4 then 16 else 0)
def iX (l:List Nat):Nat:=mN (l.contains 0) (l.contains 1) (l.contains 2) (l.contains 3) (l.contains 4)
def rN (m b:Nat):Nat:=m ^^^ 2^b
theorem Ze:∀ (b0 b1 b2 b3 b4:Bool),bt (mN b0 b1 b2 b3 b4) 0=b0/\bt (mN b0 b1 b2 b3 b4) 1=b1/\bt (mN b0 b1 b2 b3 b4) 2=b2/\bt (mN b0 b1 b2 b3 b4) 3=b3/\bt (mN b0 b1 b2 b3 b4) 4=b4:=by nofun
theorem Vh {P:Nat->Prop}(h0:P 0)(h1:P 1)(h2:P 2)(h3:P 3)(h4:P 4):∀ i,i<5->P i
 | 0,_=>h0
 | 1,_=>h1
 | 2,_=>h2
 | 3,_=>h3
 | 4,_=>h4
 | n+5,h=>by omega
theorem xZ (l:List Nat):∀ i,i<5->bt (iX l) i=l.contains i:=by
 obtain⟨h0,h1,h2,h3,h4⟩:=Ze (l.contains 0) (l.contains 1) (l.contains 2) (l.contains 3) (l.contains 4);exact Vh h0 h1 h2 h3 h4
theorem Mu:∀ (b0 b1 b2 b3 b4:Bool),mN b0 b1 b2 b3 b4<32:=by decide
theorem WL:∀ (b0 b1 b2 b3:Bool),mN b0 b1 b2 b3 false<16:=by decide
theorem zFs:∀ (b0 b1 b2:Bool),mN b0 b1 b2 false false<8:=by decide
theorem zFt:∀ (b0 b1:Bool),mN b0 b1 false false false<4:=by decide
theorem Ba {n:Nat}(h2:2<=n)(h5:n<=5)(l:List Nat)(hl:∀ i∈l,i<n):iX l<2^n:=by
 have no:∀ i,n<=i->l.contains i=false:=λi hi=>by
  rw[<- ka,jM];exact λz=>by have:=hl i z;omega
 unfold iX;have:n=2\/n=3\/n=4\/n=5:=by omega
 rcases this with rfl|rfl|rfl|rfl
 .rw[no 2 (by omega),no 3 (by omega),no 4 (by omega)];exact zFt _ _
 .rw[no 3 (by omega),no 4 (by omega)];exact zFs _ _ _
 .rw[no 4 (by omega)];exact WL _ _ _ _
 .exact Mu _ _ _ _ _
theorem zFu:∀ (b0 b1 b2 b3 b4:Bool),rN (mN b0 b1 b2 b3 b4) 0=mN (!b0) b1 b2 b3 b4/\rN (mN b0 b1 b2 b3 b4) 1=mN b0 (!b1) b2 b3 b4/\rN (mN b0 b1 b2 b3 b4) 2=mN b0 b1 (!b2) b3 b4/\rN (mN b0 b1 b2 b3 b4) 3=mN b0 b1 b2 (!b3) b4/\rN (mN b0 b1 b2 b3 b4) 4=mN b0 b1 b2 b3 (!b4):=by nofun
theorem TH {o:Nat}{l:List Nat}(ho:o<5)(nd:o∉l):rN (iX (o::l)) o=iX l:=by
 have c1:l.contains o=false:=by rw[<- ka,jM];exact nd
 have c2:∀ i,(o::l).contains i=(i==o||l.contains i):=λi=>qh;unfold iX;simp only[c2];obtain⟨h0,h1,h2,h3,h4⟩:=zFu (0==o||l.contains 0) (1==o||l.contains 1) (2==o||l.contains 2) (3==o||l.contains 3) (4==o||l.contains 4);have:o=0\/o=1\/o=2\/o=3\/o=4:=by omega
 rcases this with rfl|rfl|rfl|rfl|rfl
 .rw[h0,c1];rfl
 .rw[h1,c1];rfl
 .rw[h2,c1];rfl
 .rw[h3,c1];rfl
 .rw[h4,c1];rfl
def lJ (n:Nat)(E:Fs)(h at_:Nat):List Nat:=(je n).filter λi=>ml E i (at_:Int)&&!(i==h)
def sd (E:Fs)(h b:Nat):Fs:=match E h with
 | some (a,m)=>ie E h (Ga (a,rN m b))
 | none=>E
def oy (H:Fs->Nat->List Fs)(E:Fs)(h:Nat)(p:List Fs)(o:Nat):List Fs:=p++(H (p.getLastD E) o++(H (sd (p.getLastD E) h o) o).reverse).tail
def lG (n k:Nat):Nat->Fs->Nat->List Fs
 | 0,E,_=>[E]
 | d+1,E,h=>(lJ n E h (k-d)).foldl (oy (lG n k d) E h) (lG n k d E h++[ie E h (Ga (((k-d:Nat):Int),iX (lJ n E h (k-d))))])
def nv:Nat->Nat
 | 0=>1
 | d+1=>nv d+1+4*(2*nv d-1)
structure ym (n:Nat)(ns:Nat->D)(k d:Nat)(E:Fs)(T:Fs)(P:List Fs):Prop where
 hd:P.head?=Ga E
 lst:P.getLast?=Ga T
 ok:∀ F∈P,Ok n F (k+1)
 cnt:∀ F∈P,lu n F<=lu n E+d
 chn:rf (AZ n ns k) P
theorem zDu {E:Fs}{h:Nat}(e:E h=Gb):ie E h Gb=E:=by
 funext i
 by_cases c:i=h
 .subst c;rw[nY,e]
 .rw[lW c]
theorem QE {E:Fs}{h:Nat}{u v:Option (Int×Nat)}:ie (ie E h u) h v=ie E h v:=by
 funext i
 by_cases c:i=h
 .subst c;rw[nY,nY]
 .rw[lW c,lW c,lW c]
theorem Kq {α:Type}{p q:List α}{g t:α}(hp:p.getLast?=Ga g)(hq:q.head?=Ga g)(ht:q.getLast?=Ga t):(p++q.tail).getLast?=Ga t:=by
 cases q with
 | nil=>cases hq
 | cons a r =>
  cases hq;cases r with
  | nil=>cases ht;rw[Jf,km];exact hp
  | cons b r=>rw[Jf,uG,<- qD,ht];rfl
theorem IU {α:Type}{R:α->α->Prop}{p q:List α}{g:α}(hp:p.getLast?=Ga g)(hq:q.head?=Ga g)(c1:rf R p)(c2:rf R q):rf R (p++q.tail):=by
 cases q with
 | nil=>cases hq
 | cons a r =>
  cases hq;refine AK c1 (zA3 c2) λx y hx hy=>?_;rw[hp] at hx;cases hx;cases r with
  | nil=>cases hy
  | cons b r=>cases hy;exact c2.1
theorem AD {α:Type}{p q:List α}{a:α}(h:p.head?=Ga a):(p++q).head?=Ga a:=by
 cases p with
 | nil=>cases h
 | cons b r=>exact h
theorem EI {α:Type}{p:List α}{a d:α}(h:p.getLast?=Ga a):p.getLastD d=a:=by
 rw[List.getLastD_eq_getLast?,h];rfl
theorem ND {n:Nat}{E:Fs}{at_ i:Nat}(o:Ok n E at_)(h:ml E i (at_:Int)=true):E i=Gb:=by
 cases e:E i with
 | none=>rfl
 | some v =>
  obtain⟨a,m⟩:=v;rw[DK e,decide_eq_true_eq] at h;have:=(o.rnd i a m e).2;omega
theorem Ua {n:Nat}{ns:Nat->D}{k d at_ h:Nat}{E:Fs}(h2:2<=n)(h5:n<=5)(IH:∀ (F:Fs) (i:Nat),i<n->F i=Gb->Ok n F (k+1-d)->lu n F+d+2<=n->ym n ns k d F (ie F i (nO k at_)) (lG n k d F i)/\(lG n k d F i).length<=nv d)
  (hat:at_=k-d) (hk:d+1<=k) (hh:h<n) (ho:Ok n E at_) (hc:lu n E+(d+1)+2<=n) {x:Nat} {l:List Nat} (nd:(x::l).Nodup) (hl:∀ i∈x::l,i<n/\i≠h/\E i=Gb) {p:List Fs} (H:ym n ns k (d+1) E (ie E h (Ga ((at_:Int),iX (x::l)))) p) :
  ym n ns k (d+1) E (ie E h (Ga ((at_:Int),iX l))) (oy (lG n k d) E h p x)/\(oy (lG n k d) E h p x).length<=p.length+(2*nv d-1):=by
 have okG:∀ m,m<2^n->bt m h=false->Ok n (ie E h (Ga ((at_:Int),m))) at_:=λm h1 h2=>ho.upd hh (by omega) (ur _) h1 h2;have cntG:∀ m,lu n (ie E h (Ga ((at_:Int),m)))<=lu n E+1:=λm=>EY _;obtain⟨hx1,hx2,hx3⟩:=hl x jh;have nd':=ko.mp nd;have m1:iX (x::l)<2^n:=Ba h2 h5 _ λi hi=>(hl i hi).1;have m2:iX l<2^n:=Ba h2 h5 _ λi hi=>(hl i (jo _ hi)).1;have b1:bt (iX (x::l)) h=false:=by
  rw[xZ _ h (by omega),<- ka,jM];exact λz=>(hl h z).2.1 rfl
 have b2:bt (iX l) h=false:=by
  rw[xZ _ h (by omega),<- ka,jM];exact λz=>(hl h (jo _ z)).2.1 rfl
 have eg:p.getLastD E=ie E h (Ga ((at_:Int),iX (x::l))):=EI H.lst;have ef:sd (ie E h (Ga ((at_:Int),iX (x::l)))) h x=ie E h (Ga ((at_:Int),iX l)):=by
  unfold sd;rw[nY];dsimp only;rw[QE,TH (by omega) nd'.1]
 have g0:ie E h (Ga ((at_:Int),iX (x::l))) x=Gb:=by rw[lW hx2];exact hx3
 have f0:ie E h (Ga ((at_:Int),iX l)) x=Gb:=by rw[lW hx2];exact hx3
 have A1:=IH (ie E h (Ga ((at_:Int),iX (x::l)))) x hx1 g0 ((okG _ m1 b1).mono (by omega)) (by have:=cntG (iX (x::l));omega);have A2:=IH (ie E h (Ga ((at_:Int),iX l))) x hx1 f0 ((okG _ m2 b2).mono (by omega)) (by have:=cntG (iX l);omega);obtain⟨A1,l1⟩:=A1;obtain⟨A2,l2⟩:=A2;have cG:=cntG (iX (x::l));have cF:=cntG (iX l);have step:oy (lG n k d) E h p x=p++(lG n k d (ie E h (Ga ((at_:Int),iX (x::l)))) x++(lG n k d (ie E h (Ga ((at_:Int),iX l))) x).reverse).tail:=by
  unfold oy;rw[eg,ef]
 rw[step];generalize lG n k d (ie E h (Ga ((at_:Int),iX (x::l)))) x=P1 at A1 l1;generalize lG n k d (ie E h (Ga ((at_:Int),iX l))) x=P2 at A2 l2;have hq:(P1++P2.reverse).head?=Ga (ie E h (Ga ((at_:Int),iX (x::l)))):=AD A1.hd;have hql:(P1++P2.reverse).getLast?=Ga (ie E h (Ga ((at_:Int),iX l))):=by
  rw[uG,vO,A2.hd];rfl
 have hqc:rf (AZ n ns k) (P1++P2.reverse):=by
  refine AK A1.chn (KD (λ_ _=>AZ.symm) A2.chn) λa b ha hb=>?_;rw[A1.lst] at ha;cases ha;rw[Ju,A2.lst] at hb;cases hb;have c2:lu n (ie (ie E h (Ga ((at_:Int),iX l))) x (nO k at_))<=_:=A2.cnt _ (vb A2.lst);obtain⟨i,i1,i2,i3⟩:=Ez (n:=n) (E:=ie (ie E h (Ga ((at_:Int),iX l))) x (nO k at_)) (by omega) x;rw[lW i2] at i3;have i4:i≠h:=λz=>by subst z;rw[nY] at i3;cases i3
  rw[lW i4] at i3;refine⟨i,i1,by rw[lW i2,lW i4];exact i3,by rw[lW i2,lW i4];exact i3,?_⟩;have B:=zGy (n:=n) (ns:=ns) (E1:=ie (ie E h (Ga ((at_:Int),iX (x::l)))) x (nO k at_)) (E2:=ie (ie E h (Ga ((at_:Int),iX l))) x (nO k at_)) (k:=k) (at_:=at_) (h:=h) (to:=x) (m1:=iX (x::l)) (m2:=iX l) (uo hx2)
   (by rw[lW (uo hx2),nY]) (by rw[lW (uo hx2),nY]) (λt ht=>?_) nY nY (λj j1 j2=>by rw[lW j2,lW j1,lW j2,lW j1])
  .exact(CN B k (jm _)).1 i i1 (beq_eq_false_iff_ne.mpr i2)
  .by_cases t5:t<5
   .rw[xZ _ t t5,xZ _ t t5,qh,beq_eq_false_iff_ne.mpr ht,uq]
   .have big:∀ m:Nat,m<32->bt m t=false:=λm hm=>by
     unfold bt;have:(m:Int)/2^t=0:=by
      refine Int.ediv_eq_zero_of_lt (by omega) ?_;have e1:(2:Nat)^5<=2^t:=vd (by decide) (by omega);have e2:((2^t:Nat):Int)=(2:Int)^t:=Int.natCast_pow 2 t;rw[<- e2];omega
     rw[this];rfl
    rw[big (iX (x::l)) (Mu _ _ _ _ _),big (iX l) (Mu _ _ _ _ _)]
 refine⟨⟨AD H.hd,Kq H.lst hq hql,λF hF=>?_,λF hF=>?_,IU H.lst hq H.chn hqc⟩,?_⟩
 .rcases jI.mp hF with z|z
  .exact H.ok F z
  .rcases jI.mp (kI z) with z|z
   .exact A1.ok F z
   .exact A2.ok F (vj.mp z)
 .rcases jI.mp hF with z|z
  .exact H.cnt F z
  .rcases jI.mp (kI z) with z|z
   .have:=A1.cnt F z;omega
   .have:=A2.cnt F (vj.mp z);omega
 .have lt:(P1++P2.reverse).tail.length<=2*nv d-1:=by
   rw[ua,ju,kD];omega
  rw[ju];omega
theorem zi {n:Nat}{ns:Nat->D}{k:Nat}(h2:2<=n)(h5:n<=5):∀ (d:Nat) (E:Fs) (h:Nat),d<=k->h<n->E h=Gb->Ok n E (k+1-d)->lu n E+d+2<=n ->
  ym n ns k d E (ie E h (if d=0 then Gb else Ga ((k+1-d:Nat),0))) (lG n k d E h)/\(lG n k d E h).length<=nv d
 | 0,E,h,_,hh,e0,o,hc=>by
  refine⟨⟨rfl,?_,λF hF=>?_,λF hF=>?_,trivial⟩,jm _⟩
  .rw[Ge rfl,zDu e0];rfl
  .rw[jj.mp hF];exact o
  .rw[jj.mp hF];exact jm _
 | d+1,E,h,hk,hh,e0,o,hc=>by
  obtain⟨at_,hat⟩:∃ at_,at_=k-d:=⟨_,rfl⟩;have ho:Ok n E at_:=by rw[hat,<- (show k+1-(d+1)=k-d by omega)];exact o
  have enx:∀ F:Fs,∀ i,ie F i (if d=0 then Gb else Ga (((k+1-d:Nat):Int),0))=ie F i (nO k at_):=λF i=>by
   unfold nO;by_cases c:d=0
   .rw[Ge c,Gf (by omega)]
   .rw[Gf c,Ge (by omega)];have:((k+1-d:Nat):Int)=(at_:Int)+1:=by omega
    rw[this]
  have IH:=zi (ns:=ns) (k:=k) h2 h5 d;have okG:∀ m,m<2^n->bt m h=false->Ok n (ie E h (Ga ((at_:Int),m))) at_:=λm h1 h2=>ho.upd hh (by omega) (ur _) h1 h2;have cntG:∀ m,lu n (ie E h (Ga ((at_:Int),m)))<=lu n E+1:=λm=>EY _;have othM:∀ i,i∈lJ n E h at_->i<n/\i≠h/\E i=Gb:=λi hi=>by
   obtain⟨x1,x2⟩:=jO.mp hi;rw[jA,kF,beq_eq_false_iff_ne] at x2;exact⟨jk.mp x1,x2.2,ND ho x2.1⟩
  have L:∀ (l:List Nat),l.Nodup->(∀ i∈l,i<n/\i≠h/\E i=Gb)->∀ (p:List Fs),ym n ns k (d+1) E (ie E h (Ga ((at_:Int),iX l))) p ->
    ym n ns k (d+1) E (ie E h (Ga ((at_:Int),0))) (l.foldl (oy (lG n k d) E h) p)/\(l.foldl (oy (lG n k d) E h) p).length<=p.length+l.length*(2*nv d-1):=by
   intro l;induction l with
   | nil=>exact λ_ _ p H=>⟨H,by rw[ve,vt];omega⟩
   | cons x l ih =>
    intro nd hl p H;have nd':=ko.mp nd;obtain⟨s1,s2⟩:=Ua h2 h5 (λF i i1 i2 i3 i4=>by
     have:=IH F i (by omega) i1 i2 i3 i4;rw[enx] at this;exact this) hat hk hh ho hc nd hl H
    obtain⟨r1,r2⟩:=ih nd'.2 (λi hi=>hl i (jo _ hi)) _ s1;rw[uB];refine⟨r1,jF r2 ?_⟩;rw[jX,Jg];omega
  have P0:=IH E h (by omega) hh e0 (ho.mono (by omega)) (by omega);rw[enx] at P0;obtain⟨P0,l0⟩:=P0;have ndO:(lJ n E h at_).Nodup:=vy (uj) vR;have mO:iX (lJ n E h at_)<2^n:=Ba h2 h5 _ λi hi=>(othM i hi).1;have bO:bt (iX (lJ n E h at_)) h=false:=by
   rw[xZ _ h (by omega),<- ka,jM];exact λz=>(othM h z).2.1 rfl
  have S0:ym n ns k (d+1) E (ie E h (Ga ((at_:Int),iX (lJ n E h at_)))) (lG n k d E h++[ie E h (Ga ((at_:Int),iX (lJ n E h at_)))]):=by
   refine⟨AD P0.hd,by rw[uG];rfl,λF hF=>?_,λF hF=>?_,AK P0.chn trivial λa b ha hb=>?_⟩
   .rcases jI.mp hF with z|z
    .exact P0.ok F z
    .rw[jj.mp z];exact(okG _ mO bO).mono (by omega)
   .rcases jI.mp hF with z|z
    .have:=P0.cnt F z;omega
    .rw[jj.mp z];have:=cntG (iX (lJ n E h at_));omega
   .rw[P0.lst] at ha;cases ha;cases hb;obtain⟨i,i1,i2,i3⟩:=Ez (n:=n) (E:=E) (by omega) h;refine⟨i,i1,by rw[lW i2];exact i3,by rw[lW i2];exact i3,?_⟩;have A:=Qn (n:=n) (ns:=ns) (E1:=ie E h (nO k at_)) (E2:=ie E h (Ga ((at_:Int),iX (lJ n E h at_)))) (k:=k) (at_:=at_) (λj=>j==h)
     (λj hj=>by rw[beq_iff_eq] at hj;subst hj;exact nY) (λj hj=>⟨_,by rw[beq_iff_eq] at hj;subst hj;exact nY,λt ht t1 t2=>?_⟩) (λj hj=>by rw[beq_eq_false_iff_ne] at hj;rw[lW hj,lW hj])
    .exact(CN A k (jm _)).1 i i1 (beq_eq_false_iff_ne.mpr i2)
    .rw[xZ _ t (by omega),jM];refine jO.mpr ⟨jk.mpr ht,?_⟩;rw[Go (lW (beq_eq_false_iff_ne.mp t1)) _] at t2;rw[t2,t1];rfl
  have R:=L (lJ n E h at_) ndO othM _ S0;have e1:lG n k (d+1) E h=(lJ n E h at_).foldl (oy (lG n k d) E h) (lG n k d E h++[ie E h (Ga ((at_:Int),iX (lJ n E h at_)))]):=by rw[hat];rfl
  have e2:((k+1-(d+1):Nat):Int)=(at_:Int):=by omega
  rw[e1,Gf (JQ d),e2];refine⟨R.1,jF R.2 ?_⟩;have lo:(lJ n E h at_).length<=4:=by
   have a1:(lJ n E h at_).length<=n:=by unfold lJ;exact jF (ku _ _) (by rw[jD];exact jm _)
   by_cases c:(lJ n E h at_).length=n
   .exfalso;have:∀ i∈je n,(ml E i (at_:Int)&&!(i==h))=true:=List.length_filter_eq_length_iff.mp (by rw[jD];exact c);have:=this h (jk.mpr hh);rw[beq_self_eq_true,qq,ud] at this;cases this
   .omega
  rw[ju,j9];have:(lJ n E h at_).length*(2*nv d-1)<=4*(2*nv d-1):=Jh _ lo;show _<=nv d+1+4*(2*nv d-1);omega
theorem zA4 {α:Type}{P:List α->Prop}(h0:P [])(h1:∀ l x,P l->P (l++[x]))(l:List α):P l:=by
 have z:∀ r:List α,P r.reverse:=λr=>by
  induction r with
  | nil=>exact h0
  | cons x r ih=>rw[uD];exact h1 _ _ ih
 have:=z l.reverse;rw[List.reverse_reverse] at this;exact this
theorem zA5 {n:Nat}{ns:Nat->D}{k d h:Nat}{E:Fs}(h2:2<=n)(h5:n<=5)(hk:d+1<=k)(hh:h<n)(e0:E h=Gb)(ho:Ok n E (k-d))(hc:lu n E+(d+1)+2<=n) :
  ∀ (pre suf:List Nat),lJ n E h (k-d)=pre++suf->ym n ns k (d+1) E (ie E h (Ga (((k-d:Nat):Int),iX suf))) (pre.foldl (oy (lG n k d) E h) (lG n k d E h++[ie E h (Ga (((k-d:Nat):Int),iX (lJ n E h (k-d))))])) /\
   (pre.foldl (oy (lG n k d) E h) (lG n k d E h++[ie E h (Ga (((k-d:Nat):Int),iX (lJ n E h (k-d))))])).length<=nv d+1+pre.length*(2*nv d-1):=by
 obtain⟨at_,hat⟩:∃ at_,at_=k-d:=⟨_,rfl⟩;rw[<- hat] at ho ⊢;have enx:∀ F:Fs,∀ i,ie F i (if d=0 then Gb else Ga (((k+1-d:Nat):Int),0))=ie F i (nO k at_):=λF i=>by
  unfold nO;by_cases c:d=0
  .rw[Ge c,Gf (by omega)]
  .rw[Gf c,Ge (by omega)];have:((k+1-d:Nat):Int)=(at_:Int)+1:=by omega
   rw[this]
 have IH:=zi (ns:=ns) (k:=k) h2 h5 d;have okG:∀ m,m<2^n->bt m h=false->Ok n (ie E h (Ga ((at_:Int),m))) at_:=λm h1 h2=>ho.upd hh (by omega) (ur _) h1 h2;have cntG:∀ m,lu n (ie E h (Ga ((at_:Int),m)))<=lu n E+1:=λm=>EY _;have othM:∀ i,i∈lJ n E h at_->i<n/\i≠h/\E i=Gb:=λi hi=>by
  obtain⟨x1,x2⟩:=jO.mp hi;rw[jA,kF,beq_eq_false_iff_ne] at x2;exact⟨jk.mp x1,x2.2,ND ho x2.1⟩
 have P0:=IH E h (by omega) hh e0 (ho.mono (by omega)) (by omega);rw[enx] at P0;obtain⟨P0,l0⟩:=P0;have ndO:(lJ n E h at_).Nodup:=vy (uj) vR;have mO:iX (lJ n E h at_)<2^n:=Ba h2 h5 _ λi hi=>(othM i hi).1;have bO:bt (iX (lJ n E h at_)) h=false:=by
  rw[xZ _ h (by omega),<- ka,jM];exact λz=>(othM h z).2.1 rfl
 have S0:ym n ns k (d+1) E (ie E h (Ga ((at_:Int),iX (lJ n E h at_)))) (lG n k d E h++[ie E h (Ga ((at_:Int),iX (lJ n E h at_)))]):=by
  refine⟨AD P0.hd,by rw[uG];rfl,λF hF=>?_,λF hF=>?_,AK P0.chn trivial λa b ha hb=>?_⟩
  .rcases jI.mp hF with z|z
   .exact P0.ok F z
   .rw[jj.mp z];exact(okG _ mO bO).mono (by omega)
  .rcases jI.mp hF with z|z
   .have:=P0.cnt F z;omega
   .rw[jj.mp z];have:=cntG (iX (lJ n E h at_));omega
  .rw[P0.lst] at ha;cases ha;cases hb;obtain⟨i,i1,i2,i3⟩:=Ez (n:=n) (E:=E) (by omega) h;refine⟨i,i1,by rw[lW i2];exact i3,by rw[lW i2];exact i3,?_⟩;have A:=Qn (n:=n) (ns:=ns) (E1:=ie E h (nO k at_)) (E2:=ie E h (Ga ((at_:Int),iX (lJ n E h at_)))) (k:=k) (at_:=at_) (λj=>j==h)
    (λj hj=>by rw[beq_iff_eq] at hj;subst hj;exact nY) (λj hj=>⟨_,by rw[beq_iff_eq] at hj;subst hj;exact nY,λt ht t1 t2=>?_⟩) (λj hj=>by rw[beq_eq_false_iff_ne] at hj;rw[lW hj,lW hj])
   .exact(CN A k (jm _)).1 i i1 (beq_eq_false_iff_ne.mpr i2)
   .rw[xZ _ t (by omega),jM];refine jO.mpr ⟨jk.mpr ht,?_⟩;rw[Go (lW (beq_eq_false_iff_ne.mp t1)) _] at t2;rw[t2,t1];rfl
 intro pre;induction pre using zA4 with
 | h0 =>
  intro suf e;rw[JW] at e;rw[<- e,ve];exact⟨S0,by rw[ju,j9,vt];omega⟩
 | h1 pre x ih =>
  intro suf e;rw[kU,qZ] at e;obtain⟨r1,r2⟩:=ih (x::suf) e;rw[vM,uB,ve];have nd:(x::suf).Nodup:=by rw[e] at ndO;exact(ug.mp ndO).2.1
  have hl:∀ i∈x::suf,i<n/\i≠h/\E i=Gb:=λi hi=>othM i (by rw[e];exact jG _ hi);obtain⟨s1,s2⟩:=Ua h2 h5 (λF i i1 i2 i3 i4=>by
   have:=IH F i (by omega) i1 i2 i3 i4;rw[enx] at this;exact this) hat hk hh ho hc nd hl r1
  refine⟨s1,jF s2 ?_⟩;rw[ju,j9,Jg];omega
theorem RW {α β:Type}{f g:α->Option β}:∀ {l:List α},(∀ x∈l,f x=g x)->l.filterMap f=l.filterMap g
 | [],_=>rfl
 | x::l,h=>by
  have ih:=RW (l:=l) λy hy=>h y (jo _ hy);have e:=h x jh;cases w:g x with
  | none=>rw[jZ (f:=f) (e.trans w),jZ (f:=g) w,ih]
  | some y=>rw[kj (f:=f) (e.trans w),kj (f:=g) w,ih]
def iJ (n:Nat)(E:Fs):List Fl:=(je n).filterMap λi=>(E i).map λp=>⟨i,p.1,p.2⟩
theorem sk {n:Nat}{E:Fs}{f:Fl}:f∈iJ n E↔f.h<n/\E f.h=Ga (f.a,f.m):=by
 unfold iJ;rw[uR];constructor
 .rintro⟨i,hi,e⟩;obtain⟨p,hp,rfl⟩:=qJ.mp e;exact⟨jk.mp hi,hp⟩
 .rintro⟨h1,h2⟩;exact⟨f.h,jk.mpr h1,by rw[h2];rfl⟩
theorem HW (n:Nat)(E:Fs):(iJ n E).map Fl.h=(je n).filter λi=>(E i).isSome:=by
 unfold iJ;induction n with
 | zero=>rfl
 | succ n ih =>
  rw[kh,u6,j0,ih,kA];refine congrArg _ ?_;cases e:E n with
  | none=>rw[jZ (by rw[e];rfl),kG (by rw[e];exact jr)];rfl
  | some p=>rw[kj (by rw[e];rfl),ky (by rw[e];rfl)];rfl
theorem EG (n:Nat)(E:Fs):((iJ n E).map Fl.h).Nodup:=by
 rw[HW];exact vy uj vR
theorem Gx (n:Nat)(E:Fs):(iJ n E).length=lu n E:=by
 unfold lu;rw[<- HW,jd]
theorem ER {fs:List Fl}(nd:(fs.map Fl.h).Nodup){f:Fl}(hf:f∈fs):mJ fs f.h=Ga f:=by
 unfold mJ;induction fs with
 | nil=>cases hf
 | cons g fs ih =>
  rw[jK,ko] at nd;rcases jw.mp hf with rfl|hf
  .rw[kz (by exact beq_self_eq_true _)]
  .rw[kx,ih nd.2 hf];intro z;rw[beq_iff_eq] at z;exact nd.1 (by rw[z];exact v6 hf)
theorem CF {n:Nat}{E:Fs}{h:Nat}(hn:h<n):mJ (iJ n E) h=(E h).map λp=>⟨h,p.1,p.2⟩:=by
 cases e:E h with
 | some p =>
  have:=ER (EG n E) (f:=⟨h,p.1,p.2⟩) (sk.mpr ⟨hn,e⟩);exact this
 | none =>
  unfold mJ;rw[uV.mpr]
  .rfl
  .intro f hf z;rw[beq_iff_eq] at z;obtain⟨_,h2⟩:=sk.mp hf;rw[z,e] at h2;cases h2
theorem XU {n:Nat}{E:Fs}{h:Nat}(hn:h<n)(r:Int):up (iJ n E) h r=ml E h r:=by
 unfold up ml;rw[CF hn];cases E h with
 | none=>rfl
 | some p=>rfl
theorem ztU (n:Nat)(E:Fs)(h:Nat):(iJ n E).filter (λf=>!(f.h==h))=iJ n (ie E h Gb):=by
 unfold iJ;induction n with
 | zero=>rfl
 | succ n ih =>
  rw[kh,u6,u6,kA,ih];refine congrArg _ ?_;by_cases c:n=h
  .subst c;cases e:E n with
   | none=>rw[jZ (by rw[e];rfl),jZ (by rw[nY];rfl)];rfl
   | some p =>
    rw[kj (by rw[e];rfl),jZ (by rw[nY];rfl)];rw[kG (by rw[beq_self_eq_true];decide)];rfl
  .cases e:E n with
   | none=>rw[jZ (by rw[e];rfl),jZ (by rw[lW c,e];rfl)];rfl
   | some p =>
    rw[kj (by rw[e];rfl),kj (by rw[lW c,e];rfl)];rw[ky (by rw[beq_eq_false_iff_ne.mpr c];rfl)];rfl
def wN (X:List Fl):List Fl:=(je 5).filterMap λi=>mJ X i
theorem PQ {X Y:List Fl}(nd:(X.map Fl.h).Nodup)(hY:∀ y∈Y,y∈X)(hs:Y.map Fl.h=(je 5).filter λi=>(X.map Fl.h).contains i):Y=wN X:=by
 have e1:∀ Y:List Fl,(∀ y∈Y,y∈X)->Y=(Y.map Fl.h).filterMap λi=>mJ X i:=by
  intro Y;induction Y with
  | nil=>exact λ_=>rfl
  | cons y Y ih =>
   intro h;rw[jK,kj (ER nd (h y jh)),<- ih λz hz=>h z (jo _ hz)]
 rw[e1 Y hY,hs];unfold wN;have e2:∀ l:List Nat,(l.filter λi=>(X.map Fl.h).contains i).filterMap (λi=>mJ X i)=l.filterMap λi=>mJ X i:=by
  intro l;induction l with
  | nil=>rfl
  | cons i l ih =>
   by_cases c:(X.map Fl.h).contains i=true
   .rw[ky c];cases e:mJ X i with
    | none=>rw[jZ e,jZ e];exact ih
    | some f=>rw[kj e,kj e,ih]
   .rw[kG c,ih];have:mJ X i=Gb:=by
     unfold mJ;refine uV.mpr λf hf z=>c ?_;rw[beq_iff_eq] at z;rw[jM,<- z];exact v6 hf
    rw[jZ this]
 exact e2 _
theorem zwA {n:Nat}{E:Fs}{h:Nat}{a:Int}{m:Nat}(h5:n<=5)(hn:h<n):wN (iJ n (ie E h Gb)++[⟨h,a,m⟩])=iJ n (ie E h (Ga (a,m))):=by
 have hlook:∀ i,mJ (iJ n (ie E h Gb)++[⟨h,a,m⟩]) i=if i<n then(ie E h (Ga (a,m)) i).map (λp=>(⟨i,p.1,p.2⟩:Fl)) else Gb:=λi=>by
  unfold mJ;rw[List.find?_append];by_cases c:i<n
  .rw[Ge c];have:=CF (E:=ie E h Gb) c;unfold mJ at this;rw[this];by_cases e:i=h
   .subst e;rw[nY,nY];rw[kz (by exact beq_self_eq_true _)];rfl
   .rw[lW e,lW e];cases E i with
    | some p=>rfl
    | none=>rw[kx (by intro z;rw[beq_iff_eq] at z;exact e z.symm)];rfl
  .rw[Gf c];rw[uV.mpr,kx (by intro z;rw[beq_iff_eq] at z;have z:h=i:=z;omega)]
   .rfl
   .intro f hf z;rw[beq_iff_eq] at z;have:=(sk.mp hf).1;omega
 unfold wN;rw[show(λi=>mJ (iJ n (ie E h Gb)++[⟨h,a,m⟩]) i)=λi=>if i<n then(ie E h (Ga (a,m)) i).map (λp=>(⟨i,p.1,p.2⟩:Fl)) else Gb from funext hlook];unfold iJ;have key:∀ k,n<=k->(je k).filterMap (λi=>if i<n then(ie E h (Ga (a,m)) i).map (λp=>(⟨i,p.1,p.2⟩:Fl)) else Gb)=(je n).filterMap λi=>(ie E h (Ga (a,m)) i).map λp=>(⟨i,p.1,p.2⟩:Fl):=by
  intro k;induction k with
  | zero =>
   intro hk;obtain rfl:n=0:=by omega
   rfl
  | succ k ih =>
   intro hk;by_cases c:n=k+1
   .subst c;exact RW λi hi=>Ge (jk.mp hi)
   .rw[kh,u6,ih (by omega),jZ (by rw[Gf (by omega)])];exact km _
 exact key 5 h5
abbrev Rn:=(Nat->Int)×Fs
def zl (n:Nat)(r:Rn)(k i:Nat):D:=mK n (λj=>.int (r.1 j)) r.2 k i
def tB (n k:Nat)(r1 r2:Rn):Prop:=∃ i,i<n/\r1.2 i=Gb/\r2.2 i=Gb/\zl n r1 k i=zl n r2 k i
theorem tB.symm {n k:Nat}{r1 r2:Rn}(h:tB n k r1 r2):tB n k r2 r1:=by
 obtain⟨i,h1,h2,h3,h4⟩:=h;exact⟨i,h1,h3,h2,h4.symm⟩
theorem IQ {α β:Type}{R:α->α->Prop}{Q:β->β->Prop}(f:α->β)(h:∀ a b,R a b->Q (f a) (f b)):∀ {l:List α},rf R l->rf Q (l.map f)
 | [],_=>trivial
 | [_],_=>trivial
 | a::b::r,c=>⟨h a b c.1,IQ f h (l:=b::r) c.2⟩
def iw:Fs:=λ_=>Gb
def oX (v:Nat->Int)(h:Nat)(x:Int):Nat->Int:=λi=>if i=h then x else v i
def xX (n k d:Nat)(v v':Nat->Int)(E E':Fs)(h:Nat):List Rn:=(lG n k d E h).map (λF=>(v,F))++((lG n k d E' h).map λF=>(v',F)).reverse
def pQ (n k:Nat)(new:Nat->Int)(p:List Rn)(h:Nat):List Rn :=
 if (p.getLastD (new,iw)).1 h=new h then p else p++(xX n k k (p.getLastD (new,iw)).1 (oX (p.getLastD (new,iw)).1 h (new h)) (p.getLastD (new,iw)).2 (p.getLastD (new,iw)).2 h).tail
structure rW (n k t:Nat)(a b:Rn)(P:List Rn):Prop where
 hd:P.head?=Ga a
 lst:P.getLast?=Ga b
 ok:∀ r∈P,Ok n r.2 5
 cnt:∀ r∈P,lu n r.2<=t
 chn:rf (tB n k) P
 num:∀ r∈P,∀ i,r.1 i=a.1 i\/r.1 i=b.1 i
theorem yj (n:Nat):lu n iw=0:=by
 unfold lu;rw[vC];exact uW.mpr λi _=>by unfold iw;exact jr
theorem yk (n a:Nat):Ok n iw a:=⟨λ_ _ _ z=>(by cases z),λ_ _ _ z=>(by cases z),λ_ _ _ z=>(by cases z)⟩
theorem Zd {n k d:Nat}(h2:2<=n)(h5:n<=5)(k4:k<=4){v v':Nat->Int}{E E':Fs}{h:Nat}(hd:d<=k)(hh:h<n)(e1:E h=Gb)(e2:E' h=Gb)(o1:Ok n E (k+1-d))(o2:Ok n E' (k+1-d))(c1:lu n E+d+2<=n)(c2:lu n E'+d+2<=n){t:Nat}(t1:lu n E+d<=t)(t2:lu n E'+d<=t)
  (mid:∀ i,i≠h->zl n (v,ie E h (nO k (k-d))) k i=zl n (v',ie E' h (nO k (k-d))) k i\/n<=i) (non:∀ i,E i=Gb↔E' i=Gb):rW n k t (v,E) (v',E') (xX n k d v v' E E' h)/\(xX n k d v v' E E' h).length<=2*nv d:=by
 have enx:∀ F:Fs,ie F h (if d=0 then Gb else Ga (((k+1-d:Nat):Int),0))=ie F h (nO k (k-d)):=λF=>by
  unfold nO;by_cases c:d=0
  .rw[Ge c,Gf (by omega)]
  .rw[Gf c,Ge (by omega)];have:((k+1-d:Nat):Int)=((k-d:Nat):Int)+1:=by omega
   rw[this]
 obtain⟨A1,l1⟩:=zi (ns:=λj=>.int (v j)) (k:=k) h2 h5 d E h hd hh e1 o1 c1;obtain⟨A2,l2⟩:=zi (ns:=λj=>.int (v' j)) (k:=k) h2 h5 d E' h hd hh e2 o2 c2;rw[enx] at A1 A2;unfold xX;refine⟨⟨?_,?_,λr hr=>?_,λr hr=>?_,?_,λr hr i=>?_⟩,?_⟩
 .exact AD (by rw[List.head?_map,A1.hd];rfl)
 .rw[uG,vO,List.head?_map,A2.hd];rfl
 .rcases jI.mp hr with z|z
  .obtain⟨F,hF,rfl⟩:=jz.mp z;exact(A1.ok F hF).mono (by omega)
  .obtain⟨F,hF,rfl⟩:=jz.mp (vj.mp z);exact(A2.ok F hF).mono (by omega)
 .rcases jI.mp hr with z|z
  .obtain⟨F,hF,rfl⟩:=jz.mp z;exact jF (A1.cnt F hF) t1
  .obtain⟨F,hF,rfl⟩:=jz.mp (vj.mp z);exact jF (A2.cnt F hF) t2
 .refine AK (IQ (Q:=tB n k) (λF=>(v,F)) (λa b ab=>ab) A1.chn) (KD (R:=tB n k) (λ_ _=>tB.symm) (IQ (Q:=tB n k) (λF=>(v',F)) (λa b ab=>ab) A2.chn)) λa b ha hb=>?_;rw[u8,A1.lst] at ha;cases ha;rw[Ju,u8,A2.lst] at hb;cases hb;have c3:=A1.cnt _ (vb A1.lst);obtain⟨i,i1,i2,i3⟩:=Ez (n:=n) (E:=ie E h (nO k (k-d))) (by omega) h;rw[lW i2] at i3;exact⟨i,i1,by show ie E h _ i=Gb;rw[lW i2];exact i3,by show ie E' h _ i=Gb;rw[lW i2];exact(non i).mp i3,(mid i i2).resolve_right (by omega)⟩
 .rcases jI.mp hr with z|z
  .obtain⟨F,hF,rfl⟩:=jz.mp z;exact .inl rfl
  .obtain⟨F,hF,rfl⟩:=jz.mp (vj.mp z);exact .inr rfl
 .rw[ju,kD,jd,jd];omega
theorem Hy {n k:Nat}(h2:2<=n)(h5:n<=5)(hk:k+2<=n)(v new:Nat->Int):∀ m,m<=n->∃ w,(∀ i,w i=if i<m then new i else v i)/\rW n k k (v,iw) (w,iw) ((je m).foldl (pQ n k new) [(v,iw)])/\((je m).foldl (pQ n k new) [(v,iw)]).length<=1+m*(2*nv k)
 | 0,_=>⟨v,λi=>by rw[Gf (qR i)],⟨rfl,rfl,λr hr=>(by rw[jj.mp hr];exact yk n _),λr hr=>(by rw[jj.mp hr];show lu n iw<=k;rw[yj];exact jT _),trivial,λr hr i=>(by rw[jj.mp hr];exact .inl rfl)⟩,by show 1<=1+0*(2*nv k);omega⟩
 | m+1,hm=>by
  obtain⟨w,hw,H,hl⟩:=Hy h2 h5 hk v new m (by omega);rw[kh,vM];show ∃ w',_/\rW n k k (v,iw) (w',iw) (pQ n k new ((je m).foldl (pQ n k new) [(v,iw)]) m)/\(pQ n k new ((je m).foldl (pQ n k new) [(v,iw)]) m).length<=_;generalize (je m).foldl (pQ n k new) [(v,iw)]=p at H hl;have el:p.getLastD (new,iw)=(w,iw):=EI H.lst;unfold pQ;rw[el];dsimp only;by_cases c:w m=new m
  .rw[Ge c];refine⟨w,λi=>?_,H,by rw[Jg];omega⟩;by_cases e:i=m
   .subst e;rw[c,Ge (k7 i)]
   .rw[hw i];by_cases e2:i<m
    .rw[Ge e2,Ge (by omega)]
    .rw[Gf e2,Gf (by omega)]
  .rw[Gf c];have S:=Zd (n:=n) (k:=k) (d:=k) h2 h5 (by omega) (v:=w) (v':=oX w m (new m)) (E:=iw) (E':=iw) (h:=m) (jm _) (by omega) rfl rfl (yk _ _) (yk _ _) (by rw[yj];omega) (by rw[yj];omega) (t:=k) (by rw[yj];omega) (by rw[yj];omega) (λi hi=>by
    by_cases hn:i<n
    .refine .inl ?_;have C:=zGz (n:=n) (ns1:=λj=>jc (w j)) (ns2:=λj=>jc (oX w m (new m) j)) (E:=ie iw m (nO k (k-k))) (k:=k) (h:=m) (λj hj=>by unfold oX;rw[Gf hj]) (by rw[nY,v9]);exact(CN C k (jm _)).1 i hn (beq_eq_false_iff_ne.mpr hi)
    .exact .inr (by omega)) (λ_=>Iff.rfl)
   obtain⟨S,sl⟩:=S;generalize xX n k k w (oX w m (new m)) iw iw m=q at S sl;refine⟨oX w m (new m),λi=>?_,⟨AD H.hd,Kq H.lst S.hd S.lst,λr hr=>?_,λr hr=>?_,IU H.lst S.hd H.chn S.chn,λr hr i=>?_⟩,?_⟩
   .unfold oX;by_cases e:i=m
    .subst e;rw[Ge rfl,Ge (k7 i)]
    .rw[Gf e,hw i];by_cases e2:i<m
     .rw[Ge e2,Ge (by omega)]
     .rw[Gf e2,Gf (by omega)]
   .rcases jI.mp hr with z|z
    .exact H.ok r z
    .exact S.ok r (kI z)
   .rcases jI.mp hr with z|z
    .exact H.cnt r z
    .exact S.cnt r (kI z)
   .have W:∀ j,w j=v j\/w j=oX w m (new m) j:=λj=>by
     by_cases e:j=m
     .left;subst e;rw[hw j,Gf (jY j)]
     .right;unfold oX;rw[Gf e]
    rcases jI.mp hr with z|z
    .rcases H.num r z i with z|z
     .exact .inl z
     .rcases W i with y|y
      .exact .inl (z.trans y)
      .exact .inr (z.trans y)
    .rcases S.num r (kI z) i with z|z
     .rcases W i with y|y
      .exact .inl (z.trans y)
      .exact .inr (z.trans y)
     .exact .inr z
   .rw[ju,ua,Jg];omega
theorem rW.join {n k t:Nat}{a b c:Rn}{p q:List Rn}(A:rW n k t a b p)(B:rW n k t b c q)(hv:a.1=b.1\/b.1=c.1):rW n k t a c (p++q.tail):=by
 refine⟨AD A.hd,Kq A.lst B.hd B.lst,λr hr=>?_,λr hr=>?_,IU A.lst B.hd A.chn B.chn,λr hr i=>?_⟩
 .rcases jI.mp hr with z|z
  .exact A.ok r z
  .exact B.ok r (kI z)
 .rcases jI.mp hr with z|z
  .exact A.cnt r z
  .exact B.cnt r (kI z)
 .rcases jI.mp hr with z|z
  .rcases A.num r z i with y|y
   .exact .inl y
   .rcases hv with e|e
    .exact .inl (y.trans (congrFun e i).symm)
    .exact .inr (y.trans (congrFun e i))
  .rcases B.num r (kI z) i with y|y
   .rcases hv with e|e
    .exact .inl (y.trans (congrFun e i).symm)
    .exact .inr (y.trans (congrFun e i))
   .exact .inr y
theorem rW.snoc {n k t:Nat}{a b c:Rn}{p:List Rn}(A:rW n k t a b p)(l:tB n k b c)(o:Ok n c.2 5)(h:lu n c.2<=t)(hv:b.1=c.1):rW n k t a c (p++[c]):=by
 have B:rW n k t b c [b,c]:=⟨rfl,rfl,λr hr=>?_,λr hr=>?_,⟨l,trivial⟩,λr hr i=>?_⟩
 .exact A.join B (.inr hv)
 .rcases jw.mp hr with rfl|hr
  .exact A.ok _ (vb A.lst)
  .rw[jj.mp hr];exact o
 .rcases jw.mp hr with rfl|hr
  .exact A.cnt _ (vb A.lst)
  .rw[jj.mp hr];exact h
 .rcases jw.mp hr with rfl|hr
  .exact .inl rfl
  .rw[jj.mp hr];exact .inr rfl
theorem zA6 {n:Nat}(h5:n<=5):2^n<=32:=vd (by decide) h5
def xI (hs:List Nat):Bool:=match pU (λi j=>Ga (decide (hs.getD i 0<hs.getD j 0))) (uu hs.length) with
 | some p=>decide (p.size<=64)&&decide (p.toList.map (λi=>hs.getD i 0)=(je 5).filter λi=>hs.contains i)&&p.toList.all λi=>decide (i<hs.length)
 | none=>false
theorem Uq:∀ a b:Fin 5,[a.val,b.val].Nodup->xI [a.val,b.val]=true:=by nofun
theorem UZ:∀ a b c:Fin 5,[a.val,b.val,c.val].Nodup->xI [a.val,b.val,c.val]=true:=by nofun
theorem UO:∀ a b c d:Fin 5,[a.val,b.val,c.val,d.val].Nodup->xI [a.val,b.val,c.val,d.val]=true:=by nofun
theorem Vj:∀ a b c d e:Fin 5,[a.val,b.val,c.val,d.val,e.val].Nodup->xI [a.val,b.val,c.val,d.val,e.val]=true:=by nofun
theorem zDv {hs:List Nat}(h2:2<=hs.length)(h5:hs.length<=5)(nd:hs.Nodup)(hb:∀ h∈hs,h<5):xI hs=true:=by
 match hs,h2,h5,nd,hb with
 | [a,b],_,_,nd,hb=>exact Uq ⟨a,hb a (by simp only[jw,true_or])⟩ ⟨b,hb b (by simp only[jw,true_or,or_true])⟩ nd
 | [a,b,c],_,_,nd,hb=>exact UZ ⟨a,hb a (by simp only[jw,true_or])⟩ ⟨b,hb b (by simp only[jw,true_or,or_true])⟩ ⟨c,hb c (by simp only[jw,true_or,or_true])⟩ nd
 | [a,b,c,d],_,_,nd,hb=>exact UO ⟨a,hb a (by simp only[jw,true_or])⟩ ⟨b,hb b (by simp only[jw,true_or,or_true])⟩ ⟨c,hb c (by simp only[jw,true_or,or_true])⟩ ⟨d,hb d (by simp only[jw,true_or,or_true])⟩ nd
 | [a,b,c,d,e],_,_,nd,hb=>exact Vj ⟨a,hb a (by simp only[jw,true_or])⟩ ⟨b,hb b (by simp only[jw,true_or,or_true])⟩ ⟨c,hb c (by simp only[jw,true_or,or_true])⟩ ⟨d,hb d (by simp only[jw,true_or,or_true])⟩ ⟨e,hb e (by simp only[jw,true_or,or_true])⟩ nd
 | a::b::c::d::e::f::r,_,h5,_,_=>simp only[jX] at h5;omega
theorem IY {n:Nat}{lt wZ:Nat->Nat->Option Bool}(h:∀ i j,i<n->j<n->lt i j=wZ i j):∀ {t:qG (Array Nat)},AN n t=true->pU lt t=pU wZ t
 | .ret p,_=>rfl
 | .ask i j k,c=>by
  unfold AN at c;rw[jA,jA,jA,decide_eq_true_eq,decide_eq_true_eq] at c;obtain⟨⟨⟨h1,h2⟩,h3⟩,h4⟩:=c;show(lt i j).bind _=(wZ i j).bind _;rw[h i j h1 h2];cases wZ i j with
  | none=>rfl
  | some b =>
   show pU lt (k b)=pU wZ (k b);cases b with
   | true=>exact IY h h3
   | false=>exact IY h h4
def f0:Fl:=⟨0,0,0⟩
theorem WY {f g:Fl}(h:f=g\/f.h≠g.h):AG (fd f) (fd g)=Ga (decide (f.h<g.h)):=by
 have e:AG (fd f) (fd g)=Ga (pR [(f.h:Int),f.a,(f.m:Int)] [(g.h:Int),g.a,(g.m:Int)]):=Sb [(f.h:Int),f.a,(f.m:Int)] [(g.h:Int),g.a,(g.m:Int)];rw[e];refine congrArg Ga ?_;rcases h with rfl|h
 .rw[Gd (jY _)];unfold pR;rw[Ge (beq_self_eq_true _)];unfold pR;rw[Ge (beq_self_eq_true _)];unfold pR;rw[Ge (beq_self_eq_true _)];rfl
 .unfold pR;rw[Gf (by rw[beq_iff_eq];omega)];by_cases c:f.h<g.h
  .rw[Gc c,Gc (by omega)]
  .rw[Gd c,Gd (by omega)]
theorem zA7 (g:Fl->D)(hlt:∀ f f':Fl,f=f'\/f.h≠f'.h->AG (g f) (g f')=Ga (decide (f.h<f'.h)))(hok:∀ X:List Fl,rj (X.map g)=true){X:List Fl}(hl:X.length<=5)(nd:(X.map Fl.h).Nodup)(hb:∀ f∈X,f.h<5):nt (X.map g)=Ga ((wN X).map g):=by
 by_cases h2:X.length<2
 .have e:nt (X.map g)=Ga (X.map g):=by unfold nt;rw[Ge (by rw[jd];exact h2)]
  rw[e,<- PQ nd (λ_ h=>h)]
  match X,h2,hb with
  | [],_,_=>rfl
  | [f],_,hb =>
   have:f.h<5:=hb f jh;have key:∀ a:Fin 5,[a.val]=(je 5).filter λi=>[a.val].contains i:=by nofun
   exact key ⟨f.h,this⟩
  | _::_::_,h,_=>simp only[jX] at h;omega
 .have hs:xI (X.map Fl.h)=true:=zDv (by rw[jd];omega) (by rw[jd];exact hl) nd λh hh=>by
   obtain⟨f,hf,rfl⟩:=jz.mp hh;exact hb f hf
  unfold xI at hs;split at hs;rotate_left
  .cases hs
  rename_i p hp;rw[jA,jA,decide_eq_true_eq,decide_eq_true_eq,jL] at hs;obtain⟨⟨p1,p2⟩,p3⟩:=hs;rw[jd] at hp p3;have getX:∀ i,i<X.length->∃ f,X[i]?=Ga f/\f∈X/\(X.map Fl.h).getD i 0=f.h/\(X.map g)[i]?=Ga (g f):=λi hi=>⟨X[i],ji hi,k9 hi,by rw[jg,jC,ji hi];rfl,by rw[jC,ji hi];rfl⟩;have cg:pU (xD (X.map g)) (uu X.length)=Ga p:=by
   rw[<- hp];refine IY (n:=X.length) (λi j hi hj=>?_) (zz3 _ (by omega));obtain⟨f,f1,f2,f3,f4⟩:=getX i hi;obtain⟨f',g1,g2,g3,g4⟩:=getX j hj;unfold xD;rw[f4,g4,f3,g3];refine hlt _ _ ?_;by_cases e:f.h=f'.h
   .left;have a:=ER nd f2;have b:=ER nd g2;rw[e,b] at a;cases a;rfl
   .exact .inr e
  unfold nt;have ok:rj (X.map g)=true:=hok X;rw[Gf (by rw[jd];exact h2),Ge (by rw[ok,Bool.and_true,decide_eq_true_eq,jd];omega),jd,cg,jv,Ge p1];refine congrArg Ga ?_;have eY:p.toList.map (λi=>(X.map g).getD i .none)=(p.toList.map λi=>X.getD i f0).map g:=by
   rw[jN];refine jR λi hi=>?_;obtain⟨f,f1,f2,f3,f4⟩:=getX i (of_decide_eq_true (p3 i hi));show(X.map g).getD i .none=g (X.getD i f0);rw[jg,jg,f4,f1];rfl
  rw[eY];refine congrArg (JH g) (PQ nd (λy hy=>?_) ?_)
  .obtain⟨i,hi,rfl⟩:=jz.mp hy;obtain⟨f,f1,f2,f3,f4⟩:=getX i (of_decide_eq_true (p3 i hi));rw[jg,f1];exact f2
  .rw[<- p2,jN];refine jR λi hi=>?_;obtain⟨f,f1,f2,f3,f4⟩:=getX i (of_decide_eq_true (p3 i hi));show(X.getD i f0).h=_;rw[f3,jg,f1];rfl
theorem zwB {X:List Fl}(hl:X.length<=5)(nd:(X.map Fl.h).Nodup)(hb:∀ f∈X,f.h<5):nt (X.map fd)=Ga ((wN X).map fd) :=
 zA7 fd (λ_ _ h=>WY h) (λX=>by
   unfold rj;rw[kB];right;rw[jL];intro d hd;obtain⟨f,_,rfl⟩:=jz.mp hd;rfl) hl nd hb
abbrev mQ (ns:List D)(E:Fs):D:=rd ns (iJ ns.length E)
theorem RV (ns:List D)(fs:List Fl):gZ (rd ns fs) (.int 0)=Ga (.tuple ns):=rfl
theorem TC (ns:List D)(fs:List Fl):gZ (rd ns fs) (.int 1)=Ga (.tuple (fs.map fd)):=rfl
theorem zFx (f:Fl):gZ (fd f) (.int 0)=Ga (.int f.h):=rfl
theorem Ki (n:Nat)(E:Fs):lu n E<=n:=by unfold lu;exact jF (ku _ _) (by rw[jD];exact jm _)
theorem zFy {n:Nat}(E:Fs)(h5:n<=5):((iJ n E).map fd).length<=1000000:=by rw[jd,Gx];have:=Ki n E;omega
theorem Sm (a b:Nat):decide (¬(a:Int)=(b:Int))=!(a==b):=by
 by_cases c:a=b
 .subst c;rw[beq_self_eq_true,Gd (λz=>z rfl)];rfl
 .rw[beq_eq_false_iff_ne.mpr c,Gc (by omega)];rfl
theorem Pa (a b:Nat):decide ((a:Int)=(b:Int))=(a==b):=by
 by_cases c:a=b
 .subst c;rw[beq_self_eq_true,Gc rfl]
 .rw[beq_eq_false_iff_ne.mpr c,Gd (by omega)]
theorem zwC (ns:List D)(E:Fs)(h:Nat)(h5:ns.length<=5):DJ [mQ ns E,.int h]=Ga (mQ ns (ie E h Gb)):=by
 have cp:lw ci gy [.val (.int (h:Int))] ((iJ ns.length E).map fd)=Ga ((iJ ns.length (ie E h Gb)).map fd):=by
  rw[<- ztU];refine Bc fd (λf=>!(f.h==h)) fd (λf _=>?_) λf _ _=>rfl;simp_arith[zFx,Sm]
 rw[zmK];unfold Lo;simp_arith[RV,TC,oZ,Ge (zFy E h5),cp];rfl
theorem Ld {xs ys:List D}(h:xs.length+ys.length<=1000):lr (.tuple xs) (.tuple ys)=Ga (.tuple (xs++ys)):=by
 show(if xs.length+ys.length<=sizeLine then _ else _)=_;rw[Ge (jF h (by rw[sizeLine_eq];decide))]
theorem TX (ns:List D)(E:Fs)(h:Nat)(a:Int)(m:Nat)(h5:ns.length<=5)(hh:h<ns.length):xT [mQ ns E,.int h,.int a,.int m]=Ga (mQ ns (ie E h (Ga (a,m)))):=by
 have hw:=zwC ns E h h5;have hl:(iJ ns.length (ie E h Gb)).length+1<=5:=by
  rw[Gx];have:lu ns.length (ie E h Gb)+1<=lu ns.length (ie E h (Ga (a,m))):=zFq hh (λi hi=>by
   by_cases e:i=h
   .subst e;rw[nY];rfl
   .rw[lW e] at hi ⊢;exact hi) (by rw[nY];rfl) nY
  have:=Ki ns.length (ie E h (Ga (a,m)));omega
 have ad:lr (.tuple ((iJ ns.length (ie E h Gb)).map fd)) (.tuple [.tuple [.int (h:Int),.int a,.int (m:Int)]])=Ga (.tuple ((iJ ns.length (ie E h Gb)++[(⟨h,a,m⟩:Fl)]).map fd)):=by
  rw[Ld (by rw[jd,j9];omega),j0];rfl
 have st:nt ((iJ ns.length (ie E h Gb)++[(⟨h,a,m⟩:Fl)]).map fd)=Ga ((iJ ns.length (ie E h (Ga (a,m)))).map fd):=by
  rw[zwB,zwA h5 hh]
  .rw[ju,j9];exact hl
  .rw[j0,ug];refine⟨EG _ _,ko.mpr ⟨uN,uw⟩,λx hx y hy=>?_⟩;rw[jj.mp hy];intro z;obtain⟨f,hf,e⟩:=jz.mp hx;have:=(sk.mp hf).2;rw[show f.h=h from e.trans z,nY] at this;cases this
  .intro f hf;rcases jI.mp hf with z|z
   .have:=(sk.mp z).1;omega
   .rw[jj.mp z];show h<5;omega
 rw[Wi];unfold Hl;simp_arith[hw,RV,TC,ad,st];rfl
theorem VZ:∀ (m:Fin 32) (b:Fin 5),vE (m.val:Int) (2^b.val)=((rN m.val b.val:Nat):Int):=by nofun
theorem zy2 (R R2:D)(h to a m T B:Int)(hf:zV [R,.int h]=Ga (.tuple [.int h,.int a,.int m]))(hb:xS [.int to]=Ga (.int B))(hx:vE m B=T)(hw:xT [R,.int h,.int a,.int T]=Ga R2):yU [R,.int h,.int to]=Ga R2:=by
 rw[ziH];unfold Kh;simp_arith[hf,hb,hx,hw]
theorem zy3 (ns:List D)(E:Fs)(h to:Nat)(a:Int)(m:Nat)(h5:ns.length<=5)(hh:h<ns.length)(ht:to<5)(hm:m<32)(e:E h=Ga (a,m)):yU [mQ ns E,.int h,.int to]=Ga (mQ ns (sd E h to)):=by
 have hf:zV [mQ ns E,.int h]=Ga (.tuple [.int (h:Int),.int a,.int (m:Int)]):=by
  rw[Lm];unfold xC;rw[CF hh,e];rfl
 have hb:xS [.int (to:Int)]=Ga (.int (2^to)):=by rw[IZ _ (by omega) (by omega)];rfl
 have et:sd E h to=ie E h (Ga (a,rN m to)):=by unfold sd;rw[e]
 rw[et];exact zy2 _ _ _ _ _ _ _ _ hf hb (VZ ⟨m,hm⟩ ⟨to,ht⟩) (TX ns E h a (rN m to) h5 hh)
theorem WE (ns:List D)(E:Fs)(h at_:Nat)(h5:ns.length<=5):∃ U:List D,sJ [mQ ns E,.int (at_:Int)]=Ga U/\U.length<=5/\lw eZ gy [.val (.int (h:Int))] U=Ga ((lJ ns.length E h at_).map λ(i:Nat)=>.int (i:Int)):=by
 refine⟨_,Dl ns _ _ h5,?_,?_⟩
 .rw[jd];exact jF (ku _ _) (by rw[jD];exact h5)
 .rw[Bc (λ(i:Nat)=>jc (i:Int)) (λi=>!(i==h)) (λ(i:Nat)=>jc (i:Int)) (λi _=>by simp_arith[Sm]) (λi _ _=>rfl)];refine congrArg Ga (congrArg _ ?_);unfold lJ;rw[List.filter_filter];refine u7 λi hi=>?_;rw[XU (jk.mp hi),Bool.and_comm]
theorem zA8 (l:List Nat)(hl:∀ i∈l,i<5):wz [.list (l.map λ(i:Nat)=>.int (i:Int))]=Ga (.int (iX l:Nat)):=by
 have e:=Hm (l.map λ(i:Nat)=>(i:Int)) (λh hh=>by
  obtain⟨i,hi,rfl⟩:=jz.mp hh;have:=hl i hi;omega)
 rw[jN] at e;have c:∀ k:Nat,(l.map λ(i:Nat)=>(i:Int)).contains (k:Int)=l.contains k:=λk=>by
  rw[jV,jM,jM];constructor
  .intro z;obtain⟨i,hi,e⟩:=jz.mp z;have:i=k:=by omega
   rw[<- this];exact hi
  .exact λz=>v6 z
 rw[show(l.map λ(i:Nat)=>(i:Int)).contains 0=l.contains 0 from c 0,show(l.map λ(i:Nat)=>(i:Int)).contains 1=l.contains 1 from c 1,show(l.map λ(i:Nat)=>(i:Int)).contains 2=l.contains 2 from c 2,show(l.map λ(i:Nat)=>(i:Int)).contains 3=l.contains 3 from c 3,show(l.map λ(i:Nat)=>(i:Int)).contains 4=l.contains 4 from c 4] at e;refine Eq.trans e (congrArg (λx=>Ga (jc x)) ?_);unfold iX;have key:∀ b0 b1 b2 b3 b4:Bool,mB b0 b1 b2 b3 b4=((mN b0 b1 b2 b3 b4:Nat):Int):=by decide
 exact key _ _ _ _ _
theorem FJ (xs:List D):sP (.list xs) (Ga 1) Gb=Ga (.list xs.tail):=by
 show Ga (uO (pS xs (Ga 1) Gb))=_;refine congrArg (λl=>Ga (uO l)) ?_;unfold pS;rw[HT.sIx_none,show(Ga (1:Int))=Ga ((1:Nat):Int) from rfl,HT.sIx_nat];cases xs with
 | nil=>rfl
 | cons x r =>
  rw[jX,qS (by omega),List.drop_one,Jf];exact qL (by omega)
theorem Ho {p:List D}{l:D}(h:p.getLast?=Ga l):L2.atI p (-1)=Ga l:=by
 obtain⟨q,rfl⟩:∃ q,p=q++[l]:=List.getLast?_eq_some_iff.mp h;exact L2.atI_last q l
theorem Qw (H:List D->Option (List D))(r1 r2 h a k:D)(p q:List D)(h1:H [r1,h,a,k]=Ga p)(h2:H [r2,h,a,k]=Ga q)(hl:p.length+q.length<=1000000):hJ (MG H [.val r1,.val r2,.val h,.val a,.val k])=Ga (.list (p++q.reverse)):=by
 have ad:lr (.list p) (.list q.reverse)=Ga (.list (p++q.reverse)):=by
  show(if p.length+q.reverse.length<=sizeLine then _ else _)=_;rw[Ge (jF (by rw[kD];exact hl) (by rw[sizeLine_eq];decide))]
 unfold MG;simp_arith[h1,h2,ad]
theorem ZW (H:List D->Option (List D))(C:List D->Option D)(R h:D)(a k:Int)(ha:k<a):rQ (CM H C [.val R,.val h,.val (.int a),.val (.int k),.no,.no,.no,.no,.no])=Ga [R]:=by
 unfold CM;simp_arith[Gc ha]
theorem zy5 (H:List D->Option (List D))(C:List D->Option D)(R:D)(h a k mk:Int)(ha:¬k<a)(U:List D)(O:List Nat)(hU:sJ [R,.int a]=Ga U)(hUl:U.length<=1000000)(hO:lw eZ gy [.val (.int h)] U=Ga (O.map λ(i:Nat)=>.int (i:Int)))
  (P0:List D) (h0:H [R,.int h,.int (a+1),.int k]=Ga P0) (hl0:P0.length<1000000) (hm:wz [.list (O.map λ(i:Nat)=>.int (i:Int))]=Ga (.int mk)) (R1:D) (hw:xT [R,.int h,.int a,.int mk]=Ga R1)
  (W:List Nat->List D) (hW:W []=P0++[R1]) (hS:∀ (pre:List Nat) (o:Nat) (suf:List Nat),O=pre++o::suf->∃ l f q,(W pre).getLast?=Ga l/\yU [l,.int h,.int (o:Int)]=Ga f/\C [l,f,.int (o:Int),.int (a+1),.int k]=Ga (.list q)/\W (pre++[o])=W pre++q.tail/\(W pre).length+q.tail.length<=1000000) :
  rQ (CM H C [.val R,.val (.int h),.val (.int a),.val (.int k),.no,.no,.no,.no,.no])=Ga (W O):=by
 unfold CM;simp_arith[Gd ha,hU,oZ,Ge hUl,hO,h0,hm,hw,Ge hl0];refine(congrArg rQ (DG (R:=Ga (.ro (W O))) (λ(i:Nat)=>jc (i:Int)) (λpre ψ=>∃ x4 x7 x8,ψ=[.val R,.val (.int h),.val (.int a),.val (.int k),x4,.val (.list (O.map λ(i:Nat)=>.int (i:Int))),.own (W pre),x7,x8]) O ⟨_,_,_,by rw[hW]⟩ ?_ ?_)).trans rfl
 .rintro pre o suf e _ ⟨x4,x7,x8,rfl⟩;obtain⟨l,f,q,q1,q2,q3,q4,q5⟩:=hS pre o suf e;rw[q4];have q1:=Ho q1;have q6:tz (W pre) q.tail=Ga (W pre++q.tail):=by unfold tz;rw[Ge q5]
  generalize W pre=p at q1 q6;simp_arith[q1,q2,q3,FJ,q6];exact oF ⟨_,_,_,rfl⟩
 .rintro _ ⟨x4,x7,x8,rfl⟩;simp_arith[]
theorem MI:∀ d,d<=3->nv d<=456
 | 0,_=>by decide
 | 1,_=>by decide
 | 2,_=>by decide
 | 3,_=>by decide
theorem HG (ns:List D)(h2:2<=ns.length)(h5:ns.length<=5)(k:Nat):∀ (d N:Nat) (E:Fs) (h:Nat),d<N->d<=k->h<ns.length->E h=Gb->Ok ns.length E (k+1-d)->lu ns.length E+d+2<=ns.length ->
  pb N [mQ ns E,.int (h:Int),.int ((k+1-d:Nat):Int),.int (k:Int)]=Ga ((lG ns.length k d E h).map (mQ ns))
 | _,0,_,_,hN,_,_,_,_,_=>by omega
 | 0,N+1,E,h,_,_,_,_,_,_=>by
  rw[Qb];exact ZW _ _ _ _ _ _ (by omega)
 | d+1,N+1,E,h,hN,hk,hh,e0,ho,hc=>by
  have ea:k+1-(d+1)=k-d:=by omega
  rw[ea] at ho ⊢;have IH:=HG ns h2 h5 k d N;have eb:((k-d:Nat):Int)+1=((k+1-d:Nat):Int):=by omega
  have hl:=MI d (by omega);have PR:=zA5 (ns:=λi=>ns.getD i .none) h2 h5 hk hh e0 ho hc;obtain⟨U,u1,u2,u3⟩:=WE ns E h (k-d) h5;have othM:∀ i,i∈lJ ns.length E h (k-d)->i<ns.length/\i≠h/\E i=Gb:=λi hi=>by
   obtain⟨x1,x2⟩:=jO.mp hi;rw[jA,kF,beq_eq_false_iff_ne] at x2;exact⟨jk.mp x1,x2.2,ND ho x2.1⟩
  have okG:∀ m,m<2^ns.length->bt m h=false->Ok ns.length (ie E h (Ga (((k-d:Nat):Int),m))) (k+1-d):=λm h1 h2=>(ho.upd hh (by omega) (ur _) h1 h2).mono (by omega);have cntG:∀ m,lu ns.length (ie E h (Ga (((k-d:Nat):Int),m)))<=lu ns.length E+1:=λm=>EY _;have HO:=λF o a b c e=>(zi (ns:=λi=>ns.getD i .none) (k:=k) h2 h5 d F o (by omega) a b c e).2;rw[Qb];have l4:(lJ ns.length E h (k-d)).length<=5:=by unfold lJ;exact jF (ku _ _) (by rw[jD];exact h5)
  refine zy5 (pb N) (rg N) (mQ ns E) h ((k-d:Nat):Int) k _ (by omega) U (lJ ns.length E h (k-d)) u1 (by omega) u3 _ (by rw[eb];exact IH E h (by omega) (by omega) hh e0 (ho.mono (by omega)) (by omega)) ?_ (zA8 _ λi hi=>by have:=(othM i hi).1;omega) _ (TX ns E h _ _ h5 hh)
   (λpre=>(pre.foldl (oy (lG ns.length k d) E h) (lG ns.length k d E h++[ie E h (Ga (((k-d:Nat):Int),iX (lJ ns.length E h (k-d))))])).map (mQ ns)) (by rw[ve,j0];rfl) ?_
  .rw[jd];have:=HO E h hh e0 (ho.mono (by omega)) (by omega);omega
  .intro pre o suf e;obtain⟨P,pl⟩:=PR pre (o::suf) e;generalize eP:pre.foldl (oy (lG ns.length k d) E h) (lG ns.length k d E h++[ie E h (Ga (((k-d:Nat):Int),iX (lJ ns.length E h (k-d))))])=p at P pl;have hl':∀ i∈o::suf,i<ns.length/\i≠h/\E i=Gb:=λi hi=>othM i (by rw[e];exact jG _ hi);obtain⟨o1,o2,o3⟩:=hl' o jh;have nd:(o::suf).Nodup:=by
    have ndO:(lJ ns.length E h (k-d)).Nodup:=vy (uj) vR;rw[e] at ndO;exact(ug.mp ndO).2.1
   have bb:∀ l:List Nat,(∀ i∈l,i≠h)->bt (iX l) h=false:=λl hl=>by
    rw[xZ _ h (by omega),<- ka,jM];exact λz=>hl h z rfl
   have m1:iX (o::suf)<2^ns.length:=Ba h2 h5 _ λi hi=>(hl' i hi).1;have m2:iX suf<2^ns.length:=Ba h2 h5 _ λi hi=>(hl' i (jo _ hi)).1;have b1:=bb (o::suf) λi hi=>(hl' i hi).2.1;have b2:=bb suf λi hi=>(hl' i (jo _ hi)).2.1;have et:sd (ie E h (Ga (((k-d:Nat):Int),iX (o::suf)))) h o=ie E h (Ga (((k-d:Nat):Int),iX suf)):=by
    unfold sd;rw[nY];show ie _ h (Ga (_,rN (iX (o::suf)) o))=_;rw[QE,TH (by omega) (ko.mp nd).1]
   have c1:=cntG (iX (o::suf));have c2:=cntG (iX suf);have n1:ie E h (Ga (((k-d:Nat):Int),iX (o::suf))) o=Gb:=by rw[lW o2];exact o3
   have n2:ie E h (Ga (((k-d:Nat):Int),iX suf)) o=Gb:=by rw[lW o2];exact o3
   have l1:=HO _ o o1 n1 (okG _ m1 b1) (by omega);have l2:=HO _ o o1 n2 (okG _ m2 b2) (by omega);have i1:=IH _ o (by omega) (by omega) o1 n1 (okG _ m1 b1) (by omega);have i2:=IH _ o (by omega) (by omega) o1 n2 (okG _ m2 b2) (by omega);have pw:2^ns.length<=32:=vd (by omega) h5 (n:=2);refine⟨mQ ns (ie E h (Ga (((k-d:Nat):Int),iX (o::suf)))),mQ ns (ie E h (Ga (((k-d:Nat):Int),iX suf))),
    (lG ns.length k d (ie E h (Ga (((k-d:Nat):Int),iX (o::suf)))) o).map (mQ ns)++((lG ns.length k d (ie E h (Ga (((k-d:Nat):Int),iX suf))) o).map (mQ ns)).reverse,?_,?_,?_,?_,?_⟩
   .rw[u8,P.lst];rfl
   .rw[<- et];exact zy3 ns _ h o _ _ h5 hh (by omega) (by omega) nY
   .rw[Ph,eb];exact Qw _ _ _ _ _ _ _ _ i1 i2 (by rw[jd,jd];omega)
   .rw[vM,uB,ve,eP];unfold oy;rw[EI P.lst,et,j0,List.map_tail,j0,JS]
   .rw[jd,ua,ju,kD,jd,jd];have pl5:pre.length<=5:=by rw[e,ju] at l4;omega
    have:pre.length*(2*nv d-1)<=5*(2*nv d-1):=Jh _ pl5;omega
theorem Fy (i:Int){j:Int}(h1:-(2^64)<j)(h2:j<2^64):nk (.int i) (.int j)=Ga (.int (i*j)):=MA (by unfold tZ;rw[Gc h1,Gc h2];exact Bool.or_true _)
def pG (g:Fl->D)(X:List Fl):List (Int×D):=X.map λf=>((f.h:Int),g f)
theorem Tl (g:Fl->D)(h:Nat):∀ X:List Fl,nD (pG g X) (h:Int)=(mJ X h).map g
 | []=>rfl
 | f::X=>by
  have ih:=Tl g h X;unfold nD pG mJ at ih ⊢;rw[jK];by_cases c:f.h=h
  .rw[kz (p:=λ(p:Int×D)=>decide (p.1=(h:Int))) (Gc (by show((f.h:Nat):Int)=_;rw[c])),kz (p:=λ(f:Fl)=>f.h==h) (by rw[beq_iff_eq];exact c)];rfl
  .rw[kx (p:=λ(p:Int×D)=>decide (p.1=(h:Int))) (by rw[decide_eq_true_eq];intro z;exact c (by have z:((f.h:Nat):Int)=(h:Int):=z;omega)),kx (p:=λ(f:Fl)=>f.h==h) (by rw[beq_iff_eq];exact c)];exact ih
def yt (X:List Fl)(f:Fl):List Fl:=if (X.any λx=>x.h==f.h)=true then X.map (λx=>if x.h=f.h then f else x) else X++[f]
theorem zBa (g:Fl->D)(X:List Fl)(f:Fl):pP (pG g X) (f.h:Int) (g f)=pG g (yt X f):=by
 unfold pP yt;have e:((pG g X).any λkv=>decide (kv.1=(f.h:Int)))=X.any λx=>x.h==f.h:=by
  unfold pG;rw[JE]
  congr 1
  funext x
  show decide ((x.h:Int)=(f.h:Int))=_;rw[Pa]
 rw[e];split
 .unfold pG;rw[jN,jN];refine jR λx hx=>?_;show(if (x.h:Int)=(f.h:Int) then((x.h:Int),g f) else((x.h:Int),g x))=(((if x.h=f.h then f else x).h:Int),g (if x.h=f.h then f else x));by_cases c:x.h=f.h
  .rw[Ge c,Ge (by rw[c]),c]
  .rw[Gf c,Gf (by omega)]
 .unfold pG;rw[j0];rfl
theorem zBb (a k m1:Int)(h0:-(2^64)<k)(h1:k<2^64)(e1:(a*48271+k*k*7919)%2147483647=m1)(h2:-(2^64)<m1)(h3:m1<2^64):yr [.int a,.int k]=Ga (.int (m1*m1%2147483629)):=by
 rw[zp1];unfold Ht;simp_arith[Fy a (show -(2^64)<(48271:Int) by decide) (by decide),Fy k h0 h1,Fy (k*k) (show -(2^64)<(7919:Int) by decide) (by decide),wT (show(0:Int)<2147483647 by decide),wT (show(0:Int)<2147483629 by decide),e1,Fy m1 h2 h3]
theorem zBc (a:Int)(k:Nat)(hk:k<=1000):∃ M:Nat,M<2147483629/\yr [.int a,.int k]=Ga (.int (M:Int)):=by
 have e:=zBb a k _ (by omega) (by omega) rfl (by omega) (by omega);generalize (a*48271+(k:Int)*k*7919)%2147483647=y at e;generalize y*y=z at e;refine⟨(z%2147483629).toNat,by omega,?_⟩;rw[e];refine congrArg (λx=>Ga (jc x)) ?_;omega
theorem Bm {n:Nat}(h:n<1000000):la (.int (n:Int))=Ga ((je n).map λ(k:Nat)=>.int (k:Int)):=by
 rw[tX h];unfold lX;simp
theorem Uk:∀ h:Fin 5,L2.atI [jc 1,.int 2,.int 4,.int 8,.int 16] (h.val:Int)=Ga (.int (2^h.val)):=by
 intro h
 match h with
 | ⟨0,_⟩=>rfl
 | ⟨1,_⟩=>rfl
 | ⟨2,_⟩=>rfl
 | ⟨3,_⟩=>rfl
 | ⟨4,_⟩=>rfl
theorem QF:∀ h:Fin 5,(0:Int)<2^h.val/\(2:Int)^h.val<1073741824:=by decide
theorem Ft:∃ T:Int,(10:Int)^59=T/\0<2*T/\(10:Int)^60=10*T/\10<=T:=⟨10^59,rfl,by decide,by decide,by decide⟩
theorem Wl:∀ n:Nat,2<=n->n<=5->L2.atI [jc 3,.int 7,.int 15,.int 31] ((n:Int)-2)=Ga (.int ((2^n-1:Nat):Int))
 | 2,_,_=>rfl
 | 3,_,_=>rfl
 | 4,_,_=>rfl
 | 5,_,_=>rfl
def gE (f:Fl):D:=.tuple [.int f.a,.int (f.m:Int)]
def wu (E:Fs)(h:Nat):Int×Nat:=(E h).getD (9,0)
theorem Ng {n:Nat}{E:Fs}{h:Nat}(hh:h<n):(nD (pG gE (iJ n E)) (h:Int)).getD (.tuple [.int 9,.int 0])=.tuple [.int (wu E h).1,.int ((wu E h).2:Int)]:=by
 rw[Tl,CF hh];unfold wu;cases E h with
 | none=>rfl
 | some p=>rfl
theorem zFA {E:Fs}{h r:Nat}(hr:r<9):decide ((wu E h).1<=(r:Int))=!ml E h (r:Int):=by
 unfold wu ml;cases E h with
 | none=>show decide ((9:Int)<=(r:Int))=false;exact Gd (by omega)
 | some p =>
  show decide (p.1<=(r:Int))=!decide ((r:Int)<p.1);by_cases c:p.1<=(r:Int)
  .rw[Gc c,Gd (by omega)];rfl
  .rw[Gd c,Gc (by omega)];rfl
theorem zFB {E:Fs}{b t r:Nat}(hr:r<9):(decide ((r:Int)<(wu E b).1)||(decide ((wu E b).1=(r:Int))&&decide (((wu E b).2:Int)/2^t%2=1)))=mw E b t (r:Int):=by
 unfold wu mw;cases E b with
 | none=>show(decide ((r:Int)<9)||_)=true;rw[Gc (by omega)];rfl
 | some p=>rfl
theorem zy7 (row T v:D)(h at_ b e m P:Int)(parts:List D)(x5 x6 x7:Sl)(hP:L2.atI [jc 1,.int 2,.int 4,.int 8,.int 16] h=Ga (.int P))(hm:∀ x:Int,nw (.int x) (.int P)=Ga (.int (x/P)))(hm2:∀ x:Int,lQ (.int x) (.int 2)=Ga (.int (x%2)))(hv:gZ row (.int b)=Ga v)(kv:List (Int×D))(hT:pH T=Ga kv)(hg:(nD kv b).getD (.tuple [.int 9,.int 0])=.tuple [.int e,.int m])(hl:parts.length<1000000)(c:Bool)(hc:(decide (b=h)||(decide (at_<e)||(decide (e=at_)&&decide (m/P%2=1))))=c) :
  mh (λψ=>∃ x5 x6 x7,ψ=[.val row,.val T,.val (.int h),.val (.int at_),.own (parts++[if c=true then v else .none]),x5,x6,x7])
   ((md 5 (.int b) [.val row,.val T,.val (.int h),.val (.int at_),.own parts,x5,x6,x7]).bind (gT ao (iI ae (oP 4 (gW gZ gy gD)) (oP 4 gn)))):=by
 subst hc;by_cases c1:b=h
 .rw[Gc c1,kX,Ge rfl];simp_arith[hT,hg,Gc c1,hv,Ge hl];exact oF ⟨_,_,_,rfl⟩
 .rw[Gd c1,uq];by_cases c2:at_<e
  .rw[Gc c2,kX,Ge rfl];simp_arith[hT,hg,Gd c1,Gc c2,hv,Ge hl];exact oF ⟨_,_,_,rfl⟩
  .rw[Gd c2,uq];by_cases c3:e=at_
   .rw[Gc c3,vV];by_cases c4:m/P%2=1
    .rw[Gc c4,Ge rfl];simp_arith[hT,hg,Gd c1,Gd c2,Gc c3,hP,hm,hm2,Gc c4,hv,Ge hl];exact oF ⟨_,_,_,rfl⟩
    .rw[Gd c4,Gf jr];simp_arith[hT,hg,Gd c1,Gd c2,Gc c3,hP,hm,hm2,Gd c4,hv,Ge hl];exact oF ⟨_,_,_,rfl⟩
   .rw[Gd c3,qc,Gf jr];simp_arith[hT,hg,Gd c1,Gd c2,Gd c3,hv,Ge hl];exact oF ⟨_,_,_,rfl⟩
theorem zDx (rs:List D)(T:D)(h at_ e0 m0:Int)(kv:List (Int×D))(hT:pH T=Ga kv)(hg0:(nD kv h).getD (.tuple [.int 9,.int 0])=.tuple [.int e0,.int m0])(hu:e0<=at_):zx [.list rs,T,.int h,.int at_]=Ga .none:=by
 rw[TJ];unfold GH;simp_arith[hT,hg0,Gc hu]
theorem XX (rs:List D)(T:D)(h at_ P:Int)(N:Nat)(e m:Nat->Int)(v:Nat->D)(c:Nat->Bool)(e0 m0 n:Int)(hrl:(rs.length:Int)=n)(hN:N<=5)(hr:la (.int n)=Ga ((je N).map λ(k:Nat)=>.int (k:Int)))(hP:L2.atI [jc 1,.int 2,.int 4,.int 8,.int 16] h=Ga (.int P))(hm:∀ x:Int,nw (.int x) (.int P)=Ga (.int (x/P)))(hm2:∀ x:Int,lQ (.int x) (.int 2)=Ga (.int (x%2)))
  (kv:List (Int×D)) (hT:pH T=Ga kv) (hg0:(nD kv h).getD (.tuple [.int 9,.int 0])=.tuple [.int e0,.int m0]) (hv:∀ b,b<N->gZ (.list rs) (.int (b:Int))=Ga (v b)) (hg:∀ b:Nat,b<N->(nD kv (b:Int)).getD (.tuple [.int 9,.int 0])=.tuple [.int (e b),.int (m b)]) (hc:∀ b,b<N->(decide ((b:Int)=h)||(decide (at_<e b)||(decide (e b=at_)&&decide (m b/P%2=1))))=c b) (hu:¬e0<=at_)
  (W:Nat->List D) (hW:W 0=[]) (hW1:∀ b,b<N->W b++[if c b=true then v b else .none]=W (b+1)) (hWl:∀ b,b<N->(W b).length<1000000) :
  zx [.list rs,T,.int h,.int at_]=Ga (.tuple [.int h,.tuple (W N)]):=by
 rw[TJ];unfold GH;simp_arith[hT,hg0,Gd hu,hrl,hr];refine(congrArg hJ (BJ (R:=Ga (.rt (.tuple [.int h,.tuple (W N)]))) N (λk ψ=>∃ x5 x6 x7,ψ=[.val (.list rs),.val T,.val (.int h),.val (.int at_),.own (W k),x5,x6,x7]) ⟨_,_,_,by rw[hW]⟩ ?_ ?_)).trans rfl
 .rintro k hk _ ⟨x5,x6,x7,rfl⟩;refine Ni (zy7 _ T (v k) h at_ k (e k) (m k) P _ x5 x6 x7 hP hm hm2 (hv k hk) kv hT (hg k hk) (hWl k hk) (c k) (hc k hk)) ?_;rintro _ ⟨y5,y6,y7,rfl⟩;exact⟨y5,y6,y7,by rw[hW1 k hk]⟩
 .rintro _ ⟨x5,x6,x7,rfl⟩;simp_arith[]
def tF (ns:List D):Nat->D:=λi=>ns.getD i .none
def rT (ns:List D)(E:Fs)(r:Nat):List D:=(je ns.length).map (mK ns.length (tF ns) E r)
theorem zDy {ns:List D}{E:Fs}{r b:Nat}(h:b<ns.length):L2.atI (rT ns E r) (b:Int)=Ga (mK ns.length (tF ns) E r b):=by
 refine L2.atI_nat ?_;unfold rT;rw[jC,kN h];rfl
theorem zDz (ns:List D)(E:Fs)(r h:Nat)(h5:ns.length<=5)(hh:h<ns.length)(hr:r+1<9):zx [.list (rT ns E r),rE (pG gE (iJ ns.length E)),.int (h:Int),.int ((r:Int)+1)]=Ga (mK ns.length (tF ns) E (r+1) h):=by
 have rl:(rT ns E r).length=ns.length:=by unfold rT;rw[jd,jD]
 have ec:((r:Int)+1)=((r+1:Nat):Int):=by omega
 have hp:=QF ⟨h,by omega⟩;have T:=CW (pG gE (iJ ns.length E));show _=Ga (if ml E h ((r:Int)+1)=true then j3 [.int (h:Int),.tuple ((je ns.length).map λb=>if (b==h||mw E b h ((r:Int)+1))=true then mK ns.length (tF ns) E r b else uc)] else uc);have hu:=zFA (E:=E) (h:=h) (r:=r+1) (by omega);rw[<- ec] at hu;cases u:ml E h ((r:Int)+1) with
 | false =>
  rw[u] at hu;rw[Gf jr];exact zDx _ _ _ _ _ _ _ T (Ng hh) (of_decide_eq_true hu)
 | true =>
  rw[u] at hu;rw[Ge rfl];exact XX (rT ns E r) _ h ((r:Int)+1) _ ns.length (λb=>(wu E b).1) (λb=>((wu E b).2:Int)) (mK ns.length (tF ns) E r) (λb=>b==h||mw E b h ((r:Int)+1)) _ _ _ (by rw[rl]) h5 (Bm (by omega)) (Uk ⟨h,by omega⟩) (λx=>AU hp.1 hp.2) (λx=>wT (by decide)) _ T (Ng hh) (λb hb=>zDy hb) (λb hb=>Ng hb)
   (λb hb=>by rw[Pa,ec];exact congrArg _ (zFB (by omega))) (of_decide_eq_false hu) (λk=>(je k).map λb=>if (b==h||mw E b h ((r:Int)+1))=true then mK ns.length (tF ns) E r b else uc) rfl (λb hb=>by rw[kh,j0];rfl) (λb hb=>by rw[jd,jD];omega)
theorem YX {X:List Fl}{f:Fl}(h:f.h∉X.map Fl.h):yt X f=X++[f]:=by
 unfold yt;rw[Gf];intro z;obtain⟨x,hx,e⟩:=uv.mp z;rw[beq_iff_eq] at e;exact h (jz.mpr ⟨x,hx,e⟩)
theorem VV (Rn Rd:D)(X:List Fl)(f:Fl)(x3 x4 x5 x6:Sl)(hf:f.h∉X.map Fl.h)(hl:X.length<1000000) :
  mh (λψ=>∃ x3 x4 x5,ψ=[.val Rn,.val Rd,.dki Gb (pG gE (X++[f])),x3,x4,x5,x6])
   ((zJ cr (fd f) [.val Rn,.val Rd,.dki Gb (pG gE X),x3,x4,x5,x6]).bind bS):=by
 have pd:pP (pG gE X) (f.h:Int) (.tuple [.int f.a,.int (f.m:Int)])=pG gE (X++[f]):=by rw[<- YX hf];exact zBa gE X f
 have kl:(pG gE X).length<1000000:=by unfold pG;rw[jd];exact hl
 unfold fd;simp_arith[Ge kl,pd];exact oF ⟨_,_,_,rfl⟩
theorem zwE (C:List D->Option D)(Rn N0:D)(R at_ n:Int)(h0:gZ Rn (.int 0)=Ga N0)(hn:iU N0=Ga (.int n))(l:List D)(T:List (Int×D))(W w:List D)(y x3 x4 x5:Sl)(hy:y=.dki Gb T\/y=.val (rE T))(hr:la (.int n)=Ga l)(hll:l.length<=1000000)(h1:lw (λ_=>Ga true) (ig C aK) [.val (.int at_),.val (rE T),.own W] l=Ga w)(h2:W.length<1000000) :
  mh (λψ=>∃ y x3 x4 x5,(y=.dki Gb T\/y=.val (rE T))/\ψ=[.val Rn,.val (.int R),y,x3,x4,x5,.own (W++[.list w])]) ((md 4 (.int at_) [.val Rn,.val (.int R),y,x3,x4,x5,.own W]).bind (BH 2 (oP 6 (nZ (iQ bP (λ_=>Ga true) (ig C aK) [4,2,6]))))):=by
 rcases hy with rfl|rfl
 .simp_arith[h0,hn,hr,oZ,Ge hll,h1,Ge h2];exact oF ⟨_,_,_,_,.inr rfl,rfl⟩
 .simp_arith[h0,hn,hr,oZ,Ge hll,h1,Ge h2];exact oF ⟨_,_,_,_,.inr rfl,rfl⟩
theorem zBg (ns fs:List D)(R n:Int)(hn:(ns.length:Int)=n)(m:Nat)(l:List D)(T:List (Int×D))(row:Nat->List D)(W:Nat->List D)(hW0:W 0=[.list (row 0)])(hW:∀ r,r<m->W (r+1)=W r++[.list (row (r+1))])(hWl:∀ r,r<m->(W r).length<1000000)(hr:la (.int n)=Ga l)(hll:l.length<=1000000)(hr2:oh (.int 1) (.int (R+1))=Ga ((je m).map λ(k:Nat)=>.int ((k:Int)+1)))
  (hd:∀ ψ k r,(∃ x3 x4 x5,ψ=[.val (.tuple [.tuple ns,.tuple fs]),.val (.int R),.dki Gb [],x3,x4,x5,.no])->(∀ e,(∃ x3 x4 x5,e=[.val (.tuple [.tuple ns,.tuple fs]),.val (.int R),.dki Gb T,x3,x4,x5,.no])->k e=r)->lT (iV bJ bS fs ψ) k=r)
  (hf:lw (λ_=>Ga true) aS [.val (.tuple [.tuple ns,.tuple fs])] l=Ga (row 0))
  (hs:∀ r,r<m->lw (λ_=>Ga true) aD [.val (.int ((r:Int)+1)),.val (rE T),.own (W r)] l=Ga (row (r+1))) :
  yY [.tuple [.tuple ns,.tuple fs],.int R]=Ga (.list (W m)):=by
 rw[Xp];unfold LF;simp_arith[];refine(congrArg hJ (hd _ _ (Ga (.ro (W m))) ⟨_,_,_,rfl⟩ ?_)).trans rfl;rintro _ ⟨x3,x4,x5,rfl⟩;simp_arith[hn,hr,oZ,Ge hll,hf,hr2];refine BJ (R:=Ga (.ro (W m))) m (λk ψ=>∃ y x3 x4 x5,(y=.dki Gb T\/y=.val (rE T))/\ψ=[.val (.tuple [.tuple ns,.tuple fs]),.val (.int R),y,x3,x4,x5,.own (W k)]) ⟨_,_,_,_,.inl rfl,by rw[hW0]⟩ ?_ ?_
 .rintro k hk _ ⟨y,x3,x4,x5,hy,rfl⟩;rw[hW k hk];exact zwE zx (.tuple [.tuple ns,.tuple fs]) (.tuple ns) R _ n rfl (by show Ga (jc (ns.length:Int))=_;rw[hn]) l T _ _ y x3 x4 x5 hy hr hll (hs k hk) (hWl k hk)
 .rintro _ ⟨y,x3,x4,x5,hy,rfl⟩;rcases hy with rfl|rfl
  .simp_arith[]
  .simp_arith[]
theorem zBh (ns fs:List D)(i:Int)(v:D)(h:L2.atI ns i=Ga v):aS [.val (.int i),.val (.tuple [.tuple ns,.tuple fs])]=Ga (.tuple [.int i,v]):=by
 simp_arith[h]
theorem zDA (W:List D)(T d v:D)(h at_:Int)(hl:L2.atI W (-1)=Ga d)(hv:zx [d,T,.int h,.int at_]=Ga v):aD [.val (.int h),.val (.int at_),.val T,.own W]=Ga v:=by
 simp_arith[hl,hv]
theorem ZU {m:Nat}(h:m<1000):oh (.int 1) (.int ((m:Int)+1))=Ga ((je m).map λ(k:Nat)=>.int ((k:Int)+1)):=by
 unfold oh;dsimp only;rw[Ge ⟨by decide,by decide,by omega,by omega⟩];unfold lX;rw[show((m:Int)+1-1).toNat=m by omega];refine congrArg Ga (jR λk _=>?_);rw[Int.add_comm]
theorem zBj (ns:List D)(E:Fs)(m:Nat)(h5:ns.length<=5)(hm:m<9):yY [mQ ns E,.int (m:Int)]=Ga (.list ((je (m+1)).map λr=>.list (rT ns E r))):=by
 refine zBg ns ((iJ ns.length E).map fd) m _ rfl m _ (pG gE (iJ ns.length E)) (rT ns E) (λk=>(je (k+1)).map λr=>.list (rT ns E r)) rfl (λr _=>by rw[kh,j0];rfl) (λr hr=>by rw[jd,jD];omega) (Bm (by omega)) (by rw[jd,jD];omega) (ZU (by omega)) ?_ ?_ ?_
 .intro ψ k r h0 hk;refine DG fd (λpre ψ=>∃ x3 x4 x5,ψ=[.val (.tuple [.tuple ns,.tuple ((iJ ns.length E).map fd)]),.val (.int (m:Int)),.dki Gb (pG gE pre),x3,x4,x5,.no]) (iJ ns.length E) h0 ?_ hk;rintro pre f suf e _ ⟨x3,x4,x5,rfl⟩;refine VV _ _ pre f x3 x4 x5 _ ?_ ?_
  .have nd:=EG ns.length E;rw[e,j0,jK] at nd;exact λz=>(ug.mp nd).2.2 _ z _ jh rfl
  .have l:=Gx ns.length E;rw[e,ju] at l;have:=Ki ns.length E;omega
 .refine ze _ _ λi hi=>?_;have:=jk.mp hi;refine zBh ns _ _ _ (L2.atI_nat ?_);unfold tF;rw[ji this,jg,ji this];rfl
 .intro r hr;refine ze _ _ λi hi=>?_;have:=jk.mp hi;exact zDA _ _ _ _ _ _ (by show L2.atI (JH _ (je (r+1))) _=_;rw[kh,j0];exact L2.atI_last _ _) (zDz ns E r i h5 this (by omega))
theorem Dj (i:Int):om [.int i]=Ga (.bool true):=by
 rw[zp0];unfold KB;simp_arith[]
theorem zBk (pw:D->D->Option D)(R:D)(n mo x T:Int)(x3 x4 x5 x6 x7 x8:Sl)(hq:pw (.int 10) (.int 60)=Ga (.int T))(h:¬T<=(if x<0 then -x else x)) :
  mh (λψ=>∃ x3,ψ=[.val R,.val (.int n),.val (.int mo),x3,x4,x5,x6,x7,x8]) ((md 3 (.int x) [.val R,.val (.int n),.val (.int mo),x3,x4,x5,x6,x7,x8]).bind (iI (lV (mP (lE (ig om fE))) (lI Ae (nW Cq gC) (gW pw fP fQ))) eM iW)):=by
 have ha:Cq (.int x)=Ga (.int (if x<0 then -x else x)):=rfl;generalize (if x<0 then -x else x)=y at *;have hw:=Dj x;simp_arith[hw,ha,hq,Gd h];exact oF ⟨_,rfl⟩
theorem Zs (R:D)(n mo L h a m w P:Int)(x3 x5 x6 x7 x8:Sl)(h1:¬h<=L)(h2:¬n<=h)(h3:¬a<1)(h4:¬5<a)(h5:¬m<0)(h6:¬w<m)(hw:L2.atI [jc 3,.int 7,.int 15,.int 31] (n-2)=Ga (.int w))(hP:L2.atI [jc 1,.int 2,.int 4,.int 8,.int 16] h=Ga (.int P))(hd:nw (.int m) (.int P)=Ga (.int (m/P)))(hm:lQ (.int (m/P)) (.int 2)=Ga (.int (m/P%2)))(h7:¬m/P%2=1)(f:D)(hf:f=.tuple [.int h,.int a,.int m]) :
  mh (λψ=>∃ x3 x5 x6 x7 x8,ψ=[.val R,.val (.int n),.val (.int mo),x3,.val (.int h),x5,x6,x7,x8]) ((md 5 f [.val R,.val (.int n),.val (.int mo),x3,.val (.int L),x5,x6,x7,x8]).bind (gT ar (gT bf (gT (iI (lV (mP (lE (ig om fI))) (lV (mP (lE (ig om fJ))) (mP (lE (ig om fK))))) eM iW) (gT aa (gT ag gf)))))):=by
 subst hf;have l3:iU (.tuple [.int h,.int a,.int m])=Ga (.int 3):=rfl;have n3:lR (.int 3) (.int 3)=Ga (.bool false):=rfl;have w1:=Dj h;have w2:=Dj a;have w3:=Dj m;have l4:((([jc h,.int a,.int m]:List D).length:Nat):Int)=3:=rfl;have d3:decide (¬(3:Int)=3)=false:=rfl;simp_arith[l4,not_true_eq_false,w1,w2,w3,Gd h1,Gd h2,Gd h3,Gd h4,Gd h5,hw,Gd h6,hP,hd,hm,Gd h7];exact oF ⟨_,_,_,_,_,rfl⟩
theorem YQ (is:List Int)(X:List Fl)(n mo w T:Int)(hn:iU (.tuple (is.map jc))=Ga (.int n))(lf:Int)(hl:iU (.tuple (X.map fd))=Ga (.int lf))(hlf:¬mo<lf)(hq:sC (.int 10) (.int 60)=Ga (.int T))(hi:∀ x∈is,¬T<=(if x<0 then -x else x))(N F:List D)(eN:is.map jc=N)(eF:X.map fd=F)
  (pw:Jm (λf g:Fl=>f.h<g.h) X) (hf:∀ f∈X,∀ L:Int,L<(f.h:Int)->∀ x3 x5 x6 x7 x8,∀ R,mh (λψ=>∃ x3 x5 x6 x7 x8,ψ=[.val R,.val (.int n),.val (.int mo),x3,.val (.int (f.h:Int)),x5,x6,x7,x8]) ((md 5 (fd f) [.val R,.val (.int n),.val (.int mo),x3,.val (.int L),x5,x6,x7,x8]).bind (gT ar (gT bf (gT (iI (lV (mP (lE (ig om fI))) (lV (mP (lE (ig om fJ))) (mP (lE (ig om fK))))) eM iW) (gT aa (gT ag gf))))))) :
  yb [.tuple [.tuple N,.tuple F],.int n,.int mo]=Ga (.bool true):=by
 have l2:((([j3 N,.tuple F]:List D).length:Nat):Int)=2:=rfl;have hn2:((N.length:Nat):Int)=n:=by rw[eN] at hn;injection hn with hn;injection hn
 have hl2:((F.length:Nat):Int)=lf:=by rw[eF] at hl;injection hl with hl;injection hl
 have d1:¬¬n=n:=λz=>z rfl;rw[YU];unfold LJ;simp_arith[l2,not_true_eq_false,hn2,hl2,Gd hlf];rw[<- eN];refine(congrArg hJ (DG (R:=Ga (.rt (.bool true))) jc (λpre ψ=>∃ x3,ψ=[.val (.tuple [.tuple (is.map jc),.tuple F]),.val (.int n),.val (.int mo),x3,.no,.no,.no,.no,.no]) is ⟨_,rfl⟩ ?_ ?_)).trans rfl
 .rintro pre x suf e _ ⟨x3,rfl⟩;exact zBk sC _ n mo x T x3 _ _ _ _ _ hq (hi x (by rw[e];exact jG _ jh))
 .rintro _ ⟨x3,rfl⟩;simp_arith[];rw[<- eF];refine DG (R:=Ga (.rt (.bool true))) fd (λpre ψ=>∃ (L:Int) (x3 x5 x6 x7 x8:Sl),(∀ suf,X=pre++suf->∀ f∈suf,L<(f.h:Int))/\ψ=[.val (.tuple [.tuple (is.map jc),.tuple (X.map fd)]),.val (.int n),.val (.int mo),x3,.val (.int L),x5,x6,x7,x8]) X ⟨_,_,_,_,_,_,λ_ _ f _=>by omega,rfl⟩ ?_ ?_
  .rintro pre f suf e _ ⟨L,x3,x5,x6,x7,x8,hL,rfl⟩;refine Ni (hf f (by rw[e];exact jG _ jh) L (hL (f::suf) e f jh) x3 x5 x6 x7 x8 _) ?_;rintro _ ⟨y3,y5,y6,y7,y8,rfl⟩;refine⟨_,y3,y5,y6,y7,y8,λsuf' e' g hg=>?_,rfl⟩;have es:suf'=suf:=by
    rw[e,kU] at e';have:=List.append_cancel_left e';exact(J2 this).2.symm
   subst es;rw[e] at pw;have:=(Jv.mp (Ji.mp pw).2.1).1 g hg;omega
  .rintro _ ⟨L,x3,x5,x6,x7,x8,hL,rfl⟩;simp_arith[]
theorem Fv:sC (.int 10) (.int 60)=Ga (.int ((10:Int)^60)):=by
 show(if (decide ((0:Int)<=60)&&decide ((60:Int)<=1000000)&&decide ((10:Int).natAbs<2^64))=true then Ga (jc ((10:Int)^(60:Int).toNat)) else Gb)=_;rw[Ge (by decide)];rfl
theorem WH (n:Nat)(E:Fs):Jm (λf g:Fl=>f.h<g.h) (iJ n E):=by
 have h:=HW n E;have p:Jm (·<·) ((iJ n E).map Fl.h):=by rw[h];exact List.Pairwise.sublist uj qM
 exact List.pairwise_map.mp p
theorem zDC (is:List Int)(E:Fs)(mo:Nat)(h2:2<=is.length)(h5:is.length<=5)(hi:∀ x∈is,¬(10:Int)^60<=(if x<0 then -x else x))(ho:Ok is.length E 5)(hc:lu is.length E<=mo):yb [mQ (is.map jc) E,.int (is.length:Int),.int (mo:Int)]=Ga (.bool true):=by
 have e1:(is.map jc).length=is.length:=jd _;unfold mQ rd;rw[e1];have pw:2^is.length<=32:=vd (by omega) h5 (n:=2);have pw0:1<=2^is.length:=Nat.one_le_two_pow;refine YQ is (iJ is.length E) (is.length:Int) (mo:Int) ((2^is.length-1:Nat):Int) _ (by show Ga (jc (((is.map jc).length:Nat):Int))=_;rw[e1]) ((lu is.length E:Nat):Int) (by show Ga (jc ((((iJ is.length E).map fd).length:Nat):Int))=_;rw[jd,Gx]) (by omega) Fv hi _ _ rfl rfl (WH _ _) ?_;intro f hf L hL x3 x5 x6 x7 x8 R;obtain⟨f1,f2⟩:=sk.mp hf;have r:=ho.rnd _ _ _ f2;have m:=ho.msk _ _ _ f2;have hp:=QF ⟨f.h,by omega⟩;have mb:¬(f.m:Int)/2^f.h%2=1:=of_decide_eq_false m.2;exact Zs R _ _ L f.h f.a f.m _ _ x3 x5 x6 x7 x8 (by omega) (by omega) (by omega) (by omega) (by omega) (by omega) (Wl _ h2 h5) (Uk ⟨f.h,by omega⟩) (AU hp.1 hp.2) (wT (by decide)) mb _ rfl
theorem Tg {n:Nat}{ns ns':Nat->D}{E:Fs}(h:∀ i,i<n->ns i=ns' i):∀ r i,i<n->mK n ns E r i=mK n ns' E r i
 | 0,i,hi=>by unfold mK;rw[h i hi]
 | r+1,i,hi=>by
  unfold mK;have:(je n).map (λb=>if (b==i||mw E b i ((r:Int)+1))=true then mK n ns E r b else .none)=(je n).map (λb=>if (b==i||mw E b i ((r:Int)+1))=true then mK n ns' E r b else .none):=jR λb hb=>by rw[Tg h r b (jk.mp hb)]
  rw[this]
def iG (n:Nat)(v:Nat->Int):List D:=(je n).map λi=>.int (v i)
theorem mi (n:Nat)(v:Nat->Int):(iG n v).length=n:=by unfold iG;rw[jd,jD]
theorem Bi {n:Nat}{v:Nat->Int}{i:Nat}(h:i<n):(iG n v)[i]?=Ga (.int (v i)):=by unfold iG;rw[jC,kN h];rfl
theorem zy9 {n:Nat}{v w:Nat->Int}(h:∀ i,i<n->v i=w i):iG n v=iG n w:=jR λi hi=>by rw[h i (jk.mp hi)]
theorem Dx (n:Nat)(v:Nat->Int):iG n v=((je n).map v).map jc:=by unfold iG;rw[jN];rfl
def lx (n:Nat)(r:Rn):D:=mQ (iG n r.1) r.2
theorem zFD {n:Nat}{v:Nat->Int}(i:Nat)(h:i<n):tF (iG n v) i=.int (v i):=by unfold tF;rw[jg,Bi h];rfl
theorem zzA (R N F a b c N' x:D)(h:Int)(h0:gZ R (.int 0)=Ga N)(h1:gZ R (.int 1)=Ga F)(ha:sP N Gb (Ga h)=Ga a)(hb:lr a (.tuple [x])=Ga b)(hc:sP N (Ga (h+1)) Gb=Ga c)(hd:lr b c=Ga N'):wd [R,.int h,x]=Ga (.tuple [N',F]):=by
 rw[znJ];unfold Nd;simp_arith[h0,h1,ha,hb,hc,hd]
theorem WK (xs:List D)(h:Nat)(hh:h<xs.length):sP (.tuple xs) Gb (Ga (h:Int))=Ga (.tuple (xs.take h)):=by
 show(if HT.sIx xs.length 0 Gb=0/\HT.sIx xs.length xs.length (Ga (h:Int))=xs.length then Gb else Ga (j3 (pS xs Gb (Ga (h:Int)))))=_;rw[HT.sIx_nat,Gf (by omega)];unfold pS;rw[HT.sIx_none,HT.sIx_nat,List.drop_zero,JI,qS (by omega)]
theorem XE (xs:List D)(h:Nat)(hh:h<xs.length):sP (.tuple xs) (Ga ((h:Int)+1)) Gb=Ga (.tuple (xs.drop (h+1))):=by
 rw[show(h:Int)+1=((h+1:Nat):Int) by omega];show(if HT.sIx xs.length 0 (Ga ((h+1:Nat):Int))=0/\HT.sIx xs.length xs.length Gb=xs.length then Gb else Ga (j3 (pS xs (Ga ((h+1:Nat):Int)) Gb)))=_;rw[HT.sIx_nat,Gf (by omega)];unfold pS;rw[HT.sIx_none,HT.sIx_nat,qS (by omega),qL (by rw[vP];exact jm _)]
theorem zzB (n:Nat)(v:Nat->Int)(E:Fs)(h:Nat)(x:Int)(h5:n<=5)(hh:h<n):wd [lx n (v,E),.int (h:Int),.int x]=Ga (lx n (oX v h x,E)):=by
 have ln:=mi n v;have es:(iG n v).take h++[jc x]++(iG n v).drop (h+1)=iG n (oX v h x):=by
  rw[kU,qZ];have:=List.set_eq_take_append_cons_drop (l:=iG n v) (i:=h) (a:=jc x);rw[Ge (by omega)] at this;rw[<- this];refine JJ λi=>?_;by_cases c:i<n
  .rw[Bi c,List.getElem?_set];unfold oX;by_cases d:h=i
   .rw[Ge d,Ge (by omega),Ge d.symm]
   .rw[Gf d,Gf (λz=>d z.symm),Bi c]
  .rw[kf (by rw[List.length_set,ln];omega),kf (by rw[mi];omega)]
 have e:=zzA (lx n (v,E)) (.tuple (iG n v)) (.tuple ((iJ n E).map fd)) _ _ _ (.tuple (iG n (oX v h x))) (.int x) (h:Int) rfl (by unfold lx mQ;rw[mi];rfl) (WK _ h (by omega)) (Ld (by rw[vg,j9];omega)) (XE _ h (by omega)) (by rw[Ld (by rw[ju,vg,j9,vP];omega),es]);rw[e];unfold lx mQ rd;rw[mi]
theorem Yq (R Nw l N0 a b:D)(h k:Int)(p p':List D)(x4 x5 x6:Sl)(h1:L2.atI p (-1)=Ga l)(h2:gZ l (.int 0)=Ga N0)(h3:gZ N0 (.int h)=Ga a)(h4:gZ Nw (.int h)=Ga b)(hc:(lR a b=Ga (.bool false)/\p'=p)\/(lR a b=Ga (.bool true)/\∃ o q,wd [l,.int h,b]=Ga o/\rg 12 [l,o,.int h,.int 1,.int k]=Ga (.list q)/\tz p q.tail=Ga p')) :
  mh (λψ=>∃ x4 x5 x6,ψ=[.val R,.val Nw,.val (.int k),.own p',x4,x5,x6]) ((md 4 (.int h) [.val R,.val Nw,.val (.int k),.own p,x4,x5,x6]).bind (gT cA (iI aQ (gT (ly 6 (ig wd bz)) (tU 3 (oI (ig (rg 12) aV) fx oY))) iW))):=by
 generalize wd=A1 at *;generalize rg 12=A2 at *;rcases hc with ⟨c,rfl⟩|⟨c,o,q,c1,c2,c3⟩
 .simp_arith[h1,h2,h3,h4,c];exact oF ⟨_,_,_,rfl⟩
 .simp_arith[h1,h2,h3,h4,c,c1,c2,FJ,c3];exact oF ⟨_,_,_,rfl⟩
theorem Wx (R Nw:D)(k n:Int)(N:Nat)(W:Nat->List D)(hm:pk [R]=Ga (.int n))(hr:la (.int n)=Ga ((je N).map λ(k:Nat)=>.int (k:Int)))(h0:W 0=[R])(st:∀ h:Nat,h<N->∀ x4 x5 x6,mh (λψ=>∃ x4 x5 x6,ψ=[.val R,.val Nw,.val (.int k),.own (W (h+1)),x4,x5,x6]) ((md 4 (.int (h:Int)) [.val R,.val Nw,.val (.int k),.own (W h),x4,x5,x6]).bind (gT cA (iI aQ (gT (ly 6 (ig wd bz)) (tU 3 (oI (ig (rg 12) aV) fx oY))) iW)))):As [R,Nw,.int k]=Ga (.list (W N)):=by
 have fin:∀ o,o=lT (iV (md 4) (gT cA (iI aQ (gT (ly 6 (ig wd bz)) (tU 3 (oI (ig (rg 12) aV) fx oY))) iW)) ((je N).map λ(k:Nat)=>.int (k:Int)) [.val R,.val Nw,.val (.int k),.own [R],.no,.no,.no]) gm->hJ o=Ga (.list (W N)):=by
  rintro _ rfl;refine(congrArg hJ (BJ (R:=Ga (.ro (W N))) N (λh ψ=>∃ x4 x5 x6,ψ=[.val R,.val Nw,.val (.int k),.own (W h),x4,x5,x6]) ⟨_,_,_,by rw[h0]⟩ ?_ ?_)).trans rfl
  .rintro h hh _ ⟨x4,x5,x6,rfl⟩;exact st h hh x4 x5 x6
  .rintro _ ⟨x4,x5,x6,rfl⟩;simp_arith[]
 rw[zoQ];refine fin _ ?_;clear fin st;unfold NK;generalize wd=A1 at *;generalize rg 12=A2 at *;generalize pk=A3 at *;simp_arith[hm,hr]
theorem zt0 (n k d N:Nat)(v v':Nat->Int)(E E':Fs)(h:Nat)(h2:2<=n)(h5:n<=5)(hN:d<N)(hd:d<=k)(hh:h<n)(e1:E h=Gb)(e2:E' h=Gb)(o1:Ok n E (k+1-d))(o2:Ok n E' (k+1-d))(c1:lu n E+d+2<=n)(c2:lu n E'+d+2<=n) :
  rg N [lx n (v,E),lx n (v',E'),.int (h:Int),.int ((k+1-d:Nat):Int),.int (k:Int)]=Ga (.list ((xX n k d v v' E E' h).map (lx n))):=by
 have i1:=HG (iG n v) (by rw[mi];exact h2) (by rw[mi];exact h5) k d N E h hN hd (by rw[mi];exact hh) e1 (by rw[mi];exact o1) (by rw[mi];exact c1);have i2:=HG (iG n v') (by rw[mi];exact h2) (by rw[mi];exact h5) k d N E' h hN hd (by rw[mi];exact hh) e2 (by rw[mi];exact o2) (by rw[mi];exact c2);have l1:=(zi (ns:=λ_=>.none) (k:=k) h2 h5 d E h hd hh e1 o1 c1).2;have l2:=(zi (ns:=λ_=>.none) (k:=k) h2 h5 d E' h hd hh e2 o2 c2).2;have hl:=MI d (by omega);rw[mi] at i1 i2;rw[Ph];have e:=Qw _ (lx n (v,E)) (lx n (v',E')) _ _ _ _ _ i1 i2 (by rw[jd,jd];omega);rw[e];unfold xX;rw[j0,JS,jN,jN];rfl
theorem zrR (n k:Nat)(h2:2<=n)(h5:n<=5)(hk:k+2<=n)(v new:Nat->Int):As [lx n (v,iw),.tuple (iG n new),.int (k:Int)]=Ga (.list (((je n).foldl (pQ n k new) [(v,iw)]).map (lx n))):=by
 refine Wx _ _ _ (n:Int) n (λm=>((je m).foldl (pQ n k new) [(v,iw)]).map (lx n)) ?_ (Bm (by omega)) rfl ?_
 .have:=DA (iG n v) (iJ n iw);unfold lx mQ;rw[mi] at this ⊢;exact this
 .intro h hh x4 x5 x6;obtain⟨w,hw,H,hl⟩:=Hy h2 h5 hk v new h (by omega);have hkl:=MI k (by omega);rw[kh,vM,uB,ve];generalize (je h).foldl (pQ n k new) [(v,iw)]=p at H hl;have el:p.getLastD (new,iw)=(w,iw):=EI H.lst;have e0:w h=v h:=by rw[hw h,Gf (jY h)]
  refine Yq _ _ (lx n (w,iw)) (.tuple (iG n w)) (.int (w h)) (.int (new h)) (h:Int) (k:Int) _ _ x4 x5 x6 (Ho (by rw[u8,H.lst];rfl)) rfl (L2.atI_nat (Bi hh)) (L2.atI_nat (Bi hh)) ?_;unfold pQ;rw[el];dsimp only;by_cases c:w h=new h
  .refine .inl ⟨?_,by rw[Ge c]⟩;rw[c,Im,Gd (λz=>z rfl)]
  .refine .inr ⟨by rw[Im,Gc c],?_⟩;have C:=zt0 n k k 12 w (oX w h (new h)) iw iw h h2 h5 (by omega) (jm _) hh rfl rfl (yk _ _) (yk _ _) (by rw[yj];omega) (by rw[yj];omega);rw[show((k+1-k:Nat):Int)=1 by omega] at C;have SL:(xX n k k w (oX w h (new h)) iw iw h).length<=2*nv k:=by
    unfold xX;rw[ju,kD,jd,jd];have:=(zi (ns:=λ_=>.none) (k:=k) h2 h5 k iw h (jm _) hh rfl (yk _ _) (by rw[yj];omega)).2;omega
   refine⟨_,_,zzB n w iw h (new h) h5 hh,C,?_⟩;rw[Gf c,j0,List.map_tail];unfold tz;rw[Ge];rw[jd,ua,jd];have:h*(2*nv k)<=5*(2*456):=Jj (by omega) (by omega);omega
theorem zDD (R N F:D)(fs fs':List D)(k:Int)(h0:gZ R (.int 0)=Ga N)(h1:gZ R (.int 1)=Ga F)(hs:toS F=Ga fs)(hl:fs.length<=1000000)(hc:lw cj gy [.val (.int k)] fs=Ga fs'):zA [R,.int k]=Ga (.tuple [N,.tuple fs']):=by
 rw[zh6];unfold MH;simp_arith[h0,h1,hs,oZ,Ge hl,hc]
theorem zBm (R F:D)(a:Int)(U fs out:List D)(hU:sJ [R,.int a]=Ga U)(h1:gZ R (.int 1)=Ga F)(hs:toS F=Ga fs)(hl:fs.length<=1000000)(hc:lw (zT ck (lE (ig yQ dY))) gy [.val (.int a),.val (.list U)] fs=Ga out):zy [R,.int a]=Ga (.list out):=by
 rw[znK];unfold NL;generalize yQ=A1 at *;simp_arith[hU,h1,hs,oZ,Ge hl,hc]
theorem zFH (pw:D->D->Option D)(x T:Int)(hw:yW [.int x]=Ga (.bool true))(hq:pw (.int 10) (.int 60)=Ga (.int T))(h1:-T<x)(h2:x<T):hJ ((lL (zf (ig yW fA) (Od pO pO (nW wb (gW pw fP fQ)) gy (gW pw fP fQ)))) [.val (.int x)])=Ga (.bool true):=by
 generalize yW=A1 at *;simp_arith[hw,hq,Gc h1,Gc h2]
theorem zFI (x:Int)(h:¬(10:Int)^60<=(if x<0 then -x else x)):BC [.int x]=Ga (.bool true):=by
 have hw:yW [.int x]=Ga (.bool true):=by
  rw[VX];unfold My;simp_arith[]
 obtain⟨T,hT,_,hT2,_⟩:=Ft;rw[hT2] at h;rw[zpU];unfold ML;exact zFH sC x (10*T) hw (by rw[Fv,hT2]) (by split at h<;>omega) (by split at h<;>omega)
theorem zDE (xs bs:List D)(n:Int)(hn:iU (.tuple xs)=Ga (.int n))(h1:2<=n)(h2:n<=5)(hl:xs.length<=1000000)(hc:lw (λ_=>Ga true) (ig BC fA) [] xs=Ga bs)(hb:su bs=Ga (.bool true)):Bh [.tuple xs]=Ga (.bool true):=by
 rw[znI];unfold Kk;generalize BC=A1 at *;simp_arith[hn,Gc h1,Gc h2,Sh,oZ,Ge hl,hc,hb]
theorem zFJ (R Nw:D)(n:Int)(h1:Bh [Nw]=Ga (.bool true))(h2:iU Nw=Ga (.int n))(h3:pk [R]=Ga (.int n)):Ap [R,Nw]=Ga (.bool true):=by
 rw[VO];unfold Lz;generalize Bh=A1 at *;generalize pk=A2 at *;simp_arith[h1,h2,h3]
theorem zBn (l:List Int):su (l.map λ_=>jP true)=Ga (.bool true):=by
 unfold su;have:(l.map λ_=>jP true)=(l.map λ_=>true).map jP:=by rw[jN];rfl
 rw[this,ox,jv,JK];refine congrArg (λb=>Ga (jP b)) ?_;exact jL.mpr λ_ _=>rfl
theorem zDF (n:Nat)(v w:Nat->Int)(E:Fs)(h2:2<=n)(h5:n<=5)(hv:∀ i,i<n->¬(10:Int)^60<=(if v i<0 then -(v i) else v i)):Ap [lx n (w,E),.tuple (iG n v)]=Ga (.bool true):=by
 have ln:iU (.tuple (iG n v))=Ga (.int (n:Int)):=by show Ga (jc (((iG n v).length:Nat):Int))=_;rw[mi]
 refine zFJ _ _ (n:Int) ?_ ln ?_
 .refine zDE (iG n v) (((je n).map v).map λ_=>jP true) (n:Int) ln (by omega) (by omega) (by rw[mi];omega) ?_ (zBn _);rw[Dx];refine ze jc _ λx hx=>?_;obtain⟨i,hi,rfl⟩:=jz.mp hx;have:=zFI (v i) (hv i (jk.mp hi));simp_arith[this]
 .have:=DA (iG n w) (iJ n E);unfold lx mQ;rw[mi] at this ⊢;exact this
theorem zBo (R Nw l:D)(b k:Int)(P Q P2:List D)(h1:tH [R,.int b,.int k]=Ga (.bool true))(h2:Ap [R,Nw]=Ga (.bool true))(h3:BM [R,.int b,.int k]=Ga (.list P))(h4:L2.atI P (-1)=Ga l)(h5:As [l,Nw,.int k]=Ga (.list Q))(h6:lr (.list P) (.list Q.tail)=Ga (.list P2)):yX [R,.int b,.int k,Nw]=Ga (.list P2):=by
 rw[ZX];unfold IJ;generalize tH=A1 at *;generalize Ap=A2 at *;generalize BM=A3 at *;generalize As=A4 at *;simp_arith[h1,h2,h3,h4,h5,FJ,h6]
theorem rW.mono {n k t t':Nat}{a b:Rn}{P:List Rn}(H:rW n k t a b P)(h:t<=t'):rW n k t' a b P:=⟨H.hd,H.lst,H.ok,λr hr=>jF (H.cnt r hr) h,H.chn,H.num⟩
theorem CC {n:Nat}{E:Fs}{a:Nat}(h2:2<=n)(h5:n<=5)(ha:a<=5)(o:Ok n E a):mT n (iJ n E):=by
 have p32:=zA6 h5;exact⟨h2,h5,λf hf=>(sk.mp hf).1,λf hf=>jB (o.msk _ _ _ (sk.mp hf).2).1 p32,EG n E,λf hf=>(o.rnd _ _ _ (sk.mp hf).2).1,λf hf=>by have:=(o.rnd _ _ _ (sk.mp hf).2).2;omega⟩
theorem Tu (is:List Int)(E:Fs):(mQ (is.map jc) E).canLay0=true/\(mQ (is.map jc) E).depth<=3:=by
 have a:∀ x∈is.map jc,x.canLay0=true/\x.depth<=1:=λx hx=>by obtain⟨i,_,rfl⟩:=jz.mp hx;exact⟨rfl,jT _⟩
 have b:∀ x∈(iJ (is.map jc).length E).map fd,x.canLay0=true/\x.depth<=1:=λx hx=>by obtain⟨i,_,rfl⟩:=jz.mp hx;exact⟨rfl,jm _⟩
 have a1:=Dp λx hx=>(a x hx).1;have a2:=Dh λx hx=>(a x hx).2;have b1:=Dp λx hx=>(b x hx).1;have b2:=Dh λx hx=>(b x hx).2;unfold mQ rd;generalize (iJ (is.map jc).length E).map fd=u at *;generalize is.map jc=w at *;have c:∀ x∈[j3 w,j3 u],x.canLay0=true/\x.depth<=2:=λx hx=>by
  rcases jw.mp hx with rfl|hx
  .exact⟨a1,by show kq w+1<=2;omega⟩
  .rw[jj.mp hx];exact⟨b1,by show kq u+1<=2;omega⟩
 refine⟨Dp λx hx=>(c x hx).1,?_⟩;show kq [j3 w,j3 u]+1<=3;have:=Dh λx hx=>(c x hx).2;omega
theorem zDG (is:List Int)(E:Fs):lR (mQ (is.map jc) E) (mQ (is.map jc) E)=Ga (.bool false):=Pp (Tu is E).1 (by have:=(Tu is E).2;omega)
theorem UI (n:Nat)(v:Nat->Int)(E:Fs):lR (lx n (v,E)) (lx n (v,E))=Ga (.bool false):=by
 unfold lx;rw[Dx];exact zDG _ _
theorem XZ (ns:List Int)(lo hi:Option Int):∃ (cut:List D) (s:Int),sP (.list (ns.map jc)) lo hi=Ga (.list cut)/\xt cut=Ga (.int s):=by
 refine⟨_,((ns.drop (HT.sIx ns.length 0 lo)).take (HT.sIx ns.length ns.length hi-HT.sIx ns.length 0 lo)).sum,rfl,?_⟩;unfold pS;rw[jd,<- List.map_drop,<- List.map_take];unfold xt;rw[nV];rfl
theorem UG (L:Nat)(hL:L<=63):∃ K,wD (.int 0) (.int (L:Int)) (.int 9)=Ga ((je K).map λ(k:Nat)=>.int ((9*k:Nat):Int))/\∀ k,k<K->9*k<L:=by
 have f:∀ j:Fin 64,(v4 0 (j.val:Int) 9&&decide ((0:Int)<9)&&decide ((9:Int)<1000000))=true/\∀ k:Fin 64,k.val<(jQ 0 (j.val:Int) 9).toNat->9*k.val<j.val:=by nofun
 have g:∀ j:Fin 64,(jQ 0 (j.val:Int) 9).toNat<=63:=by nofun
 refine⟨(jQ 0 (L:Int) 9).toNat,?_,λk hk=>?_⟩
 .have:=(f ⟨L,by omega⟩).1;unfold wD;dsimp only;rw[Ge this];refine congrArg Ga (jR λk _=>?_);refine congrArg jc ?_;rw[qQ,Int.mul_comm,v8];rfl
 .have h1:=g ⟨L,by omega⟩;exact(f ⟨L,by omega⟩).2 ⟨k,by have h2:k<(jQ 0 (L:Int) 9).toNat:=hk;exact jB h2 (jF h1 (by decide))⟩ hk
theorem OD (T:Int)(hT:(10:Int)^59=T):sC (.int 10) (.int 59)=Ga (.int T):=by
 subst hT;show(if (decide ((0:Int)<=59)&&decide ((59:Int)<=1000000)&&decide ((10:Int).natAbs<2^64))=true then Ga (jc ((10:Int)^(59:Int).toNat)) else Gb)=_;rw[Ge (by decide)];rfl
theorem Sd (S:D)(k len a:Int)(hl:iU S=Ga (.int len))(h:(k<len/\gZ S (.int k)=Ga (.int a))\/(¬k<len/\a=0)):pX [S,.int k]=Ga (.int a):=by
 rw[znN];unfold NV;rcases h with ⟨c,d⟩|⟨c,rfl⟩
 .simp_arith[hl,Gc c,d]
 .simp_arith[hl,Gd c]
theorem zDI (ns:List Int)(k:Nat):∃ a,pX [.list (ns.map jc),.int (k:Int)]=Ga (.int a):=by
 by_cases c:k<ns.length
 .exact⟨ns[k],Sd _ _ (ns.length:Int) _ (by show Ga (jc (((ns.map jc).length:Nat):Int))=_;rw[jd]) (.inl ⟨by omega,L2.atI_nat (by rw[jC,ji c];rfl)⟩)⟩
 .exact⟨0,Sd _ _ (ns.length:Int) _ (by show Ga (jc (((ns.map jc).length:Nat):Int))=_;rw[jd]) (.inr ⟨by omega,rfl⟩)⟩
theorem Gv (n:Nat):iJ n iw=[]:=List.eq_nil_iff_forall_not_mem.mpr λf hf=>by have:=(sk.mp hf).2;cases this
theorem WS (R:D)(a k:D)(hf:zy [R,a]=Ga (.list [])):AO [R,a,k]=Ga [R]:=by
 have hs:toS (.list [])=Ga []:=rfl;have hc:lw (λ_=>Ga true) dB [] []=Ga []:=rfl;have dl:iU (.list [])=Ga (.int 0):=rfl;rw[zmL];unfold HN;generalize zy=A1 at *;simp_arith[hf,hs,oZ,hc,dl];rfl
theorem zGD (R F:D)(a k:D)(hh:AO [R,a,k]=Ga [R])(h1:gZ R (.int 1)=Ga F)(hs:toS F=Ga []):zv [R,a,k]=Ga (.list [R]):=by
 have h0:L2.atI [R] (-1)=Ga R:=rfl;have hc:lw ck dB [.val a] []=Ga []:=rfl;rw[zmM];unfold LG;generalize AO=A1 at *;simp_arith[hh,h0,h1,hs,oZ,hc];rfl
theorem Vr (R b:D)(k j:Int)(x5:Sl)(hr:∀ a,zv [R,.int a,.int k]=Ga (.list [R])):mh (λψ=>∃ x5,ψ=[.val R,.val b,.val (.int k),.own [R],.val R,x5]) ((md 5 (.int j) [.val R,.val b,.val (.int k),.own [R],.val R,x5]).bind (tU 3 (oI (ig zv aG) fx oY))):=by
 have h0:L2.atI [R] (-1)=Ga R:=rfl;have h3:tz [R] [R].tail=Ga [R]:=rfl;generalize zv=A1 at *;simp_arith[h0,hr,FJ,h3];exact oF ⟨_,rfl⟩
theorem UF (Bd:FS)(R b:D)(k:Int)(Ks:List D)(X:D)(hl:zA [R,.int k]=Ga R)(ne:lR R R=Ga (.bool false))(hr:la (.int k)=Ga Ks)(q:hJ (lT (iV gr Bd Ks [.val R,.val b,.val (.int k),.own [R],.val R,.no]) gm)=Ga X):hJ ((gT eS (gT (ly 4 (ig zA dY)) (gT (iI (lI lR gB gy) (oP 3 gB) iW) (gT (nL (wl la gA) gr Bd) gm)))) [.val R,.val b,.val (.int k),.no,.no,.no])=Ga X:=by
 generalize zA=A1 at *;simp_arith[hl,ne,hr];exact q
theorem Yo (n k:Nat)(b:D)(v:Nat->Int)(h2:2<=n)(h5:n<=5)(k4:k<=4):BM [lx n (v,iw),b,.int (k:Int)]=Ga (.list [lx n (v,iw)]):=by
 have e:lx n (v,iw)=rd (iG n v) []:=by unfold lx mQ;rw[Gv]
 have ln:=mi n v;have ne:=UI n v iw;rw[e] at ne ⊢;have hf:∀ a:Int,zy [rd (iG n v) [],.int a]=Ga (.list []):=λa=>zBm _ (.tuple []) a _ [] [] (Dl (iG n v) [] a (by rw[ln];exact h5)) rfl rfl (jT _) rfl;have hl:zA [rd (iG n v) [],.int (k:Int)]=Ga (rd (iG n v) []):=zDD _ (.tuple (iG n v)) (.tuple []) [] [] (k:Int) rfl rfl rfl (jT _) rfl;have hr:∀ a:Int,zv [rd (iG n v) [],.int a,.int (k:Int)]=Ga (.list [rd (iG n v) []]):=λa=>zGD _ (.tuple []) _ _ (WS _ _ _ (hf a)) rfl rfl;rw[ztN];unfold Lg;refine UF _ _ _ _ _ _ hl ne (Bm (by omega)) ?_;refine(congrArg hJ (BJ (f:=λ(k:Nat)=>(.int (k:Int):D)) (R:=Ga (.ro [rd (iG n v) []])) k (λ_ ψ=>∃ x5,ψ=[.val (rd (iG n v) []),.val b,.val (.int (k:Int)),.own [rd (iG n v) []],.val (rd (iG n v) []),x5]) ⟨_,rfl⟩ ?_ ?_)).trans rfl
 .rintro j hj _ ⟨x5,rfl⟩;exact Vr _ _ _ _ _ hr
 .rintro _ ⟨x5,rfl⟩;rfl
theorem zFK (n:Nat):Bn (cnt n [])=0:=by
 have c:∀ k,cnt n [] k=0:=λk=>by
  unfold cnt FQ;split<;>rfl
 unfold Bn;rw[c,c,c,c,c];decide
theorem QK {n k b:Nat}(h2:2<=n)(h5:n<=5)(ht:b+2<=n)(hk:k<=b)(v:Nat->Int):tH [lx n (v,iw),.int (b:Int),.int (k:Int)]=Ga (.bool true):=by
 have ln:=mi n v;have e:lx n (v,iw)=rd (iG n v) []:=by unfold lx mQ;rw[Gv]
 have G:=CC h2 h5 (jm 5) (yk n 5);rw[Gv] at G;have OP:=Zu (iG n v) [] (by rw[ln];exact G) b (by rw[ln];exact ht) (jT _) (k:Int);rw[ln,zFK,Gc (by omega)] at OP;rw[e];exact OP
theorem GW (n k b:Nat)(v new:Nat->Int)(h2:2<=n)(h5:n<=5)(k1:k<=2)(ht:b+2<=n)(hk:k<=b)(hv:∀ i,i<n->¬(10:Int)^60<=(if new i<0 then -(new i) else new i)) :
  ∃ Ps:List Rn,∃ w:Nat->Int,(∀ i,i<n->w i=new i)/\yX [lx n (v,iw),.int (b:Int),.int (k:Int),.tuple (iG n new)]=Ga (.list (Ps.map (lx n)))/\rW n k b (v,iw) (w,iw) Ps/\Ps.length<=6000:=by
 obtain⟨w,hw,HR,rl⟩:=Hy (n:=n) (k:=k) h2 h5 (by omega) v new n (jm _);have RE:=zrR n k h2 h5 (by omega) v new;have HE:=Yo n k (.int (b:Int)) v h2 h5 (by omega);generalize (je n).foldl (pQ n k new) [(v,iw)]=Q at HR rl RE;have kc:k=0\/k=1\/k=2:=by omega
 have l2:Q.length<=600:=by
  have:n*(2*nv k)<=5*(2*51):=Jj h5 (Jj (jm _) (by rcases kc with rfl|rfl|rfl<;>decide));omega
 obtain⟨Q',rfl⟩:∃ Q',Q=(v,iw)::Q':=by
  have:=HR.hd;cases Q with
  | nil=>cases this
  | cons a r=>cases this;exact⟨r,rfl⟩
 refine⟨(v,iw)::Q',w,λi hi=>by rw[hw i,Ge hi],?_,HR.mono hk,by omega⟩;refine zBo (lx n (v,iw)) _ (lx n (v,iw)) (b:Int) (k:Int) _ _ _ (QK h2 h5 ht hk v) (zDF n new v iw h2 h5 hv) HE rfl RE ?_;show(if _+_<=sizeLine then _ else _)=_;rw[jX] at l2;rw[Ge (jF (by rw[ua,jd,jX,jX,vt];omega:_<=6000) (by rw[sizeLine_eq];decide))];rfl
open Classical in
noncomputable def fr (Φ:Nat->D):Nat->Nat->D
 | _,0=>.none
 | a,m+1=>if Φ a=.none then fr Φ (a+1) m else .tuple [.int (a:Int),Φ a]
theorem Ug (f:FV)(e0 e1:Sl)(Φ:Nat->D)(n:Nat)(hΦ:∀ k,k<n->Φ k=.none\/∃ i:Int,Φ k=.int i)(hf:∀ k:Nat,k<n->∀ y3,f [e0,e1,.val (.int (k:Int)),y3]=Ga (Φ k)) :
  ∀ (m a:Nat) (y2 y3:Sl),a+m=n->lT (iV (md 2) (gT (ly 3 f) aL) ((ql a m).map λ(k:Nat)=>.int (k:Int)) [e0,e1,y2,y3]) fG=Ga (.rt (fr Φ a m))
 | 0,a,y2,y3,_=>rfl
 | m+1,a,y2,y3,e=>by
  rw[qC,jK];have ih:=Ug f e0 e1 Φ n hΦ hf m (a+1) (.val (.int (a:Int))) (.val (Φ a)) (by omega);have ha:=hf a (by omega);rcases hΦ a (by omega) with z|⟨i,z⟩
  .rw[z] at ha ih;unfold fr;rw[Ge z,<- ih]
   conv=>lhs;unfold iV
   simp_arith[ha]
  .rw[z] at ha;unfold fr;rw[Gf (by rw[z];exact λz=>by cases z),z];unfold iV;simp_arith[ha]
theorem zBq (P:List D->Option D)(c:iz)(φ:D->Option D)(v k d X:D)(y3:Sl)(h:P [v,k]=Ga d)(h2:φ d=Ga X):(oQ 0 c φ (ig P ed)) [.fn c,.val v,.val k,y3]=Ga X:=by
 simp_arith[h];exact h2
theorem YD (R P:List D->Option D)(c:iz)(φ:D->Option D)(v X:D)(ri:Int)(Ks:List D)(hR:R [v]=Ga (.int ri))(h0:la (.int (ri+1))=Ga Ks)(q:lT (iV (md 2) (gT (ly 3 (oQ 0 c φ (ig P ed))) aL) Ks [.fn c,.val v,.no,.no]) fG=Ga (.rt X)) :
  hJ ((gT (nL (wl la (gW lr (ig R fC) fV)) (md 2) (gT (ly 3 (oQ 0 c φ (ig P ed))) aL)) fG) [.fn c,.val v,.no,.no])=Ga X:=by
 simp_arith[hR,h0];rw[q,QZ]
theorem Za {n:Nat}(h:n<1000):la (.int (n:Int))=Ga ((ql 0 n).map λ(k:Nat)=>.int (k:Int)):=by
 rw[<- uF,<- rP];exact tX (Nat.lt_trans h (by decide))
theorem zzG (ns:List D)(fs:List Fl)(hi:∀ d∈ns,∃ i:Int,d=.int i)(r h:Nat)(hh:h<ns.length)(hr:r<=90)(Φ:Nat->D)(hΦ:∀ k,k<r+1->Φ k=.none\/∃ i:Int,Φ k=.int i)(c:iz)(φ:D->Option D)(hφ:∀ k,k<r+1->φ (vw ns fs k h)=Ga (Φ k)) :
  BE c φ [vw ns fs r h]=Ga (fr Φ 0 (r+1)):=by
 rw[zpW];unfold Qk;exact YD pf Aq c φ (vw ns fs r h) _ r _ (yP ns fs hi r h hh (by omega)) (Za (n:=r+1) (by omega)) (Ug _ _ _ Φ (r+1) hΦ (λk hk y3=>zBq _ c φ _ _ _ _ y3 (Gz ns fs hi r k h hh (by omega) (by omega)) (hφ k hk)) (r+1) 0 .no .no (by omega))
theorem CB {n:Nat}{E:Fs}{h:Nat}(hn:h<n)(r:Int):up (iJ n E) h r=ml E h r:=by
 unfold up ml;rw[CF hn];cases E h with
 | none=>rfl
 | some p=>rfl
theorem Wm {n l:Nat}{E:Fs}(O:Ok n E l)(G:mT n (iJ n E)){b h:Nat}{r:Int}(hb:b<n)(hh:h<n)(u:ml E h r=true):mw E b h r=cm (iJ n E) b h r:=by
 rw[jV,NG G];have uh:=(GD G h r).mp ((CB hh r).trans u);unfold mw;cases e:E b with
 | none =>
  refine⟨λ_ f hf=>⟨uh f hf,λz=>?_⟩,λ_=>rfl⟩;have:=(sk.mp hf).2;rw[z,e] at this;cases this
 | some p =>
  obtain⟨a,m⟩:=p;have mem:(⟨b,a,m⟩:Fl)∈iJ n E:=sk.mpr ⟨hb,e⟩;dsimp only;rw[kB,jA,decide_eq_true_eq,decide_eq_true_eq];constructor
  .intro z f hf;refine⟨uh f hf,λw=>?_⟩;have q:=(sk.mp hf).2;rw[w,e] at q;have q:=jJ q;have q1:a=f.a:=congrArg Prod.fst q;have q2:m=f.m:=congrArg Prod.snd q;rw[<- q1,<- q2];refine⟨by rcases z with z|⟨z,_⟩<;>omega,λw=>?_⟩;rcases z with z|⟨_,z⟩
   .omega
   .exact z
  .intro z;have z:=(z _ mem).2 rfl;dsimp only at z;by_cases c:r<a
   .exact .inl c
   .exact .inr ⟨by omega,z.2 (by omega)⟩
theorem MN (ns:List D){l:Nat}{E:Fs}(O:Ok ns.length E l)(G:mT ns.length (iJ ns.length E)):∀ r h:Nat,h<ns.length->mK ns.length (tF ns) E r h=pI ns (iJ ns.length E) r h
 | 0,h,hh=>by
  unfold pI;rw[Ge ((GD G h _).mpr λf hf _=>by have:=G.ab f hf;omega)];rfl
 | r+1,h,hh=>by
  have ec:((r:Int)+1)=((r+1:Nat):Int):=by omega
  unfold pI;rw[CB hh];show(if ml E h ((r:Int)+1)=true then j3 [.int (h:Int),.tuple ((je ns.length).map λb=>if (b==h||mw E b h ((r:Int)+1))=true then mK ns.length (tF ns) E r b else uc)] else uc)=_;rw[ec];cases u:ml E h ((r+1:Nat):Int) with
  | false=>rw[Gf (by decide),Gf (by decide)]
  | true =>
   rw[Ge rfl,Ge rfl];refine congrArg (λl=>j3 [.int (h:Int),.tuple l]) (jR λb hb=>?_);have hb:=jk.mp hb;have uh:=(CB (E:=E) hh ((r+1:Nat):Int)).trans u;rw[Wm O G hb hh u,MN ns O G r b hb];by_cases c:b=h\/cm (iJ ns.length E) b h ((r+1:Nat):Int)=true
   .rw[Ge (by rw[kB,beq_iff_eq];exact c),Ge c];unfold pI;refine Ge ?_;rcases c with rfl|c
    .exact Ms (by omega) uh
    .exact RM G c
   .rw[Gf (by rw[kB,beq_iff_eq];exact c),Gf c]
theorem zDJ (ns:List D){l:Nat}{E:Fs}(O:Ok ns.length E l)(G:mT ns.length (iJ ns.length E))(r:Nat):rT ns E r=vL ns (iJ ns.length E) r:=by
 unfold rT vL;exact jR λh hh=>MN ns O G r h (jk.mp hh)
def tl (t:Bool)(m:Int):D:=if t then .int m else .none
section
variable (V:D)(R bd m w:Int)(hR:pf [V]=Ga (.int R))(hm:AY [V]=Ga (.int m))
include hm in
theorem Gq (t:Bool):we [.bool t,V]=Ga (tl t m):=by
 rw[znM];unfold Ma;generalize AY=A at hm;cases t<;>simp_arith[hm]<;>rfl
include hR in
include hR in
theorem FK:wa [V,.int bd]=Ga (.bool (decide (bd+1<=R))):=by
 rw[WU];unfold Mn;generalize pf=A at hR;simp_arith[hR]
include hR hm in
include hR hm in
theorem zBs:AV [V,.int bd]=Ga (tl (decide (bd+1<=R)) m):=by
 have h1:=FK V R bd hR;have h2:=Gq V m hm;rw[zv5];unfold Oo;generalize wa=A at h1;generalize we=B at h2;simp_arith[h1,h2]
include hR hm in
include hR hm in
theorem zDK (c:Bool)(hc:yh [V]=Ga (.bool c)):Bp [V,.int bd]=Ga (tl (decide (bd+1<=R)||c) m):=by
 have h1:=FK V R bd hR;have h2:=Gq V m hm;rw[zyM];unfold LR;generalize wa=A at h1;generalize we=B at h2;generalize yh=E at hc;cases hd:decide (bd+1<=R)<;>simp_arith[h1,h2,hc,hd,kX,uq]
include hR hm in
include hR hm in
theorem zDL (c:Bool)(hc:Ah [V]=Ga (.bool c)):BL [V,.int bd]=Ga (tl (decide (bd+1<=R)||c) m):=by
 have h1:=FK V R bd hR;have h2:=Gq V m hm;rw[zyN];unfold NS;generalize wa=A at h1;generalize we=B at h2;generalize Ah=E at hc;cases hd:decide (bd+1<=R)<;>simp_arith[h1,h2,hc,hd,kX,uq]
include hR hm in
end
section
variable (V:D)(R bd m w:Int)(hR:pf [V]=Ga (.int R))(hm:AY [V]=Ga (.int m))
include hR hm in
theorem zFL (hw:Az [V]=Ga (.int w)):BI [V,.int bd]=Ga (tl (decide (bd-w+1<=R)) m):=by
 have h1:=FK V R (bd-w) hR;have h2:=Gq V m hm;rw[zrG];unfold KS;generalize wa=A at h1;generalize we=B at h2;generalize Az=E at hw;simp_arith[h1,h2,hw]
end
theorem Sa (ns:List D)(fs:List Fl)(G:mT ns.length fs)(hi:∀ d∈ns,∃ i:Int,d=.int i)(r h:Nat)(hh:h<ns.length)(hr:r<50):yh [vw ns fs r h]=Ga (.bool (cn ns.length fs h r)):=by
 cases r with
 | zero =>
  have er:=yP ns fs hi 0 h hh (by omega);rw[zrE];generalize vw ns fs 0 h=V at er;unfold Pd;simp_arith[er,qy];rfl
 | succ r=>exact zAO ns fs G hi r h hh (by omega)
theorem zFM (ns:List D)(fs:List Fl)(G:mT ns.length fs)(hi:∀ d∈ns,∃ i:Int,d=.int i)(r h:Nat)(hr:r<=4)(hh:h<ns.length):Ah [vw ns fs r h]=Ga (.bool (wZ ns.length fs h r)):=by
 refine zFi _ _ _ ((je (r-1)).map λk=>jP (cn ns.length fs h (k+1))) _ (yP ns fs hi r h hh (by omega)) (Qu (by omega)) (by rw[jd,jD];omega) ?_ ?_
 .refine ze (λ(k:Nat)=>jc ((k+1:Nat):Int)) (λk=>jP (cn ns.length fs h (k+1))) λk hk=>?_;have hk:=jk.mp hk;exact zFj _ _ _ _ _ _ (Gz ns fs hi r (k+1) h hh (by omega) (by omega)) (Sa ns fs G hi (k+1) h hh (by omega))
 .have e:((je (r-1)).map λk=>jP (cn ns.length fs h (k+1)))=((je (r-1)).map λk=>cn ns.length fs h (k+1)).map jP:=by rw[jN];rfl
  rw[e];unfold Co;rw[ox,jv,JE,Ra];rfl
def oj (X:D):Prop:=X=.none\/∃ i:Int,X=.int i
theorem zDM (ns:List D)(fs:List Fl)(r h:Nat):mm (vw ns fs r h) .none=Ga (.bool true):=by
 obtain⟨ds,z⟩:=Zt ns fs r h;rw[z];rfl
noncomputable def on (Φ:Nat->D):Nat->Nat->D
 | _,0=>.none
 | a,m+1=>if Φ a=.none then on Φ (a+1) m else Φ a
def TN:D->D
 | .tuple [_,x]=>x
 | _=>.none
theorem PH (Φ:Nat->D):∀ (m a:Nat),TN (fr Φ a m)=on Φ a m
 | 0,a=>rfl
 | m+1,a=>by
  unfold fr on;by_cases c:Φ a=.none
  .rw[Ge c,Ge c];exact PH Φ m (a+1)
  .rw[Gf c,Gf c];rfl
theorem PX (Φ:Nat->D):∀ (m a:Nat),fr Φ a m=.none\/∃ x y,fr Φ a m=.tuple [x,y]
 | 0,a=>.inl rfl
 | m+1,a=>by
  unfold fr;by_cases c:Φ a=.none
  .rw[Ge c];exact PX Φ m (a+1)
  .rw[Gf c];exact .inr ⟨_,_,rfl⟩
theorem Rg (Φ:Nat->D):∀ (m a:Nat),(∀ k,a<=k->k<a+m->oj (Φ k))->oj (on Φ a m)
 | 0,a,_=>.inl rfl
 | m+1,a,h=>by
  unfold on;by_cases c:Φ a=.none
  .rw[Ge c];exact Rg Φ m (a+1) λk h1 h2=>h k (by omega) (by omega)
  .rw[Gf c];exact h a (jm _) (by omega)
theorem zFP (C:iz->(D->Option D)->List D->Option D)(c:iz)(φ:D->Option D)(v f:D)(h1:C c φ [v]=Ga f)(h2:f=.none\/∃ x y,f=.tuple [x,y]) :
  hJ ((gT (ly 2 (lF 0 c (C c φ) fC)) aM) [.fn c,.val v,.no])=Ga (TN f):=by
 rcases h2 with rfl|⟨x,y,rfl⟩
 .simp_arith[h1];rfl
 .simp_arith[h1];rfl
theorem zDN (ns:List D)(fs:List Fl)(hi:∀ d∈ns,∃ i:Int,d=.int i)(r h:Nat)(hh:h<ns.length)(hr:r<=4)(Φ:Nat->D)(c:iz)(φ:D->Option D)(hΦ:∀ k,k<=4->oj (Φ k)/\φ (vw ns fs k h)=Ga (Φ k)):AF c φ [vw ns fs r h]=Ga (on Φ 0 (r+1)):=by
 rw[zpX];unfold Qz;rw[zFP BE c φ _ _ (zzG ns fs hi r h hh (by omega) Φ (λk hk=>(hΦ k (by omega)).1) c φ λk hk=>(hΦ k (by omega)).2) (PX Φ _ _),PH]
theorem Ye (Nb:iz->(D->Option D)->List D->Option D)(Vo:List D->Option D)(Wo:List D->Option (List D))(c:iz)(φ:D->Option D)(Rn R W:D)(us Y:List D)(h1:Vo [Rn,R]=Ga W)(h2:Wo [Rn,R]=Ga us)(hl:us.length<=1000000)(q:lw (λ_=>Ga true) (ol (gX gy (gX (lF 1 c (Nb c φ) dy) lD))) [.fn c,.val W] us=Ga Y) :
  hJ ((gT (ly 3 (ig Vo ed)) (lL (nZ (iQ (oN (nZ (pL Wo ed))) (λ_=>Ga true) (ol (gX gy (gX (lF 1 c (Nb c φ) dy) lD))) [0,3])))) [.fn c,.val Rn,.val R,.no])=Ga (.list Y):=by
 have e:iQ (oN (nZ (pL Wo ed))) (λ_=>Ga true) (ol (gX gy (gX (lF 1 c (Nb c φ) dy) lD))) [0,3] [.fn c,.val Rn,.val R,.val W]=Ga Y:=by
  rw[oZ];have:oN (nZ (pL Wo ed)) [.fn c,.val Rn,.val R,.val W]=Ga us:=by simp_arith[h2]
  rw[this,jv,Ge hl];exact q
 simp_arith[h1,e]
theorem zFR (N:List D->Option D)(c:iz)(W v X:D)(h:Int)(h1:gZ W (.int h)=Ga v)(h2:N [v]=Ga X):(ol (gX gy (gX (lF 1 c N dy) lD))) [.val (.int h),.fn c,.val W]=Ga (.tuple [.int h,X]):=by
 simp_arith[h1,h2]
def rC (n:Nat)(fs:List Fl)(R:Nat):List Nat:=(je n).filter λh=>up fs h (R:Int)
theorem zwF (ns:List D)(fs:List Fl)(G:mT ns.length fs)(hi:∀ d∈ns,∃ i:Int,d=.int i)(R:Nat)(hR:R<=4)(Φ:Nat->Nat->D)(c:iz)(φ:D->Option D)(hΦ:∀ h k,h<ns.length->k<=4->oj (Φ h k)/\φ (vw ns fs k h)=Ga (Φ h k)) :
  nu c φ [rd ns fs,.int (R:Int)]=Ga (.list ((rC ns.length fs R).map λ(h:Nat)=>.tuple [.int (h:Int),on (Φ h) 0 (R+1)])):=by
 have n5:=G.n5;rw[Wj];unfold Rf;have ul:(rC ns.length fs R).length<=ns.length:=by
  have:=ku (λh=>up fs h (R:Int)) (je ns.length);rw[jD] at this;exact this
 refine Ye AF CD sJ c φ _ _ _ _ _ (Xd ns fs G R (by omega)) (Dl ns fs R n5) (by rw[jd];show(rC ns.length fs R).length<=_;omega) ?_;refine ze (λ(h:Nat)=>jc (h:Int)) (λ(h:Nat)=>.tuple [.int (h:Int),on (Φ h) 0 (R+1)]) (l:=rC ns.length fs R) λh hm=>?_;have hm:=jO.mp hm;have hh:=jk.mp hm.1;have e:pI ns fs R h=vw ns fs R h:=Ge hm.2;exact zFR (AF c φ) c _ _ _ h ((EO hh).trans (congrArg Ga e)) (zDN ns fs hi R h hh hR (Φ h) c φ λk hk=>hΦ h k hh hk)
theorem SZ (c:iz)(φ:D->Option D)(Rn R M row v X N:D)(h:Int)(ts:List D)(y7:Sl)(I:En->Prop)(q:(N=.none/\gZ row (.int h)=Ga v/\φ v=Ga X/\I [.fn c,.val Rn,.val R,.val M,.own ts,.val (.int h),.val X,.val row])\/(oB N .none=Ga (.bool false)/\I [.fn c,.val Rn,.val R,.val M,.own ts,.val (.int h),.val N,.val row])) :
  mh I ((gu row [.fn c,.val Rn,.val R,.val M,.own ts,.val (.int h),.val N,y7]).bind (iI eI (ly 6 (oQ 0 c φ eX)) iW)):=by
 rcases q with ⟨rfl,h1,h2,i⟩|⟨h1,i⟩
 .simp_arith[h1,h2];exact oF i
 .simp_arith[h1];exact oF i
theorem YN (Bd:FS)(c:iz)(Rn R M row p:D)(h:Int)(ts ms:List D)(y5 y6 y7:Sl)(I:En->Prop)(h1:gZ M R=Ga row)(h2:gZ row (.int h)=Ga p)(hs:toS M=Ga ms)(lt:ts.length<1000000)
  (q:(p=.none/\∀ y5,I [.fn c,.val Rn,.val R,.val M,.own ts,y5,y6,y7])\/(mm p .none=Ga (.bool true)/\∃ X,mh (λψ=>∃ y,ψ=[.fn c,.val Rn,.val R,.val M,.own ts,.val (.int h),.val X,y]) (iV gu Bd ms [.fn c,.val Rn,.val R,.val M,.own ts,.val (.int h),.val .none,y7])/\∀ y5 y6 y7,I [.fn c,.val Rn,.val R,.val M,.own (ts++[.tuple [.int h,X]]),y5,y6,y7])) :
  mh I ((gr (.int h) [.fn c,.val Rn,.val R,.val M,.own ts,y5,y6,y7]).bind (iI bj (gT (ly 6 gn) (gT (nL (oN gC) gu Bd) (oP 4 dm))) iW)):=by
 rcases q with ⟨rfl,i⟩|⟨h3,X,⟨e,e1,y,rfl⟩,i⟩
 .simp_arith[h1,h2];exact oF (i _)
 .simp_arith[h1,h2,h3,hs,e1];rw[Ge lt];exact oF (i _ _ _)
theorem Wb (Vs:List D->Option D)(Bd:FS)(c:iz)(Rn R M N0 X:D)(n:Int)(Ks:List D)(h1:Vs [Rn,R]=Ga M)(h2:gZ Rn (.int 0)=Ga N0)(h3:iU N0=Ga (.int n))(h4:la (.int n)=Ga Ks)(q:hJ (lT (iV gr Bd Ks [.fn c,.val Rn,.val R,.val M,.own [],.no,.no,.no]) gk)=Ga X) :
  hJ ((gT (ly 3 (ig Vs ed)) (gT gj (gT (nL bQ gr Bd) gk))) [.fn c,.val Rn,.val R,.no,.no,.no,.no,.no])=Ga X:=by
 simp_arith[h1,h2,h3,h4];exact q
theorem zFU {N:D}(t:oj N):N=.none\/oB N .none=Ga (.bool false):=by
 rcases t with z|⟨i,rfl⟩
 .exact .inl z
 .exact .inr rfl
theorem zFV {n:Nat}(h:n<1000000):la (.int (n:Int))=Ga ((je n).map λ(k:Nat)=>.int (k:Int)):=by rw[<- rP];exact tX h
theorem zDO (ns:List D)(E:Fs)(l:Nat)(O:Ok ns.length E l)(G:mT ns.length (iJ ns.length E))(R:Nat)(hR:R<=4)(Φ:Nat->Nat->D)(c:iz)(φ:D->Option D)(hΦ:∀ h k,h<ns.length->k<=4->oj (Φ h k)/\φ (vw ns (iJ ns.length E) k h)=Ga (Φ h k)) :
  yS c φ [rd ns (iJ ns.length E),.int (R:Int)]=Ga (.list ((rC ns.length (iJ ns.length E) R).map λ(h:Nat)=>.tuple [.int (h:Int),on (Φ h) 0 (R+1)])):=by
 have n5:=G.n5;rw[zrI];unfold Sn;have hv:yY [rd ns (iJ ns.length E),.int (R:Int)]=Ga (.list ((je (R+1)).map λr=>.list (vL ns (iJ ns.length E) r))):=by
  have:=zBj ns E R n5 (by omega);refine this.trans (congrArg (λx=>Ga (uO x)) (jR λr _=>?_));rw[zDJ ns O G r]
 generalize hfs:iJ ns.length E=fs at *;refine Wb yY _ c _ _ _ (.tuple ns) _ ns.length ((je ns.length).map λ(k:Nat)=>.int (k:Int)) hv rfl rfl (zFV (by omega)) ?_;refine(congrArg hJ (BJ (f:=λ(k:Nat)=>(.int (k:Int):D)) (R:=Ga (.ro ((rC ns.length fs R).map λ(h:Nat)=>.tuple [.int (h:Int),on (Φ h) 0 (R+1)]))) ns.length (λk ψ=>∃ y5 y6 y7,ψ=[.fn c,.val (rd ns fs),.val (.int (R:Int)),.val (.list ((je (R+1)).map λr=>.list (vL ns fs r))),.own ((rC k fs R).map λ(h:Nat)=>.tuple [.int (h:Int),on (Φ h) 0 (R+1)]),y5,y6,y7]) ⟨_,_,_,rfl⟩ ?_ ?_)).trans rfl
 .rintro k hk _ ⟨y5,y6,y7,rfl⟩;have row:∀ r,r<=R->gZ (.list ((je (R+1)).map λr=>.list (vL ns fs r))) (.int (r:Int))=Ga (.list (vL ns fs r)):=λr hr=>L2.atI_nat (by rw[jC,kN (by omega)];rfl);have ul:(rC k fs R).length<=k:=by
   have:=ku (λh=>up fs h (R:Int)) (je k);rw[jD] at this;exact this
  refine YN _ c _ _ _ _ _ k _ _ y5 y6 y7 _ (row R (jm _)) (EO hk) rfl (by rw[jd];omega) ?_;cases u:up fs k (R:Int) with
  | false =>
   have e:rC (k+1) fs R=rC k fs R:=by
    unfold rC;rw[kh,kA,kG (p:=λh=>up fs h (R:Int)) (by rw[u];decide),JX,km]
   exact .inl ⟨by unfold pI;rw[u,Gf (by decide)],λy5=>⟨y5,y6,y7,by rw[e]⟩⟩
  | true =>
   have e:rC (k+1) fs R=rC k fs R++[k]:=by
    unfold rC;rw[kh,kA,ky (p:=λh=>up fs h (R:Int)) u,JX]
   refine .inr ⟨by unfold pI;rw[u,Ge rfl];exact zDM ns fs R k,on (Φ k) 0 (R+1),?_,λy5 y6 y7=>⟨_,_,_,by rw[e,j0];rfl⟩⟩;have st:=FD (t:=md 7) (g:=iI eI (ly 6 (oQ 0 c φ eX)) iW) (f:=λr=>(.list (vL ns fs r):D)) (λj ψ=>∃ N y,ψ=[.fn c,.val (rd ns fs),.val (.int (R:Int)),.val (.list ((je (R+1)).map λr=>.list (vL ns fs r))),.own ((rC k fs R).map λ(h:Nat)=>.tuple [.int (h:Int),on (Φ h) 0 (R+1)]),.val (.int (k:Int)),.val N,y]/\oj N/\((N=.none/\on (Φ k) 0 (R+1)=on (Φ k) j (R+1-j))\/(N≠.none/\on (Φ k) 0 (R+1)=N))) (R+1) ?_ (R+1) 0 _ (v7 _) ⟨.none,y7,rfl,.inl rfl,.inl ⟨rfl,rfl⟩⟩
   .obtain⟨e2,e3,N,y,rfl,_,q⟩:=st;rw[<- uF] at e3;refine⟨_,e3,y,?_⟩;have:on (Φ k) 0 (R+1)=N:=by
     rcases q with ⟨rfl,q⟩|⟨_,q⟩
     .rw[q,v9];rfl
     .exact q
    rw[this]
   .rintro j hj _ ⟨N,y,rfl,t,q⟩;have ej:pI ns fs j k=vw ns fs j k:=Ge (Ms (by omega) u);obtain⟨t2,h2⟩:=hΦ k j hk (by omega);rcases q with ⟨rfl,q⟩|⟨q1,q⟩
    .refine SZ c φ _ _ _ _ _ _ .none k _ y _ (.inl ⟨rfl,(EO hk).trans (congrArg Ga ej),h2,_,_,rfl,t2,?_⟩);have e9:R+1-j=(R+1-(j+1))+1:=by omega
     rw[e9] at q;unfold on at q;by_cases z:Φ k j=.none
     .rw[Ge z] at q;exact .inl ⟨z,q⟩
     .rw[Gf z] at q;exact .inr ⟨z,q⟩
    .refine SZ c φ _ _ _ _ .none .none N k _ y _ (.inr ⟨?_,_,_,rfl,t,.inr ⟨q1,q⟩⟩);rcases zFU t with z|z
     .exact absurd z q1
     .exact z
 .rintro _ ⟨y5,y6,y7,rfl⟩;rfl
theorem Sv {Φ Ψ:Nat->D}:∀ (m a:Nat),(∀ j,j<a+m->Φ j=Ψ j)->on Φ a m=on Ψ a m
 | 0,_,_=>rfl
 | m+1,a,h=>by
  unfold on;rw[h a (by omega),Sv m (a+1) λj hj=>h j (by omega)]
def Ru (n:Nat)(φ:D->Option D)(Φ:D->D):Prop:=(∀ d,oj (Φ d))/\∀ (v:Nat->Int) (E:Fs),Ok n E 5->∀ h k,h<n->k<=4->φ (vw (iG n v) (iJ n E) k h)=Ga (Φ (vw (iG n v) (iJ n E) k h))
noncomputable def num (n k:Nat)(Φ:D->D)(r:Rn)(h:Nat):D:=on (λj=>Φ (vw (iG n r.1) (iJ n r.2) j h)) 0 (k+1)
noncomputable def sr (f:Nat->D)(us:List Nat):List D:=us.map λ(h:Nat)=>j3 [.int (h:Int),f h]
abbrev lS (n k:Nat)(r:Rn):List Nat:=rC n (iJ n r.2) k
theorem EB (n:Nat)(v:Nat->Int):∀ d∈iG n v,∃ i:Int,d=.int i:=λd hd=>by
 obtain⟨i,_,rfl⟩:=jz.mp hd;exact⟨_,rfl⟩
theorem Ry (n:Nat)(r:Rn):lx n r=rd (iG n r.1) (iJ n r.2):=by unfold lx mQ;rw[mi]
theorem Tn {n k:Nat}(h2:2<=n)(h5:n<=5)(k4:k<=4){φ:D->Option D}{Φ:D->D}(U:Ru n φ Φ)(c:iz){r:Rn}(o:Ok n r.2 5):nu c φ [lx n r,.int (k:Int)]=Ga (.list (sr (num n k Φ r) (lS n k r))):=by
 have G:=CC h2 h5 (by decide) o;have:=zwF (iG n r.1) (iJ n r.2) (by rw[mi];exact G) (EB n r.1) k k4 (λh j=>Φ (vw (iG n r.1) (iJ n r.2) j h)) c φ (λh j hh hj=>⟨U.1 _,U.2 r.1 r.2 o h j (by rw[mi] at hh;exact hh) hj⟩);rw[mi] at this;rw[Ry];exact this
theorem zFW {n k:Nat}(h2:2<=n)(h5:n<=5)(k4:k<=4){φ:D->Option D}{Φ:D->D}(U:Ru n φ Φ)(c:iz){r:Rn}(o:Ok n r.2 5):yS c φ [lx n r,.int (k:Int)]=Ga (.list (sr (num n k Φ r) (lS n k r))):=by
 have G:=CC h2 h5 (by decide) o;have:=zDO (iG n r.1) r.2 5 (by rw[mi];exact o) (by rw[mi];exact G) k k4 (λh j=>Φ (vw (iG n r.1) (iJ n r.2) j h)) c φ (λh j hh hj=>by rw[mi] at hh ⊢;exact⟨U.1 _,U.2 r.1 r.2 o h j hh hj⟩);rw[mi] at this;rw[Ry];exact this
theorem EA {n k:Nat}(k4:k<=4){φ:D->Option D}{Φ:D->D}(U:Ru n φ Φ)(r:Rn){h:Nat}(hh:h<n):oj (num n k Φ r h):=Rg _ _ _ λj _ hj=>U.1 _
theorem EZ {n k:Nat}{r:Rn}{h:Nat}(hh:h∈lS n k r):h<n:=jk.mp (jO.mp hh).1
theorem CH {n k i:Nat}{r:Rn}(hi:i<n)(e:r.2 i=Gb):i∈lS n k r:=jO.mpr ⟨jk.mpr hi,(CB hi _).trans (KR e _)⟩
theorem Sr (n k:Nat)(r:Rn):(lS n k r).Pairwise (·<·):=List.Pairwise.filter _ qM
theorem Fb (n k:Nat)(r:Rn):(lS n k r).length<=n:=by
 have:=ku (λh=>up (iJ n r.2) h (k:Int)) (je n);rw[jD] at this;exact this
theorem zBu {n k i:Nat}(h2:2<=n)(h5:n<=5){Φ:D->D}{r1 r2:Rn}(o1:Ok n r1.2 5)(o2:Ok n r2.2 5)(hi:i<n)(k4:k<=4)(e1:r1.2 i=Gb)(e2:r2.2 i=Gb)(e:zl n r1 k i=zl n r2 k i):num n k Φ r1 i=num n k Φ r2 i:=by
 have V:∀ (r:Rn),Ok n r.2 5->r.2 i=Gb->zl n r k i=vw (iG n r.1) (iJ n r.2) k i:=λr o er=>by
  have G:=CC h2 h5 (by decide) o;have:=MN (iG n r.1) (E:=r.2) (l:=5) (by rw[mi];exact o) (by rw[mi];exact G) k i (by rw[mi];exact hi);rw[mi] at this;unfold zl;rw[<- Tg (ns:=tF (iG n r.1)) zFD k i hi,this];unfold pI;exact Ge ((CB hi _).trans (KR er _))
 have ek:vw (iG n r1.1) (iJ n r1.2) k i=vw (iG n r2.1) (iJ n r2.2) k i:=by rw[<- V r1 o1 e1,<- V r2 o2 e2];exact e
 refine Sv _ _ λj hj=>congrArg Φ ?_;have p1:=Gz (iG n r1.1) (iJ n r1.2) (EB n r1.1) k j i (by rw[mi];exact hi) (by omega) (by omega);have p2:=Gz (iG n r2.1) (iJ n r2.2) (EB n r2.1) k j i (by rw[mi];exact hi) (by omega) (by omega);rw[ek] at p1;exact jJ (p1.symm.trans p2)
noncomputable def bq (X Y:D):Bool:=@decide (X=Y) (uf _)
theorem tE {X Y:D}:bq X Y=true↔X=Y:=by unfold bq;exact @decide_eq_true_iff _ (uf _)
theorem oK {X Y:D}:bq X Y=false↔X≠Y:=by rw[ne_eq,<- tE,ka]
theorem zFX {X Y:D}(hX:oj X)(hY:oj Y):lj X Y=Ga (.bool (bq X Y)):=by
 rcases hX with rfl|⟨i,rfl⟩<;>rcases hY with rfl|⟨j,rfl⟩
 .rw[tE.mpr rfl];rfl
 .rw[oK.mpr (λz=>by cases z)];rfl
 .rw[oK.mpr (λz=>by cases z)];rfl
 .rw[tK];by_cases c:i=j
  .rw[tE.mpr (by rw[c]),c,beq_self_eq_true]
  .rw[oK.mpr (λz=>c (by injection z)),beq_eq_false_iff_ne.mpr c]
theorem FN {X Y:D}(hX:oj X)(hY:oj Y):lR X Y=Ga (.bool (!bq X Y)):=by
 rcases hX with rfl|⟨i,rfl⟩<;>rcases hY with rfl|⟨j,rfl⟩
 .rw[tE.mpr rfl];rfl
 .rw[oK.mpr (λz=>by cases z)];rfl
 .rw[oK.mpr (λz=>by cases z)];rfl
 .rw[NZ];by_cases c:i=j
  .rw[tE.mpr (by rw[c]),c,beq_self_eq_true]
  .rw[oK.mpr (λz=>c (by injection z)),beq_eq_false_iff_ne.mpr c]
theorem Qf {X:D}(hX:oj X):mm X .none=Ga (.bool (!bq X .none)):=by
 rcases hX with rfl|⟨i,rfl⟩
 .rw[tE.mpr rfl];rfl
 .rw[oK.mpr (λz=>by cases z)];rfl
theorem Ww (T:List D)(X:D)(bs:List Bool)(hl:T.length<=1000000)(hc:lw (λ_=>Ga true) bZ [.val X] T=Ga (bs.map jP)):oM [.list T,X]=Ga (.bool (bs.all id)):=by
 have ha:su (bs.map jP)=Ga (.bool (bs.all id)):=by
  unfold su;rw[ox,jv]
 rw[zrF];unfold Mi;simp_arith[Pi,oZ,Ge hl,hc,ha]
theorem zGH (h X Y:D)(b:Bool)(he:lj X Y=Ga (.bool b)):bZ [.val (.tuple [h,X]),.val Y]=Ga (.bool b):=by
 have i:gZ (.tuple [h,X]) (.int 1)=Ga X:=rfl;generalize j3 [h,X]=p at *;simp_arith[i,he]
theorem Ih (f:Nat->D)(us:List Nat):(sr f us).length=us.length:=jd _
theorem QG (f:Nat->D)(us:List Nat)(ul:us.length<=5)(t:∀ h∈us,oj (f h))(X:D)(hX:oj X):oM [.list (sr f us),X]=Ga (.bool (us.all λh=>bq (f h) X)):=by
 have:=Ww (sr f us) X (us.map λh=>bq (f h) X) (by rw[Ih];omega) (by
  unfold sr;rw[jN];exact ze (λ(h:Nat)=>j3 [.int (h:Int),f h]) _ λh hh=>zGH _ _ _ _ (zFX (t h hh) hX))
 rw[this,JK];rfl
theorem zFY (R p0 h0 X0 u:D)(T us:List D)(hl:T.length<=1000000)(i0:gZ (.list T) (.int 0)=Ga p0)(i1:gZ p0 (.int 1)=Ga X0)(i2:gZ p0 (.int 0)=Ga h0)
  (hc:lw aB dB [.val (.list T)] T=Ga us) (hu:gZ (.list us) (.int 0)=Ga u):sT [R,.list T]=Ga (.tuple [.str gq,R,h0,u]):=by
 have t:toS (.list T)=Ga T:=rfl;rw[zsO];unfold NW;generalize qN gq=q at *;generalize uO T=TT at *;simp_arith[t,oZ,Ge hl,hc,i0,i1,i2,hu]
theorem zFZ (T p0 X0 h X:D)(b:Bool)(i0:gZ T (.int 0)=Ga p0)(i1:gZ p0 (.int 1)=Ga X0)(hn:lR X X0=Ga (.bool b)):aB [.val (.tuple [h,X]),.val T]=Ga b:=by
 have i:gZ (.tuple [h,X]) (.int 1)=Ga X:=rfl;generalize j3 [h,X]=p at *;simp_arith[i,i0,i1,hn]
theorem Qg (T h X:D):dB [.val (.tuple [h,X]),.val T]=Ga h:=by
 have i:gZ (.tuple [h,X]) (.int 0)=Ga h:=rfl;generalize j3 [h,X]=p at *;simp_arith[i]
theorem Cg (d:D)(r:List D):gZ (.list (d::r)) (.int 0)=Ga d:=by
 show L2.atI (d::r) ((0:Nat):Int)=_;exact L2.atI_nat rfl
theorem zDP (f:Nat->D)(h0:Nat)(r:List Nat)(ul:(h0::r).length<=5)(t:∀ h∈h0::r,oj (f h))(asc:(h0::r).Pairwise (·<·))(R:D)(x:Nat)(hx:x∈h0::r)(ne:f x≠f h0):∃ u,u∈h0::r/\h0<u/\f h0≠f u/\sT [R,.list (sr f (h0::r))]=Ga (.tuple [.str gq,R,.int (h0:Int),.int (u:Int)]):=by
 have i0:gZ (.list (sr f (h0::r))) (.int 0)=Ga (.tuple [.int (h0:Int),f h0]):=Cg _ _;have hc:=Bc (fc:=lI lR dC bC) (fe:=gW gZ gy fU) (base:=[.val (.list (sr f (h0::r)))]) (λ(h:Nat)=>j3 [.int (h:Int),f h]) (λh=>!bq (f h) (f h0)) (λ(h:Nat)=>jc (h:Int)) (l:=h0::r)
  (λh hh=>zFZ _ _ _ _ _ _ i0 rfl (FN (t h hh) (t h0 jh))) (λh hh _=>Qg _ _ _)
 obtain⟨u,w,eu⟩:∃ u w,((h0::r).filter λh=>!bq (f h) (f h0))=u::w:=by
  cases q:(h0::r).filter λh=>!bq (f h) (f h0) with
  | cons u w=>exact⟨u,w,rfl⟩
  | nil=>exact absurd (by rw[oK.mpr ne];rfl) (uW.mp q x hx)
 have um:u∈(h0::r).filter λh=>!bq (f h) (f h0):=by rw[eu];exact jh
 obtain⟨u1,u2⟩:=jO.mp um;have un:f u≠f h0:=oK.mp (by rw[kF] at u2;exact u2);rw[eu] at hc;refine⟨u,u1,?_,λz=>un z.symm,zFY R _ _ _ _ _ _ (by rw[Ih];omega) i0 rfl rfl hc (Cg _ _)⟩;rcases jw.mp u1 with rfl|z
 .exact absurd rfl un
 .exact(Jv.mp asc).1 u z
theorem VC (T us:List D)(X:D)(hl:T.length<=1000000)(hc:lw ay dB [.val X] T=Ga us):yT [.list T,X]=Ga (.list us):=by
 have t:toS (.list T)=Ga T:=rfl;rw[YW];unfold Mq;generalize uO T=TT at *;simp_arith[t,oZ,Ge hl,hc]
theorem zGJ (h X Y:D)(a b:Bool)(hi:mm X .none=Ga (.bool a))(hn:lR X Y=Ga (.bool b)):ay [.val (.tuple [h,X]),.val Y]=Ga (a&&b):=by
 have i:gZ (.tuple [h,X]) (.int 1)=Ga X:=rfl;generalize j3 [h,X]=p at *;cases a with
 | true=>simp_arith[i,hi,hn,vV]
 | false=>simp_arith[i,hi,qc]
theorem Zo (f:Nat->D)(us:List Nat)(ul:us.length<=5)(t:∀ h∈us,oj (f h))(X:D)(hX:oj X):yT [.list (sr f us),X]=Ga (.list ((us.filter λh=>!bq (f h) .none&&!bq (f h) X).map λ(h:Nat)=>jc (h:Int))) :=
 VC _ _ _ (by rw[Ih];omega) (Bc (λ(h:Nat)=>j3 [.int (h:Int),f h]) (λh=>!bq (f h) .none&&!bq (f h) X) (λ(h:Nat)=>jc (h:Int)) (l:=us) (λh hh=>zGJ _ _ _ _ _ (Qf (t h hh)) (FN (t h hh) hX)) (λh hh _=>Qg _ _ _))
theorem RX {c:FB}{g:FS}{n:Nat}{ψ e:En}(hc:c (frz ψ)=Ga true)(hg:g ψ=Ga (.nx e)):mI c g (n+1) ψ=mI c g n e:=by
 show(c (frz ψ)).bind _=_;rw[hc];show(g ψ).bind _=_;rw[hg];rfl
theorem Xh {c:FB}{g:FS}{n:Nat}{ψ:En}(hc:c (frz ψ)=Ga false):mI c g (n+1) ψ=Ga (.nx ψ):=by
 show(c (frz ψ)).bind _=_;rw[hc];rfl
theorem wR (c:iz)(f:List D->Option D)(g:FL)(e:En):lF 0 c f g (.fn c::e)=(g (.fn c::e)).bind f:=Ge rfl
theorem NC (c:iz)(C m k:D)(lo hi:Int)(x6:Sl):lI pM (gW lP gD gB) fV (frz [.fn c,.val C,.val m,.val k,.val (.int lo),.val (.int hi),x6])=Ga (decide (1<hi-lo)):=by
 have f:frz [.fn c,.val C,.val m,.val k,.val (.int lo),.val (.int hi),x6]=[pq (.fn c),.val C,.val m,.val k,.val (.int lo),.val (.int hi),pq x6]:=rfl;rw[f];generalize pq (.fn c)=y;generalize pq x6=z;simp_arith[vt]
theorem UA (c:iz)(φ:D->Option D)(C m k Rm T:D)(lo hi mid:Int)(b:Bool)(x6:Sl)(d2:nw (.int (lo+hi)) (.int 2)=Ga (.int mid))(ix:gZ C (.int mid)=Ga Rm)(ht:nu c φ [Rm,k]=Ga T)(ha:oM [T,m]=Ga (.bool b)) :
  (gT bB (iI (lE (ig oM (gX (lF 0 c (nu c φ) cw) fF))) gf gi)) [.fn c,.val C,.val m,.val k,.val (.int lo),.val (.int hi),x6]=Ga (.nx [.fn c,.val C,.val m,.val k,.val (.int (if b=true then mid else lo)),.val (.int (if b=true then hi else mid)),.val (.int mid)]):=by
 have f:∀ e:En,frz (.fn c::e)=.fn c::frz e:=λ_=>rfl;generalize nu c φ=A1 at *;generalize oM=A2 at *;cases b with
 | true =>
  simp_arith[d2,f,wR,ix,ht,ha]
 | false =>
  simp_arith[d2,f,wR,ix,ht,ha]
theorem Lj (c:iz)(φ:D->Option D)(C m k:D)(L:Nat)(P:Nat->Bool)(hP:∀ i,i<L->∃ R T,gZ C (.int (i:Int))=Ga R/\nu c φ [R,k]=Ga T/\oM [T,m]=Ga (.bool (P i))):∀ (f lo hi:Nat) (x6:Sl),hi-lo<=2^f->lo<hi->hi<L->P lo=true->P hi=false ->
  ∃ lo' x',lo'+1<L/\P lo'=true/\P (lo'+1)=false/\mI cb (gT bB (iI (lE (ig oM (gX (lF 0 c (nu c φ) cw) fF))) gf gi)) (f+1) [.fn c,.val C,.val m,.val k,.val (.int (lo:Int)),.val (.int (hi:Int)),x6]=Ga (.nx [.fn c,.val C,.val m,.val k,.val (.int (lo':Int)),.val (.int ((lo'+1:Nat):Int)),x'])
 | f,lo,hi,x6,hf,h1,h2,p1,p2=>by
  by_cases c1:hi=lo+1
  .subst c1;exact⟨lo,x6,h2,p1,p2,Xh ((NC c C m k _ _ x6).trans (congrArg Ga (Gd (by omega))))⟩
  .match f,hf with
   | 0,hf=>exact absurd hf (by rw[Nat.pow_zero];omega)
   | f+1,hf =>
    rw[Nat.pow_succ] at hf;obtain⟨R,T,e1,e2,e3⟩:=hP ((lo+hi)/2) (by omega);have st:=UA c φ C m k R T lo hi (((lo+hi)/2:Nat):Int) _ x6 ((AU (by decide) (by decide)).trans (congrArg (λz=>Ga (jc z)) (by omega))) e1 e2 e3;have cc:=(NC c C m k (lo:Int) (hi:Int) x6).trans (congrArg Ga (Gc (by omega)));cases q:P ((lo+hi)/2) with
    | true =>
     rw[q,Ge rfl,Ge rfl] at st;obtain⟨lo',x',a1,a2,a3,a4⟩:=Lj c φ C m k L P hP f ((lo+hi)/2) hi (.val (.int (((lo+hi)/2:Nat):Int))) (by omega) (by omega) h2 q p2;exact⟨lo',x',a1,a2,a3,(RX cc st).trans a4⟩
    | false =>
     rw[q,Gf jr,Gf jr] at st;obtain⟨lo',x',a1,a2,a3,a4⟩:=Lj c φ C m k L P hP f lo ((lo+hi)/2) (.val (.int (((lo+hi)/2:Nat):Int))) (by omega) (by omega) (by omega) p1 q;exact⟨lo',x',a1,a2,a3,(RX cc st).trans a4⟩
theorem Wh (c:iz)(φ:D->Option D)(C m k R T Z:D)(l lo hi:Int)(x6:Sl)(hl:iU C=Ga (.int l))(hw:mI cb (gT bB (iI (lE (ig oM (gX (lF 0 c (nu c φ) cw) fF))) gf gi)) 100 [.fn c,.val C,.val m,.val k,.val (.int 0),.val (.int (l-1)),.no]=Ga (.nx [.fn c,.val C,.val m,.val k,.val (.int lo),.val (.int hi),x6]))(ix:gZ C (.int hi)=Ga R)(ht:nu c φ [R,k]=Ga T)(hz:sT [R,T]=Ga Z):An c φ [C,m,k]=Ga Z:=by
 rw[YB];unfold TF;generalize (gT bB (iI (lE (ig oM (gX (lF 0 c (nu c φ) cw) fF))) gf gi))=B at *;generalize nu c φ=A1 at *;generalize sT=A2 at *;simp_arith[hl,hw,wR,ix,ht,hz]
theorem Qc {α:Type}{R:α->α->Prop}:∀ {l:List α} {i:Nat} {a b:α},rf R l->l[i]?=Ga a->l[i+1]?=Ga b->R a b
 | [],i,a,b,_,h,_=>by cases h
 | [x],0,a,b,_,_,h=>by cases h
 | [x],i+1,a,b,_,h,_=>by cases h
 | x::y::r,0,a,b,c,h1,h2=>by
  cases h1;cases h2;exact c.1
 | x::y::r,i+1,a,b,c,h1,h2=>Qc (l:=y::r) (i:=i) c.2 h1 h2
theorem Oy (n:Nat)(v:Nat->Int)(E:Fs):pk [lx n (v,E)]=Ga (.int (n:Int)):=by
 have:=DA (iG n v) (iJ (iG n v).length E);rw[mi] at this;unfold lx mQ;rw[mi];exact this
theorem zGM (c:iz)(φ:D->Option D)(R b k C Rl T Z:D)(m o n l:Int)(Ks os hl_:List D)(ho:(m=0/\o=1)\/(¬m=0/\o=0))(hm:pk [R]=Ga (.int n))(hr:la (.int n)=Ga Ks)(hl:Ks.length<=1000000)(hc:lw (λ_=>Ga true) gz [.val (.int o)] Ks=Ga os)(hch:yX [R,b,k,.tuple os]=Ga C)
  (ix:gZ C (.int (-1))=Ga Rl) (ht:nu c φ [Rl,k]=Ga T) (hs:yT [T,.int o]=Ga (.list hl_)) (sl:iU (.list hl_)=Ga (.int l)) (hz:(¬0<l/\An c φ [C,.int m,k]=Ga Z)\/(0<l/\∃ h,gZ (.list hl_) (.int 0)=Ga h/\Z=.tuple [.str ge,Rl,h])):zu c φ [R,b,k,.int m]=Ga Z:=by
 rw[Xo];unfold SE;generalize pk=A1 at *;generalize yX=A2 at *;generalize nu c φ=A3 at *;generalize yT=A4 at *;generalize An c φ=A5 at *;generalize uO hl_=HS at *;have f:∀ e:En,frz (.fn c::e)=.fn c::frz e:=λ_=>rfl;rcases hz with ⟨z,hz⟩|⟨z,h,i0,rfl⟩
 .rcases ho with ⟨h,rfl⟩|⟨h,rfl⟩
  .simp_arith[Gc h,hm,hr,oZ,Ge hl,hc,hch,ix,wR,ht,hs,sl,Gd z,f,hz]
  .simp_arith[Gd h,hm,hr,oZ,Ge hl,hc,hch,ix,wR,ht,hs,sl,Gd z,f,hz]
 .rcases ho with ⟨h,rfl⟩|⟨h,rfl⟩
  .simp_arith[Gc h,hm,hr,oZ,Ge hl,hc,hch,ix,wR,ht,hs,sl,Gc z,f,i0]
  .simp_arith[Gd h,hm,hr,oZ,Ge hl,hc,hch,ix,wR,ht,hs,sl,Gc z,f,i0]
abbrev tq (x:Int):Prop:=¬(10:Int)^60<=(if x<0 then -x else x)
def Dm (n k b:Nat)(Φ:D->D)(Z:D):Prop:=∃ r:Rn,Ok n r.2 5/\lu n r.2<=b/\(∀ i,i<n->tq (r.1 i)) /\
 ((∃ h u,h∈lS n k r/\u∈lS n k r/\h<u/\num n k Φ r h≠num n k Φ r u/\Z=.tuple [.str gq,lx n r,.int (h:Int),.int (u:Int)]) \/
   (∃ h x,h∈lS n k r/\(∀ i,i<n->r.1 i=x)/\num n k Φ r h≠.none/\num n k Φ r h≠.int x/\Z=.tuple [.str ge,lx n r,.int (h:Int)]))
theorem RH {n k b:Nat}(h5:n<=5)(k4:k<=4){φ:D->Option D}{Φ:D->D}(U:Ru n φ Φ){r:Rn}(o:Ok n r.2 5)(ct:lu n r.2<=b)(nb:∀ i,i<n->tq (r.1 i)){x y:Nat}(hx:x∈lS n k r)(hy:y∈lS n k r)(ne:num n k Φ r x≠num n k Φ r y):∃ Z,Dm n k b Φ Z/\sT [lx n r,.list (sr (num n k Φ r) (lS n k r))]=Ga Z:=by
 have t:∀ h∈lS n k r,oj (num n k Φ r h):=λh hh=>EA k4 U r (EZ hh);have ul:=Fb n k r;have asc:=Sr n k r;obtain⟨h0,w,e⟩:∃ h0 w,lS n k r=h0::w:=by
  cases q:lS n k r with
  | nil=>rw[q] at hx;cases hx
  | cons a w=>exact⟨a,w,rfl⟩
 have hm:h0∈lS n k r:=by rw[e];exact jh
 obtain⟨z,hz,zn⟩:∃ z∈lS n k r,num n k Φ r z≠num n k Φ r h0:=by
  by_cases c:num n k Φ r x=num n k Φ r h0
  .exact⟨y,hy,λq=>ne (c.trans q.symm)⟩
  .exact⟨x,hx,c⟩
 rw[e] at t ul asc hz;obtain⟨u,u1,u2,u3,u4⟩:=zDP (num n k Φ r) h0 w (by omega) t asc (lx n r) z hz zn;refine⟨_,⟨r,o,ct,nb,.inl ⟨h0,u,hm,?_,u2,u3,rfl⟩⟩,?_⟩
 .rw[e];exact u1
 .rw[e];exact u4
theorem XB (n k b:Nat)(v:Nat->Int)(h2:2<=n)(h5:n<=5)(k1:k<=2)(ht:b+2<=n)(hk:k<=b)(nb:∀ i,i<n->tq (v i))(c:iz)(φ:D->Option D)(Φ:D->D)(U:Ru n φ Φ)(m:Int)(al:∀ h∈lS n k (v,iw),num n k Φ (v,iw) h=.int m):∃ Z,Dm n k b Φ Z/\zu c φ [lx n (v,iw),.int (b:Int),.int (k:Int),.int m]=Ga Z:=by
 obtain⟨x,hx,x01⟩:∃ x:Int,((m=0/\x=1)\/(¬m=0/\x=0))/\¬(10:Int)^60<=(if x<0 then -x else x):=by
  by_cases c0:m=0
  .exact⟨1,.inl ⟨c0,rfl⟩,by decide⟩
  .exact⟨0,.inr ⟨c0,rfl⟩,by decide⟩
 have xm:x≠m:=by rcases hx with ⟨a,b⟩|⟨a,b⟩<;>omega
 obtain⟨Ps,w,hw,hc,PT,pl⟩:=GW n k b v (λ_=>x) h2 h5 k1 ht hk (λ_ _=>x01);have hd:=PT.hd;have lst:=PT.lst;have L0:0<Ps.length:=by
  cases Ps with
  | nil=>cases hd
  | cons a r=>exact Nat.succ_pos _
 have nbP:∀ r∈Ps,∀ i,i<n->tq (r.1 i):=λr hr i hi=>by
  rcases PT.num r hr i with z|z
  .rw[z];exact nb i hi
  .rw[z];show tq (w i);rw[hw i hi];exact x01
 have g0:Ps[0]?=Ga (v,iw):=by rw[<- List.head?_eq_getElem?];exact hd
 have gl:Ps[Ps.length-1]?=Ga (w,iw):=by rw[<- List.getLast?_eq_getElem?];exact lst
 have lm:(w,iw)∈Ps:=j7 gl;have at_:∀ i,i<Ps.length->∃ r,Ps[i]?=Ga r/\r∈Ps:=λi hi=>⟨Ps[i],ji hi,k9 hi⟩;have iC:∀ (i:Nat) (r:Rn),Ps[i]?=Ga r->gZ (.list (Ps.map (lx n))) (.int (i:Int))=Ga (lx n r):=λi r e=>L2.atI_nat (by rw[jC,e];rfl);have tO:∀ r∈Ps,nu c φ [lx n r,.int (k:Int)]=Ga (.list (sr (num n k Φ r) (lS n k r))):=λr hr=>Tn h2 h5 (by omega) U c (PT.ok r hr);have tT:∀ (r:Rn),∀ h∈lS n k r,oj (num n k Φ r h):=λr h hh=>EA (by omega) U r (EZ hh);have uL:∀ r:Rn,(lS n k r).length<=5:=λr=>jF (Fb n k r) h5;have sx:=Zo (num n k Φ (w,iw)) (lS n k (w,iw)) (uL _) (tT _) (.int x) (.inr ⟨x,rfl⟩);have BF:=λZ hs l a1 a2 a3=>zGM c φ (lx n (v,iw)) (.int (b:Int)) (.int (k:Int)) _ (lx n (w,iw)) _ Z m x (n:Int) l _ _ hs hx (Oy n v iw) (Bm (by omega)) (by rw[jd,jD];omega) (ze (λ(k:Nat)=>jc (k:Int)) (λ_=>.int x) λ_ _=>rfl) hc (Ho (by rw[u8,lst];rfl)) (tO _ lm) a1 a2 a3;cases q:(lS n k (w,iw)).filter λh=>!bq (num n k Φ (w,iw) h) .none&&!bq (num n k Φ (w,iw) h) (.int x) with
 | cons h r =>
  rw[q] at sx;obtain⟨m1,m2⟩:=jO.mp (show h∈_ from by rw[q];exact jh);rw[jA,kF,kF,oK,oK] at m2;refine⟨_,⟨(w,iw),PT.ok _ lm,PT.cnt _ lm,nbP _ lm,.inr ⟨h,x,m1,hw,m2.1,m2.2,rfl⟩⟩,BF _ _ (((r.length+1:Nat)):Int) sx ?_ (.inr ⟨by omega,.int (h:Int),Cg _ _,rfl⟩)⟩;show Ga (jc ((((h::r).map λ(h:Nat)=>jc (h:Int)).length:Nat):Int))=_;rw[jd];rfl
 | nil =>
  rw[q] at sx;have nostr:=uW.mp q;have hP:∀ i,i<Ps.length->∃ R T,gZ (.list (Ps.map (lx n))) (.int (i:Int))=Ga R/\nu c φ [R,.int (k:Int)]=Ga T/\oM [T,.int m]=Ga (.bool (match Ps[i]? with|some r=>(lS n k r).all λh=>bq (num n k Φ r h) (.int m)|none=>true)):=λi hi=>by
   obtain⟨r,e,hr⟩:=at_ i hi;rw[e];exact⟨_,_,iC i r e,tO r hr,QG _ _ (uL r) (tT r) _ (.inr ⟨m,rfl⟩)⟩
  generalize hPd:(λi:Nat=>match Ps[i]? with|some r=>(lS n k r).all λh=>bq (num n k Φ r h) (.int m)|none=>true)=P;have hP':∀ i,i<Ps.length->∃ R T,gZ (.list (Ps.map (lx n))) (.int (i:Int))=Ga R/\nu c φ [R,.int (k:Int)]=Ga T/\oM [T,.int m]=Ga (.bool (P i)):=λi hi=>by rw[<- hPd];exact hP i hi
  have pE:∀ (i:Nat) (r:Rn),Ps[i]?=Ga r->P i=(lS n k r).all λh=>bq (num n k Φ r h) (.int m):=λi r e=>by rw[<- hPd];dsimp only;rw[e]
  have p0:P 0=true:=by
   rw[pE 0 _ g0];exact jL.mpr λh hh=>tE.mpr (al h hh)
  have pl0:P (Ps.length-1)=false:=by
   rw[pE _ _ gl];refine qm.mpr λz=>?_;have u0:0∈lS n k (w,iw):=CH (by omega) rfl;have e0:=tE.mp (jL.mp z 0 u0);refine nostr 0 u0 ?_;rw[e0,oK.mpr (λz=>by cases z),oK.mpr (λz=>xm (by injection z with z;exact z.symm))];rfl
  have l1:0<Ps.length-1:=by
   rcases Jt (Ps.length-1) with z|z
   .rw[z,p0] at pl0;cases pl0
   .exact z
  obtain⟨lo,x6,a1,a2,a3,a4⟩:=Lj c φ (.list (Ps.map (lx n))) (.int m) (.int (k:Int)) Ps.length P hP' 99 0 (Ps.length-1) .no (jF (show Ps.length-1-0<=6000 by omega) (by decide)) l1 (by omega) p0 pl0;obtain⟨r1,g1,m1⟩:=at_ lo (by omega);obtain⟨r2,g2,m2⟩:=at_ (lo+1) a1;obtain⟨i,hi,e1,e2,ev⟩:=Qc PT.chn g1 g2;have en:=zBu (Φ:=Φ) h2 h5 (PT.ok r1 m1) (PT.ok r2 m2) hi (by omega) e1 e2 ev;rw[pE _ _ g1] at a2;rw[pE _ _ g2] at a3;have vi:num n k Φ r1 i=.int m:=tE.mp (jL.mp a2 i (CH hi e1));obtain⟨h,hh,nh⟩:∃ h∈lS n k r2,num n k Φ r2 h≠.int m:=by
   rw[qm,ne_eq,jL] at a3;refine k6 λno=>a3 λh hh=>tE.mpr (k6 λz=>no ⟨h,hh,z⟩)
  obtain⟨Z,hB,hz⟩:=RH (b:=b) h5 (by omega) U (PT.ok r2 m2) (PT.cnt r2 m2) (nbP r2 m2) (CH hi e2) hh (by rw[<- en,vi];exact λz=>nh z.symm);have dl:iU (.list (Ps.map (lx n)))=Ga (.int (Ps.length:Int)):=by
   show Ga (jc (((Ps.map (lx n)).length:Nat):Int))=_;rw[jd]
  have ec:((Ps.length-1:Nat):Int)=(Ps.length:Int)-1:=by omega
  rw[ec] at a4;have to:=Wh c φ _ (.int m) (.int (k:Int)) _ _ _ _ _ _ x6 dl a4 (iC _ _ g2) (tO r2 m2) hz;exact⟨Z,hB,BF Z [] 0 sx rfl (.inl ⟨by decide,to⟩)⟩
theorem UM (c:iz)(φ:D->Option D)(R b k T p X Z:D)(ho:tH [R,b,k]=Ga (.bool true))(ht:nu c φ [R,k]=Ga T)(i0:gZ T (.int 0)=Ga p)(i1:gZ p (.int 1)=Ga X)(ha:oM [T,X]=Ga (.bool false))(hz:sT [R,T]=Ga Z):zq c φ [R,b,k]=Ga Z:=by
 have f:∀ e:En,frz (.fn c::e)=.fn c::frz e:=λ_=>rfl;rw[PF];unfold KO;generalize tH=A1 at *;generalize nu c φ=A2 at *;generalize oM=A3 at *;generalize sT=A4 at *;simp_arith[f,ho,wR,ht,i0,i1,ha,hz]
theorem Nn (c:iz)(φ:D->Option D)(R b k T p X Z:D)(ho:tH [R,b,k]=Ga (.bool true))(ht:nu c φ [R,k]=Ga T)(i0:gZ T (.int 0)=Ga p)(i1:gZ p (.int 1)=Ga X)(ha:oM [T,X]=Ga (.bool true))(hX:(X=.none/\Z=.none)\/(oB X .none=Ga (.bool false)/\zu c φ [R,b,k,X]=Ga Z)):zq c φ [R,b,k]=Ga Z:=by
 have f:∀ e:En,frz (.fn c::e)=.fn c::frz e:=λ_=>rfl;rw[PF];unfold KO;generalize tH=A1 at *;generalize nu c φ=A2 at *;generalize oM=A3 at *;generalize zu c φ=A4 at *;rcases hX with ⟨rfl,rfl⟩|⟨hi,hz⟩
 .have i:oB .none .none=Ga (.bool true):=rfl;simp_arith[f,ho,wR,ht,i0,i1,ha,i]
 .simp_arith[f,ho,wR,ht,i0,i1,ha,hi,hz]
theorem Wz (n k b:Nat)(v:Nat->Int)(h2:2<=n)(h5:n<=5)(k1:k<=2)(ht:b+2<=n)(hk:k<=b)(nb:∀ i,i<n->tq (v i))(c:iz)(φ:D->Option D)(Φ:D->D)(U:Ru n φ Φ):∃ Z,zq c φ [lx n (v,iw),.int (b:Int),.int (k:Int)]=Ga Z/\(((∀ h∈lS n k (v,iw),num n k Φ (v,iw) h=.none)/\Z=.none)\/((∃ h∈lS n k (v,iw),num n k Φ (v,iw) h≠.none)/\Dm n k b Φ Z)):=by
 have ho:=QK h2 h5 ht hk v;have o:=yk n 5;have ct:lu n iw<=b:=by rw[yj];exact jT _
 have im:0∈lS n k (v,iw):=CH (by omega) rfl;have tk:=Tn h2 h5 (show k<=4 by omega) U c (r:=(v,iw)) o;have tT:∀ h∈lS n k (v,iw),oj (num n k Φ (v,iw) h):=λh hh=>EA (by omega) U _ (EZ hh);have uL:(lS n k (v,iw)).length<=5:=jF (Fb n k _) h5;obtain⟨h0,r,eu⟩:∃ h0 r,lS n k (v,iw)=h0::r:=by
  cases q:lS n k (v,iw) with
  | nil=>rw[q] at im;cases im
  | cons a r=>exact⟨a,r,rfl⟩
 have hm:h0∈lS n k (v,iw):=by rw[eu];exact jh
 have i0:gZ (.list (sr (num n k Φ (v,iw)) (lS n k (v,iw)))) (.int 0)=Ga (.tuple [.int (h0:Int),num n k Φ (v,iw) h0]):=by
  rw[eu];exact Cg _ _
 have aw:=QG _ _ uL tT _ (tT h0 hm);cases q:(lS n k (v,iw)).all λh=>bq (num n k Φ (v,iw) h) (num n k Φ (v,iw) h0) with
 | true =>
  rw[q] at aw;have al:∀ h∈lS n k (v,iw),num n k Φ (v,iw) h=num n k Φ (v,iw) h0:=λh hh=>tE.mp (jL.mp q h hh);rcases tT h0 hm with z|⟨m,z⟩
  .exact⟨_,Nn c φ _ _ _ _ _ _ _ ho tk i0 rfl aw (.inl ⟨z,rfl⟩),.inl ⟨λh hh=>(al h hh).trans z,rfl⟩⟩
  .obtain⟨Z,hB,hz⟩:=XB n k b v h2 h5 k1 ht hk nb c φ Φ U m λh hh=>(al h hh).trans z;refine⟨Z,Nn c φ _ _ _ _ _ _ _ ho tk i0 rfl aw (.inr ⟨by rw[z];rfl,by rw[z];exact hz⟩),.inr ⟨⟨h0,hm,by rw[z];exact λw=>by cases w⟩,hB⟩⟩
 | false =>
  rw[q] at aw;obtain⟨h,hh,nh⟩:∃ h∈lS n k (v,iw),num n k Φ (v,iw) h≠num n k Φ (v,iw) h0:=by
   rw[qm,ne_eq,jL] at q;exact k6 λno=>q λh hh=>tE.mpr (k6 λz=>no ⟨h,hh,z⟩)
  obtain⟨Z,hB,hz⟩:=RH (b:=b) h5 (by omega) U (r:=(v,iw)) o ct nb hh hm nh;refine⟨Z,UM c φ _ _ _ _ _ _ _ ho tk i0 rfl aw hz,.inr ⟨?_,hB⟩⟩;by_cases w:num n k Φ (v,iw) h=.none
  .exact⟨h0,hm,λz=>nh (w.trans z.symm)⟩
  .exact⟨h,hh,w⟩
def wk (f:Nat->D)(us:List Nat):List (Int×D):=us.map λ(h:Nat)=>((h:Int),f h)
theorem Dd {f:Nat->D}{h:Nat}:∀ {us:List Nat},h∈us->nD (wk f us) (h:Int)=Ga (f h)
 | x::r,hh=>by
  by_cases c:x=h
  .subst c;unfold nD wk;rw[jK,kz (by exact Gc rfl)];rfl
  .have ih:=Dd (f:=f) (h:=h) (us:=r) ((jw.mp hh).resolve_left λz=>c z.symm);unfold nD wk at ih ⊢;rw[jK,kx (by exact λz=>c (by have:((x:Nat):Int)=(h:Int):=of_decide_eq_true z;omega))];exact ih
theorem Xc {kvs:List (Int×D)}{k:Int}{d:D}(h:∀ p∈kvs,p.1≠k):pP kvs k d=kvs++[(k,d)]:=by
 unfold pP;rw[Gf];intro z;obtain⟨p,h1,h2⟩:=uv.mp z;exact h p h1 (of_decide_eq_true h2)
theorem Ve (x0 x1 x2 x3 x4 x6 x7 x8:Sl)(kv kv':List (Int×D))(h:Int)(X:D)(hl:kv.length<1000000)(hp:pP kv h X=kv'):(cS (.tuple [.int h,X]) [x0,x1,x2,x3,x4,.dki Gb kv,x6,x7,x8]).bind fj=Ga (.nx [x0,x1,x2,x3,x4,.dki Gb kv',.val (.int h),.val X,x8]):=by
 simp_arith[Ge hl,hp]
theorem UJ (x0 x1 x2 x3 x4 x6 x7 x8:Sl)(kv:List (Int×D))(h:Int)(X:D)(h1:om [.int h]=Ga (.bool true))(h2:nD kv h=Ga X):(gs (.int h) [x0,x1,x2,x3,x4,.dki Gb kv,x6,x7,x8]).bind (iI (lV (mP (lE (ig om fI))) eU) eM iW)=Ga (.nx [x0,x1,x2,x3,x4,.dki Gb kv,.val (.int h),x7,x8]):=by
 have e0:(Ga X).isSome=true:=rfl;generalize om=A1 at *;simp_arith[h1,h2,e0]
theorem Lv (x1 x2 x3 x4 x6 x7 x8:Sl)(Rs:FS)(Fd W:D)(hs:List D)(kv:List (Int×D))(eR:Rs=(gT ac (gT ah (gT aH af))))(h1:sP Fd (Ga 2) Gb=Ga W)(h2:toS W=Ga hs):(gT (nL cD gs (iI (lV (mP (lE (ig om fI))) eU) eM iW)) (gT ac (gT ah (gT aH af)))) [.val Fd,x1,x2,x3,x4,.dki Gb kv,x6,x7,x8]=lT (iV gs (iI (lV (mP (lE (ig om fI))) eU) eM iW) hs [.val Fd,x1,x2,x3,x4,.dki Gb kv,x6,x7,x8]) Rs:=by
 rw[<- eR];generalize (iI (lV (mP (lE (ig om fI))) eU) eM iW)=Bd;simp_arith[h1,h2]
theorem Ij (c:iz)(φ:D->Option D)(Rs:FS)(Fd R X n b k:D)(l:Int)(ps:List D)(t0:sw "tuple" Fd=Ga (.bool true))(hl:iU Fd=Ga (.int l))(l3:¬l<3)(i1:gZ Fd (.int 1)=Ga R)(hg:yb [R,n,b]=Ga (.bool true))(ht:yS c φ [R,k]=Ga (.list ps))(eR:Rs=(gT (nL cD gs (iI (lV (mP (lE (ig om fI))) eU) eM iW)) (gT ac (gT ah (gT aH af)))))(q:hJ (lT (iV cS fj ps [.val Fd,.fn c,.val n,.val b,.val k,.dki Gb [],.no,.no,.no]) Rs)=Ga X):Au c φ [Fd,n,b,k]=Ga X:=by
 have f:∀ e:En,frz (.fn c::e)=.fn c::frz e:=λ_=>rfl;have f2:pq (.fn c)=.fn c:=rfl;have cp:∀ (A:List D->Option D) (g:FL) (a:Sl) (e:En),lF 1 c A g (a::.fn c::e)=(g (a::.fn c::e)).bind A:=λ_ _ _ _=>Ge rfl;have hs:toS (.list ps)=Ga ps:=rfl;rw[zoV];unfold Qq;rw[<- eR];generalize fj=Bd at *;generalize yb=A1 at *;generalize yS c φ=A2 at *;generalize uO ps=PL at *;simp_arith[t0,hl,Gd l3,i1,hg,f,f2,cp,ht,hs];exact q
theorem XS (x1 x2 x3 x4 x6 x7 x8:Sl)(Fd X Y tn:D)(h u:Int)(kv:List (Int×D))(et:tn=.str gq)(i0:gZ Fd (.int 0)=Ga tn)(e0:lj tn tn=Ga (.bool true))(hl:iU Fd=Ga (.int 4))(i2:gZ Fd (.int 2)=Ga (.int h))(i3:gZ Fd (.int 3)=Ga (.int u))(hu:h<u)(a1:nD kv h=Ga X)(a2:nD kv u=Ga Y)(ne:lR X Y=Ga (.bool true)):(gT ac (gT ah (gT aH af))) [.val Fd,x1,x2,x3,x4,.dki Gb kv,x6,x7,x8]=Ga (.rt (.bool true)):=by
 have kd:=CW kv;have e4:lj (.int 4) (.int 4)=Ga (.bool true):=rfl;subst et;generalize rE kv=DD at *;simp_arith[i0,e0,hl,e4,i2,i3,Gc hu,kd,a1,a2,ne]
theorem zF2 (x1 x3 x4 x6 x7 x8:Sl)(Fd R N X tn sn:D)(h x n:Int)(kv:List (Int×D))(et:tn=.str gq)(es:sn=.str ge)(i0:gZ Fd (.int 0)=Ga sn)(e0:lj sn tn=Ga (.bool false))(e1:lR sn sn=Ga (.bool false))(hl:iU Fd=Ga (.int 3))(i1:gZ Fd (.int 1)=Ga R)(r0:gZ R (.int 0)=Ga N)(n0:gZ N (.int 0)=Ga (.int x))(rp:tj (.tuple [.int x]) (.int n)=Ga N)(nn:lj N N=Ga (.bool true))(i2:gZ Fd (.int 2)=Ga (.int h))(a1:nD kv h=Ga X)(ni:mm X .none=Ga (.bool true))(ne:lR X (.int x)=Ga (.bool true)):(gT ac (gT ah (gT aH af))) [.val Fd,x1,.val (.int n),x3,x4,.dki Gb kv,x6,x7,x8]=Ga (.rt (.bool true)):=by
 have kd:=CW kv;have e3:lR (.int 3) (.int 3)=Ga (.bool false):=rfl;subst et es;generalize rE kv=DD at *;simp_arith[i0,e0,e1,hl,e3,i1,r0,n0,rp,nn,i2,kd,a1,ni,ne]
theorem zF3 {n b:Nat}(h2:2<=n)(h5:n<=5){r:Rn}(o:Ok n r.2 5)(ct:lu n r.2<=b)(nb:∀ i,i<n->tq (r.1 i)):yb [lx n r,.int (n:Int),.int (b:Int)]=Ga (.bool true):=by
 have ln:((je n).map r.1).length=n:=by rw[jd,jD]
 have:=zDC ((je n).map r.1) r.2 b (by rw[ln];exact h2) (by rw[ln];exact h5) (λx hx=>by
  obtain⟨i,hi,rfl⟩:=jz.mp hx;exact nb i (jk.mp hi)) (by rw[ln];exact o) (by rw[ln];exact ct)
 rw[ln,<- Dx] at this;exact this
theorem Zk {n:Nat}{v:Nat->Int}{x:Int}(h:∀ i,i<n->v i=x):iG n v=(jU n [jc x]).flatten:=by
 rw[zy9 h];unfold iG;clear h;induction n with
 | zero=>rfl
 | succ n ih =>
  rw[kh,j0,ih,List.replicate_succ',List.flatten_append];rfl
theorem zzO {n k b:Nat}(h2:2<=n)(h5:n<=5)(k4:k<=4){φ:D->Option D}{Φ:D->D}(U:Ru n φ Φ)(c:iz){Z:D}(B:Dm n k b Φ Z):Au c φ [Z,.int (n:Int),.int (b:Int),.int (k:Int)]=Ga (.bool true):=by
 obtain⟨r,o,ct,nb,B⟩:=B;have hg:=zF3 h2 h5 o ct nb;have ht:=zFW h2 h5 k4 U c o;have asc:=Sr n k r;have ul:=Fb n k r;have tT:∀ h∈lS n k r,oj (num n k Φ r h):=λh hh=>EA k4 U r (EZ hh);have LT:∀ (us:List Nat) (x0 x1 x2 x3 x4 x6 x7 x8:Sl) (Rs:FS),us.Pairwise (·<·)->us.length<=5->(∀ x6 x7,Rs [x0,x1,x2,x3,x4,.dki Gb (wk (num n k Φ r) us),x6,x7,x8]=Ga (.rt (.bool true)))->lT (iV cS fj (sr (num n k Φ r) us) [x0,x1,x2,x3,x4,.dki Gb [],x6,x7,x8]) Rs=Ga (.rt (.bool true)):=λus x0 x1 x2 x3 x4 x6 x7 x8 Rs hp hl q=>by
  refine DG (λ(h:Nat)=>j3 [.int (h:Int),num n k Φ r h]) (λpre ψ=>∃ x6 x7,ψ=[x0,x1,x2,x3,x4,.dki Gb (wk (num n k Φ r) pre),x6,x7,x8]) us ⟨_,_,rfl⟩ ?_ ?_
  .rintro pre a suf rfl _ ⟨y6,y7,rfl⟩;have pl:pre.length<=5:=by rw[ju] at hl;omega
   rw[Ve x0 x1 x2 x3 x4 y6 y7 x8 _ (wk (num n k Φ r) (pre++[a])) (a:Int) _ (by unfold wk;rw[jd];omega) ?_]
   .exact oF ⟨_,_,rfl⟩
   .rw[Xc]
    .unfold wk;rw[j0];rfl
    .intro p hp2 z;obtain⟨x,hx,rfl⟩:=jz.mp hp2;have:x<a:=(Ji.mp hp).2.2 x hx a jh;dsimp only at z;omega
  .rintro _ ⟨y6,y7,rfl⟩;exact q y6 y7
 have LW:∀ (hs:List Nat) (x0 x1 x2 x3 x4 x6 x7 x8:Sl) (Rs:FS),(∀ h∈hs,h∈lS n k r)->(∀ x6 x7,Rs [x0,x1,x2,x3,x4,.dki Gb (wk (num n k Φ r) (lS n k r)),x6,x7,x8]=Ga (.rt (.bool true)))->lT (iV gs (iI (lV (mP (lE (ig om fI))) eU) eM iW) (hs.map λ(h:Nat)=>jc (h:Int)) [x0,x1,x2,x3,x4,.dki Gb (wk (num n k Φ r) (lS n k r)),x6,x7,x8]) Rs=Ga (.rt (.bool true)):=λhs x0 x1 x2 x3 x4 x6 x7 x8 Rs hm q=>by
  refine zAG (λψ=>∃ x6 x7,ψ=[x0,x1,x2,x3,x4,.dki Gb (wk (num n k Φ r) (lS n k r)),x6,x7,x8]) ⟨_,_,rfl⟩ ?_ ?_
  .rintro d hd _ ⟨y6,y7,rfl⟩;obtain⟨h,hh,rfl⟩:=jz.mp hd;rw[UJ x0 x1 x2 x3 x4 y6 y7 x8 _ (h:Int) _ (Dj h) (Dd (hm h hh))];exact oF ⟨_,_,rfl⟩
  .rintro _ ⟨y6,y7,rfl⟩;exact q y6 y7
 have q1:(qN gq).canLay0=true:=by first|rfl|decide +kernel
 have q2:(qN ge).canLay0=true:=by first|rfl|decide +kernel
 have q3:lj (qN ge) (qN gq)=Ga (.bool false):=by
  unfold lj;rw[Ge (by first|rfl|decide +kernel)];simp only[kL]
  first|rfl|exact congrArg (λb=>Ga (jP b)) (by first|rfl|decide +kernel)
 rcases B with ⟨h,u,hm,um,hu,ne,rfl⟩|⟨h,x,hm,hx,n1,n2,rfl⟩
 .refine Ij c φ _ _ (lx n r) _ _ _ _ 4 _ rfl rfl (by decide) rfl hg ht rfl ?_;refine congrArg hJ (LT _ _ _ _ _ _ _ _ _ _ asc (jF ul h5) λx6 x7=>?_);rw[Lv _ _ _ _ x6 x7 _ _ _ (.tuple [.int (h:Int),.int (u:Int)]) ([h,u].map λ(h:Nat)=>jc (h:Int)) _ rfl rfl rfl];refine LW [h,u] _ _ _ _ _ _ _ _ _ ?_ λx6 x7=>?_
  .intro y hy;rcases jw.mp hy with rfl|hy
   .exact hm
   .rw[jj.mp hy];exact um
  .exact XS _ _ _ _ x6 x7 _ _ _ _ _ (h:Int) (u:Int) _ rfl rfl (QW q1 (jT _)) rfl rfl rfl (by omega) (Dd hm) (Dd um) ((FN (tT h hm) (tT u um)).trans (by rw[oK.mpr ne];rfl))
 .refine Ij c φ _ _ (lx n r) _ _ _ _ 3 _ rfl rfl (by decide) rfl hg ht rfl ?_;refine congrArg hJ (LT _ _ _ _ _ _ _ _ _ _ asc (jF ul h5) λx6 x7=>?_);rw[Lv _ _ _ _ x6 x7 _ _ _ (.tuple [.int (h:Int)]) ([h].map λ(h:Nat)=>jc (h:Int)) _ rfl rfl rfl];refine LW [h] _ _ _ _ _ _ _ _ _ ?_ λx6 x7=>?_
  .intro y hy;rw[jj.mp hy];exact hm
  .have tx:=tT h hm;have nl:=Zk hx;have rp:tj (.tuple [.int x]) (.int (n:Int))=Ga (.tuple (iG n r.1)):=by
    unfold tj;dsimp only;rw[Ge ⟨List.cons_ne_nil _ _,by omega,by rw[j5,j9];omega⟩,j5,nl]
   have nn:lj (.tuple (iG n r.1)) (.tuple (iG n r.1))=Ga (.bool true):=QW (by
    show kE (iG n r.1)=true;rw[Dx];exact PyProof.Rows.canLayAll_ints _) (by
    show kq (iG n r.1)+1<=100;rw[Dx,PyProof.Rows.depthAll_ints];decide)
   have i0:gZ (.tuple (iG n r.1)) (.int 0)=Ga (.int x):=by
    refine(L2.atI_nat (j:=0) (Bi (by omega))).trans ?_;rw[hx 0 (by omega)]
   exact zF2 _ _ _ x6 x7 _ _ (lx n r) (.tuple (iG n r.1)) _ _ _ (h:Int) x (n:Int) _ rfl rfl rfl q3 (Pp q2 (jT _)) rfl rfl rfl i0 rp nn rfl (Dd hm) ((Qf tx).trans (by rw[oK.mpr n1];rfl)) ((FN tx (.inr ⟨x,rfl⟩)).trans (by rw[oK.mpr n2];rfl))
theorem zGN (n:Nat)(fs:List Fl)(r h s:Nat):0<=ws n fs r h s:=by
 have key:∀ (l:List Nat) (a:Int),0<=a->0<=l.foldl (λa k=>if a<(lc n fs r h (k+1):Int)-((k+1:Nat):Int) then(lc n fs r h (k+1):Int)-((k+1:Nat):Int) else a) a:=by
  intro l;induction l with
  | nil=>exact λa h=>h
  | cons x l ih =>
   intro a h;refine ih _ ?_;dsimp only;split<;>omega
 exact key _ 0 (ur _)
noncomputable def zQ (w b:Int)(d:D):D:=match (sg [d,.int w,.int b]).getD .none with
 | .int i=>.int i
 | _=>.none
theorem Yy (w b:Int)(d:D):oj (zQ w b d):=by
 unfold zQ;split
 .exact .inr ⟨_,rfl⟩
 .exact .inl rfl
theorem BV (V:D)(w b:Int)(X:D)(h:(w=0/\AV [V,.int b]=Ga X)\/(w=1/\Bp [V,.int b]=Ga X)\/(w=2/\BL [V,.int b]=Ga X)\/(w=3/\BI [V,.int b]=Ga X)):sg [V,.int w,.int b]=Ga X:=by
 rw[YK];unfold Hz;generalize AV=A1 at *;generalize Bp=A2 at *;generalize BL=A3 at *;generalize BI=A4 at *;rcases h with ⟨e,h⟩|⟨e,h⟩|⟨e,h⟩|⟨e,h⟩
 .simp_arith[Gc e,h]
 .simp_arith[Gd (show ¬w=0 by omega),Gc e,h]
 .simp_arith[Gd (show ¬w=0 by omega),Gd (show ¬w=1 by omega),Gc e,h]
 .simp_arith[Gd (show ¬w=0 by omega),Gd (show ¬w=1 by omega),Gd (show ¬w=2 by omega),h]
theorem PD {n b:Nat}{w:Int}(w0:0<=w)(w3:w<4)(h2:2<=n)(h5:n<=5)(v:Nat->Int){E:Fs}(o:Ok n E 5){h k:Nat}(hh:h<n)(hk:k<=4):∃ (t:Bool) (m:Int),(b+1<=k->t=true)/\sg [vw (iG n v) (iJ n E) k h,.int w,.int (b:Int)]=Ga (tl t m)/\zQ w b (vw (iG n v) (iJ n E) k h)=tl t m:=by
 have G:=CC h2 h5 (jm 5) o;have ln:=mi n v;have hi:=EB n v;obtain⟨m,hm⟩:=zyQ (iG n v) (iJ n E) hi k h (by rw[ln];exact hh);have le:=zAM (iG n v) (iJ n E) hi (by rw[ln];exact h5) k h hk (by rw[ln];exact hh) hm;have cp:=Sa (iG n v) (iJ n E) (by rw[ln];exact G) hi k h (by rw[ln];exact hh) (by omega);have wp:=zFM (iG n v) (iJ n E) (by rw[ln];exact G) hi k h hk (by rw[ln];exact hh);have wq:=zAS (iG n v) (iJ n E) hi (by rw[ln];exact h5) k h hk (by rw[ln];exact hh);have wn:=zGN (iG n v).length (iJ n E) k h (k-1);have ro:=yP (iG n v) (iJ n E) hi k h (by rw[ln];exact hh) (by omega)
 suffices H:∃ t:Bool,(b+1<=k->t=true)/\sg [vw (iG n v) (iJ n E) k h,.int w,.int (b:Int)]=Ga (tl t m) by
  obtain⟨t,h1,h2⟩:=H;refine⟨t,m,h1,h2,?_⟩;unfold zQ;rw[h2];cases t<;>rfl
 have ok:b+1<=k->(b:Int)+1<=(k:Int):=λz=>by omega
 have wc:w=0\/w=1\/w=2\/w=3:=by omega
 rcases wc with e|e|e|e
 .exact⟨_,λz=>Gc (ok z),BV _ _ _ _ (.inl ⟨e,zBs _ _ (b:Int) _ ro le⟩)⟩
 .exact⟨_,λz=>by rw[Gc (ok z)];rfl,BV _ _ _ _ (.inr (.inl ⟨e,zDK _ _ (b:Int) _ ro le _ cp⟩))⟩
 .exact⟨_,λz=>by rw[Gc (ok z)];rfl,BV _ _ _ _ (.inr (.inr (.inl ⟨e,zDL _ _ (b:Int) _ ro le _ wp⟩)))⟩
 .exact⟨_,λz=>Gc (by have:=ok z;omega),BV _ _ _ _ (.inr (.inr (.inr ⟨e,zFL _ _ (b:Int) _ _ ro le wq⟩)))⟩
theorem Ts (Φ:Nat->D):∀ (m a:Nat),on Φ a m=.none->∀ j,a<=j->j<a+m->Φ j=.none
 | 0,a,_,j,h1,h2=>by omega
 | m+1,a,e,j,h1,h2=>by
  unfold on at e;by_cases c:Φ a=.none
  .rw[Ge c] at e;by_cases ja:j=a
   .rw[ja];exact c
   .exact Ts Φ m (a+1) e j (by omega) (by omega)
  .rw[Gf c] at e;exact absurd e c
theorem zGO (ns:List Int):iU (.list (ns.map jc))=Ga (.int (ns.length:Int)):=by
 show Ga (jc ((ns.map jc).length:Nat))=_;rw[jd]
theorem OG (l:Nat):wM (.int 63) (.int (l:Int))=Ga (.int ((min 63 l:Nat):Int)):=by
 show Ga (jc (if (l:Int)<63 then(l:Int) else 63))=_;refine congrArg (λx=>Ga (jc x)) ?_;split<;>omega
theorem SQ {it:Nat}{P:Gj}{mk:(D->Option D)->iz}{fb:FV}{fm:iz->(D->Option D)->List D->Option D}{ix:List Nat}{g:FL}{ψ:En}{cs as:List D}{X:D}(φ:D->Option D)(e:φ=λd=>fb (.val d::cs.map .val))(h1:ψ[it]?=Ga (.tab P))(h2:Ao ψ ix=Ga cs)(h3:g ψ=Ga as)(h4:fm (mk φ) φ as=Ga X):pW it P mk fb fm ix g ψ=Ga X:=by
 unfold pW;rw[Ge h1,h2,jv,h3,jv,<- e];exact h4
theorem YC (Lx Ly:FV)(K:FS)(eK:K=(gT gj (gT (nL fN gr (oP 4 (gW lP (gW lQ (ig pX ak) ba) cI))) (gT aN (gT be (gT bv (gT (ly 7 Lx) (iI (mP (lE Ly)) eM iW))))))))(S:D)(cut:List D)(k s M n:Int)(y1 y2 y3 y4 y5 y6 y7 y8 y9 y10:Sl)(hsl:sP S (Ga k) (Ga (k+9))=Ga (.list cut))(hsum:xt cut=Ga (.int s))(hM:yr [.int s,.int k]=Ga (.int M))(hm2:∀ x:Int,lQ (.int x) (.int 2)=Ga (.int (x%2)))(h:(k=0/\M%2=0/\n=4)\/(¬(k=0/\M%2=0)/\n=3)) :
  (md 1 (.int k) [.val S,y1,y2,y3,y4,y5,y6,y7,y8,y9,y10]).bind (gT (ly 2 (ig yr (gX (pF xt aY) fC))) (gT (ly 3 fY) (gT aq (gT gj (gT (nL fN gr (oP 4 (gW lP (gW lQ (ig pX ak) ba) cI))) (gT aN (gT be (gT bv (gT (ly 7 Lx) (iI (mP (lE Ly)) eM iW))))))))))=K [.val S,.val (.int k),.val (.int M),.val (.int n),y4,y5,y6,y7,y8,y9,y10]:=by
 rw[<- eK];generalize yr=A1 at *;rcases h with ⟨h1,h2,rfl⟩|⟨h1,rfl⟩
 .simp_arith[hsl,hsum,hM,hm2,Gc h1,Gc h2]
 .by_cases c1:k=0
  .have h2:¬M%2=0:=λz=>h1 ⟨c1,z⟩;simp_arith[hsl,hsum,hM,hm2,Gc c1,Gd h2]
  .simp_arith[hsl,hsum,hM,hm2,Gd c1]
theorem UX (S:D)(k j a M q q2 jq T:Int)(xs:List D)(x3 x5 x6 x7 x8 x9 x10:Sl)(d2:nw (.int M) (.int 2)=Ga (.int (M/2)))(m3:lQ (.int (M/2)) (.int 3)=Ga (.int q))(m2:lQ (.int q) (.int 2)=Ga (.int q2))(hj:nk (.int j) (.int q2)=Ga (.int jq))(h1:pX [S,.int (k+jq)]=Ga (.int a))(pw:D->D->Option D)(hq:pw (.int 10) (.int 59)=Ga (.int T))(h4:nk (.int 2) (.int T)=Ga (.int (2*T)))(hm:lQ (.int a) (.int (2*T))=Ga (.int (a%(2*T))))(hl:xs.length<1000000) :
  mh (λψ=>∃ x5,ψ=[.val S,.val (.int k),.val (.int M),x3,.own (xs++[.int (a%(2*T)-T)]),x5,x6,x7,x8,x9,x10]) ((md 5 (.int j) [.val S,.val (.int k),.val (.int M),x3,.own xs,x5,x6,x7,x8,x9,x10]).bind (oP 4 (gW lP (gW lQ (ig pX ak) (gW nk fT (gW pw fP fS))) (gW pw fP fS)))):=by
 generalize pX=A1 at *;simp_arith[h1,hq,h4,d2,m3,m2,hj,hm,Ge hl];exact oF ⟨_,rfl⟩
theorem Yk (Lx Ly:FV)(K:FS)(eK:K=(gT aN (gT be (gT bv (gT (ly 7 Lx) (iI (mP (lE Ly)) eM iW))))))(S:D)(k M n:Int)(N:Nat)(W:Nat->List D)(h0:W 0=[])(y4 y5 y6 y7 y8 y9 y10:Sl)(hr:la (.int n)=Ga ((je N).map λ(k:Nat)=>.int (k:Int)))(I:En->Prop)
  (st:∀ j:Nat,j<N->∀ x5,mh (λψ=>∃ x5,ψ=[.val S,.val (.int k),.val (.int M),.val (.int n),.own (W (j+1)),x5,y6,y7,y8,y9,y10]) ((md 5 (.int (j:Int)) [.val S,.val (.int k),.val (.int M),.val (.int n),.own (W j),x5,y6,y7,y8,y9,y10]).bind (oP 4 (gW lP (gW lQ (ig pX ak) ba) cI))))
  (q:∀ x5,mh I (K [.val S,.val (.int k),.val (.int M),.val (.int n),.own (W N),x5,y6,y7,y8,y9,y10])):mh I ((gT gj (gT (nL fN gr (oP 4 (gW lP (gW lQ (ig pX ak) ba) cI))) (gT aN (gT be (gT bv (gT (ly 7 Lx) (iI (mP (lE Ly)) eM iW))))))) [.val S,.val (.int k),.val (.int M),.val (.int n),y4,y5,y6,y7,y8,y9,y10]):=by
 rw[<- eK];have fin:∀ o,o=lT (iV gr (oP 4 (gW lP (gW lQ (ig pX ak) ba) cI)) ((je N).map λ(k:Nat)=>.int (k:Int)) [.val S,.val (.int k),.val (.int M),.val (.int n),.own (W 0),y5,y6,y7,y8,y9,y10]) K->mh I o:=λo eo=>by
  obtain⟨e,h1,x5,rfl⟩:=FD (λj ψ=>∃ x5,ψ=[.val S,.val (.int k),.val (.int M),.val (.int n),.own (W j),x5,y6,y7,y8,y9,y10]) N (λj hj ψ ⟨x5,he⟩=>by subst he;exact st j hj x5) N 0 _ (v7 _) ⟨y5,rfl⟩;rw[<- uF] at h1;rw[eo,h1];exact q x5
 rw[h0] at fin
 generalize (oP 4 (gW lP (gW lQ (ig pX ak) ba) cI))=Bd at *;refine fin _ ?_;simp_arith[hr]
theorem zGR (Lx Ly:FV)(I:En->Prop)(S Z:D)(Ns:List D)(k M n b w:Int)(Pt:Gj)(x5 x6 x7 x8 x9:Sl)(d6:nw (.int M) (.int 6)=Ga (.int (M/6)))(hb:lQ (.int (M/6)) (.int (n-2))=Ga (.int b))(d12:nw (.int M) (.int 12)=Ga (.int (M/12)))(hw:lQ (.int (M/12)) (.int 4)=Ga (.int w))
  (tp:pF pj (gl 4) [.val S,.val (.int k),.val (.int M),.val (.int n),.own Ns,x5,x6,x7,.val (.int b),.val (.int w),.tab Pt]=Ga (.tuple Ns)) (h1:∀ x7,Lx [.val S,.val (.int k),.val (.int M),.val (.int n),.own Ns,x5,.val (.tuple [.tuple Ns,.tuple []]),x7,.val (.int b),.val (.int w),.tab Pt]=Ga Z) (h2:∀ y5 y6,Ly [.val S,.val (.int k),.val (.int M),.val (.int n),.val (.list Ns),y5,y6,.val Z,.val (.int b),.val (.int w),.tab Pt]=Ga (.bool true)) (i:∀ x6,I [.val S,.val (.int k),.val (.int M),.val (.int n),.own Ns,x5,x6,.val Z,.val (.int b),.val (.int w),.tab Pt]) :
  mh I ((gT aN (gT be (gT bv (gT (ly 7 Lx) (iI (mP (lE Ly)) eM iW))))) [.val S,.val (.int k),.val (.int M),.val (.int n),.own Ns,x5,x6,x7,x8,x9,.tab Pt]):=by
 simp_arith[d6,hb,d12,hw,tp,h1,h2];exact oF (i _)
theorem Vi (Ru:List D->Option D)(v b w X:D)(h:Ru [v,w,b]=Ga X):(ig Ru cQ) [.val v,.val b,.val w]=Ga X:=by
 simp_arith[h]
theorem WF (Bd:FS)(Pt:Gj)(S:D)(l m:Int)(Ks:List D)(h1:iU S=Ga (.int l))(h2:wM (.int 63) (.int l)=Ga (.int m))(h3:wD (.int 0) (.int m) (.int 9)=Ga Ks)(q:hJ (lT (iV (md 1) Bd Ks [.val S,.no,.no,.no,.no,.no,.no,.no,.no,.no,.tab Pt]) eT)=Ga (.bool true)) :
  hJ ((gT (nL (MP wD fU (gW wM (me (.int 63)) fM) fW) (md 1) Bd) eT) [.val S,.no,.no,.no,.no,.no,.no,.no,.no,.no,.tab Pt])=Ga (.bool true):=by
 simp_arith[h1,h2,h3];exact q
theorem zzQ (mk:(D->Option D)->iz)(Pt:Gj)(ns:List Int)(hn:ns.length<=63):zlS mk Pt [.list (ns.map jc)]=Ga (.bool true):=by
 obtain⟨K,hK,hB⟩:=UG (min 63 ns.length) (by omega);obtain⟨T,hT,T0,T6,T1⟩:=Ft;have pw:=OD T hT;rw[zAI];unfold Pb;refine WF _ Pt _ _ _ _ (zGO ns) (OG _) hK ?_;refine(congrArg hJ (BJ (f:=λ(k:Nat)=>(.int ((9*k:Nat):Int):D)) (R:=Ga (.rt (.bool true))) K (λ_ ψ=>∃ y1 y2 y3 y4 y5 y6 y7 y8 y9,ψ=[.val (.list (ns.map jc)),y1,y2,y3,y4,y5,y6,y7,y8,y9,.tab Pt]) ⟨_,_,_,_,_,_,_,_,_,rfl⟩ ?_ ?_)).trans rfl
 .rintro k0 hk0 _ ⟨y1,y2,y3,y4,y5,y6,y7,y8,y9,rfl⟩;have hk:=hB k0 hk0;generalize 9*k0=k at hk;obtain⟨cut,s,c1,c2⟩:=XZ ns (Ga (k:Int)) (Ga ((k:Int)+9));obtain⟨M,M1,hM⟩:=zBc s k (by omega);obtain⟨n,hn4⟩:∃ n:Nat,(((k:Int)=0/\(M:Int)%2=0/\(n:Int)=4)\/(¬((k:Int)=0/\(M:Int)%2=0)/\(n:Int)=3)):=by
   by_cases c:(k:Int)=0/\(M:Int)%2=0
   .exact⟨4,.inl ⟨c.1,c.2,rfl⟩⟩
   .exact⟨3,.inr ⟨c,rfl⟩⟩
  have n3:3<=n:=by omega
  have n4:n<=4:=by omega
  rw[YC _ _ _ rfl _ cut (k:Int) s (M:Int) (n:Int) y1 y2 y3 y4 y5 y6 y7 y8 y9 _ c1 c2 hM (λ_=>wT (by decide)) hn4];clear hn4;obtain⟨q,hq⟩:∃ q:Nat,(M:Int)/2%3%2=(q:Int):=⟨((M:Int)/2%3%2).toNat,by omega⟩;have q1:q<=1:=by omega
  have A:∀ j:Nat,∃ a,pX [.list (ns.map jc),.int ((k:Int)+(j:Int)*(q:Int))]=Ga (.int a):=λj=>by
   rw[show(k:Int)+(j:Int)*(q:Int)=((k+j*q:Nat):Int) by rw[Int.natCast_add,qQ]];exact zDI ns (k+j*q)
  obtain⟨a,ha⟩:∃ a:Nat->Int,∀ j:Nat,pX [.list (ns.map jc),.int ((k:Int)+(j:Int)*(q:Int))]=Ga (.int (a j)):=⟨λj=>Classical.choose (A j),λj=>Classical.choose_spec (A j)⟩;obtain⟨v,ev⟩:∃ v:Nat->Int,v=λj=>a j%(2*T)-T:=⟨_,rfl⟩;have nb:∀ i,i<n->tq (v i):=λi hi=>by
   have b1:=Int.emod_nonneg (a i) (show 2*T≠0 by omega);have b2:=Jw (a i) T0;have e:v i=a i%(2*T)-T:=by rw[ev]
   unfold tq;rw[e,T6];split<;>omega
  have e0:=Int.emod_nonneg ((M:Int)/6) (show(n:Int)-2≠0 by omega);have e1:=Jw ((M:Int)/6) (show(0:Int)<(n:Int)-2 by omega);obtain⟨b,hb⟩:∃ b:Nat,(M:Int)/6%((n:Int)-2)=(b:Int):=⟨((M:Int)/6%((n:Int)-2)).toNat,by omega⟩;have b2:b+3<=n:=by omega
  have hmd:=wT (i:=(M:Int)/6) (j:=(n:Int)-2) (by omega);rw[hb] at hmd;obtain⟨w,hw⟩:∃ w:Int,w=(M:Int)/12%4:=⟨_,rfl⟩;have w0:0<=w:=by omega
  have w4:w<4:=by omega
  have hwd:=wT (i:=(M:Int)/12) (j:=4) (by decide);rw[<- hw] at hwd;have d6:nw (.int (M:Int)) (.int 6)=Ga (.int ((M:Int)/6)):=AU (by decide) (by decide);have d12:nw (.int (M:Int)) (.int 12)=Ga (.int ((M:Int)/12)):=AU (by decide) (by decide);have d2:nw (.int (M:Int)) (.int 2)=Ga (.int ((M:Int)/2)):=AU (by decide) (by decide);have mu:nk (.int 2) (.int T)=Ga (.int (2*T)):=MA (SU (by decide) (by decide));refine Yk _ _ _ rfl _ (k:Int) (M:Int) (n:Int) n (λj=>iG j v) rfl y4 y5 y6 y7 y8 y9 _ (Bm (by omega)) _ (λj hj x5=>?_) λx5=>?_
  .refine Ni (UX _ (k:Int) (j:Int) (a j) (M:Int) ((M:Int)/2%3) (q:Int) ((j:Int)*(q:Int)) T (iG j v) _ x5 y6 y7 y8 y9 _ d2 (wT (by decide)) ((wT (by decide)).trans (congrArg (λz=>Ga (jc z)) hq)) (MA (SU (by omega) (by omega))) (ha j) sC pw mu (wT T0) (by rw[mi];omega)) λe ⟨x5,he⟩=>⟨x5,?_⟩;rw[he];have:iG (j+1) v=iG j v++[.int (a j%(2*T)-T)]:=by
    unfold iG;rw[kh,j0,ev];rfl
   rw[this]
  .obtain⟨φ,eφ⟩:∃ φ:D->Option D,φ=λd=>(ig sg cQ) (.val d::[jc (b:Int),.int w].map .val):=⟨_,rfl⟩;have U:Ru n φ (zQ w b):=⟨Yy w b,λv' E' o' h j hh hj=>by
    obtain⟨t,m,_,z1,z2⟩:=PD (b:=b) w0 w4 (show 2<=n by omega) (show n<=5 by omega) v' o' hh hj;rw[z2,eφ];exact Vi sg _ _ _ _ z1⟩
   have eb:(((n-2:Nat)):Int)=(n:Int)-2:=by omega
   have ek:(((b+1:Nat)):Int)=(b:Int)+1:=by omega
   obtain⟨Z,hZ,zc⟩:=Wz n (b+1) (n-2) v (by omega) (by omega) (by omega) (by omega) (by omega) nb (mk φ) φ (zQ w b) U;have er:lx n (v,iw)=.tuple [.tuple (iG n v),.tuple []]:=by unfold lx mQ rd;rw[mi,Gv];rfl
   rw[er,eb,ek] at hZ;have B:Dm n (b+1) (n-2) (zQ w b) Z:=by
    rcases zc with ⟨al,_⟩|⟨_,B⟩
    .exfalso;have z:=al 0 (CH (by omega) rfl);unfold num at z;have z:=Ts _ _ _ z (b+1) (jT _) (by omega);dsimp only at z;obtain⟨t,m,t1,_,z2⟩:=PD (b:=b) (n:=n) (k:=b+1) (h:=0) w0 w4 (by omega) (by omega) v (yk n 5) (by omega) (by omega);rw[z2,t1 (jm _)] at z;cases z
    .exact B
   have BK:=λc=>zzO (show 2<=n by omega) (show n<=5 by omega) (show b+1<=4 by omega) U c B;rw[eb,ek] at BK;refine zGR (pW 10 Pt mk (ig sg cQ) zq [8,9] aE) (pW 10 Pt mk (ig sg cQ) Au [8,9] az) _ _ Z (iG n v) (k:Int) (M:Int) (n:Int) (b:Int) w Pt x5 y6 y7 y8 y9 d6 hmd d12 hwd rfl (λx7=>?_) (λy5 y6=>?_) λx6=>⟨_,_,_,_,_,_,_,_,_,rfl⟩
   .exact SQ φ eφ (cs:=[jc (b:Int),.int w]) (as:=[.tuple [.tuple (iG n v),.tuple []],.int ((n:Int)-2),.int ((b:Int)+1)]) rfl rfl rfl hZ
   .exact SQ φ eφ (cs:=[jc (b:Int),.int w]) (as:=[Z,.int (n:Int),.int ((n:Int)-2),.int ((b:Int)+1)]) rfl rfl rfl (BK _)
 .rintro _ ⟨y1,y2,y3,y4,y5,y6,y7,y8,y9,rfl⟩;rfl
end Law
end
open PySem PySem.W PyProof.Rows
set_option maxRecDepth 100000 in
set_option maxHeartbeats 0 in
theorem PySem.Challenge.cw_roundfall_k52_whole_hasty_rules_break_holds : PySem.Challenge.rw_roundfall_k52_whole_hasty_rules_break.Holds := by
 w_on
 refine PySem.W.holds_law Law.ws0 λsaid=>?_;refine PySem.W.holds_open (q:=Law.qv0) (loose:=[]) (Xt:=Law.xt0) (XP:=PySem.W.XL Law.qv0 []) (Yf:=PySem.W.Hook.obs (ue Law.KK Law.KA Law.zrT [562])) (Ya:=PySem.W.Hook.val (ue Law.KK Law.KA Law.zrT [562])) (YP:=PySem.W.Hook.says (ue Law.KK Law.KA Law.zrT [562])) (N:=9000) Law.lf0 (PySem.W.Hook.of (ue Law.KK Law.KA Law.zrT [562])) (PySem.W.Hook.keeps (ue Law.KK Law.KA Law.zrT [562])) (λs e=>PySem.W.xl_of s (Jk.mp e).1) PySem.W.XL.keeps (by rfl) (by rfl) (by rfl) (λs e=>PySem.W.recFacts_of (Jk.mp e).2) (by rfl) said (by nofun) ⟨rfl,rfl,rfl,rfl,rfl,by nofun⟩ ?hw ?hc
 case hw=>w_witness2
 k_fill
 refine T3.zAj (l:=PySem.Challenge.rw_roundfall_k52_whole_hasty_rules_break) (n:=63) (k:=36) (x:="script") (Pt:=562) (K:=Law.KK) (sp:=λK vs H Q E=>∀ mk,T3.spT K 562 (Law.zlS mk 562) vs H Q E) rfl (by decide) rfl ⟨rfl,by decide,by decide⟩ (λw h Y=>⟨PySem.W.km_in_of Y,PySem.W.km_tabs_of Y _ jh⟩) (λP=>Law.zGT P) (λw h X=>T3.zsD X (Law.zF7 w.params)) ?F ?S
 case F =>
  intro w mg fa h KX G hmg;refine'(λz=>(Law.zE9 KX G hmg z:_)) (Law.zE8 KX G ?w_q57 ?w_q67 ?w_q55 ?w_q60 ?w_q43 ?w_q34 ?w_q20 ?w_q25 ?w_q61 ?w_q11 ?w_q39 ?w_q13 ?w_q69 ?w_q32 ?w_q71 ?w_q72 ?w_q2 ?w_q0 ?w_q66 ?w_q35 ?w_q10 ?w_q38 ?w_q44 ?w_q7 ?w_q58 ?w_q1 ?w_q16 ?w_q17 ?w_q3 ?w_q74 ?w_q12 ?w_q24 ?w_q9 ?w_q68 ?w_q23 ?w_q4 ?w_q42 ?w_q15 ?w_q8 ?w_q54 ?w_q50 ?w_q36 ?w_q53 ?w_q52 ?w_q30 ?w_q73 ?w_q19 ?w_q48 ?w_q27 ?w_q56 ?w_q64 ?w_q37 ?w_q40 ?w_q62 ?w_q46 ?w_q59 ?w_q31 ?w_q63 ?w_q14 ?w_q65 ?w_q26 ?w_q5 ?w_q33 ?w_q21 ?w_q70 ?w_q75 ?w_q76 ?w_q49 ?w_q18 ?w_q29 ?w_q28 ?w_q47 ?w_q41 ?w_q51 ?w_q45 ?w_q22 ?w_q6 ?w_q77 ?z_abs ?z_all ?z_any ?z_bool ?z_int ?z_isinstance ?z_len ?z_list ?z_max ?z_min ?z_range ?z_reversed ?z_sorted ?z_sum ?z_tuple ?c_LAST_ROUND ?c_LEAST_HANDS ?c_MOST_HANDS (c0:=566) (Pt:=562) (bm:=4) ?l_1 (Law.zF7 w.params) ?l_3 ?l_4 (by decide) (by decide))
  all_goals first|k_is|exact rfl|(refine'⟨_,_,_,_,_,_,_,_,?x1,?x2,?x3,?x4,?x5⟩;(case x1=>k_is);(case x2=>exact rfl);(case x3=>exact rfl);(case x4=>k_is);(case x5=>k_is))|skip
 case S=>exact λK H a ns hl hT hS mk=>T3.zCs hT hS (Law.zzQ mk 562 ns hl)
