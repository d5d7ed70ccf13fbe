import PyProof.Rows.All
import Wide.All
import OpenK.AllK
import Wide.FinOn
import PySem.Challenge.RW_tonguenest_k23_kinds_all_through
set_option maxHeartbeats 0
set_option Elab.async false
set_option linter.all false
set_option maxRecDepth 100000
set_option compiler.extract_closed false
open PySem.Str renaming ofString->YP,join->N1,empty->JB,length->J4,cps->IR
open List renaming getD_eq_getElem?_getD->XP,getElem?_eq_getElem->X1,length_append->X4,length_map->X5,getElem?_eq_some_iff->W5,mem_cons_self->W8,mem_filter->T3,size_toArray->T4,map_append->T5,mem_append->T6,mem_cons_of_mem->T7,mem_append_right->S2,mem_map->S4,mem_cons->S7,eq_nil_of_length_eq_zero->Ry,mem_singleton->RA,map_cons->RD,getElem?_map->RF,length_cons->RN,range->RO,getElem_mem->RT,mem_append_left->RW,take_length->R1,replicate->R3,map_map->R6,getElem?_append_right->Qp,getElem?_append_left->Qr,length_drop->Qw,any_eq_true->Qx,mem_map_of_mem->Qz,length_pos_iff->QA,lookup_cons->QC,not_mem_nil->QD,append_nil->QI,take_add_one->QK,find?_cons->QP,length_take->QQ,all_eq_true->QR,drop_eq_getElem_cons->QZ,map_dropLast->Q2,nodup_cons->Q4,append_assoc->Q8,take_of_length_le->Q9,drop_eq_nil_of_le->Pa,length_singleton->Pc,mem_flatMap->Pd,mem_of_getElem?->Ph,mem_iff_getElem->Pj,all_eq_false->Pk,replicate_succ->Po,ext_getElem->Pt,mem_range->Pu,length_filter_le->Py,lookup->PD,mem_of_mem_take->PM,map_congr_left->PQ,filter_cons_of_pos->PX,filter_eq_nil_iff->P5,length_replicate->Oa,flatten_cons->Og,length_dropLast->Oq,drop_zero->Ot,mem_of_mem_drop->Ou,flatMap_append->OA,getElem?_take_of_lt->OD,filter_map->OJ,mem_filterMap->OM,filter_append->OQ,prefix_append->OR,filter_cons_of_neg->OV,length_eq_zero_iff->OW,any_eq_false->OZ,reverse_cons->O7,prefix_of_prefix_length_le->Nb,take_append_drop->Nd,drop_length->Nk,all_cons->Nl,any_cons->Nm,length->Np,dropLast_subset->Nu,foldl_cons->Nx,filterMap_cons->NC,length_reverse->NE,map_nil->NH,getLast?_eq_getElem?->N3,extract_eq_drop_take->N4,filter_congr->Mh,sum_cons->Mw,map_reverse->MG,getElem?_cons_succ->ML,getElem?_set_self->MM,length_pos_of_mem->MY,of_mem_zip->M3,nil_append->M4,range_succ->M5,length_nil->M7,dropLast_eq_take->Kf,getElem?_eq_none->Kg,getElem?_set_ne->Kh,zip->Kn,mem_of_getLast?->Kq,take_succ->Ks,getLast?_append->Kt,reverse_append->KJ,zip_cons_cons->Jb,mem_replicate->Jf,foldl_append->Js,toArray->Jw,nodup_append->Jy,getElem_inj->Jz,cons_append->JG,prefix_refl->JL,sum_append->JX,foldl->J7,nodup_nil->Ie,drop_drop->Ig,drop_left->Ih,map_drop->Iv,map_take->Iw
open Nat renaming le_refl->X2,le_add_left->X6,zero_le->X7,le_trans->S5,succ_le_succ->Ra,lt_of_lt_of_le->Rt,ne_of_lt->RE,le_of_lt->RL,le_antisymm->RU,le_of_lt_succ->R5,le_succ_of_le->R9,lt_of_le_of_ne->Qn,not_lt->Qt,succ_pos->Qy,not_lt_zero->QJ,lt_succ_self->Q5,lt_irrefl->Pe,lt_succ_iff_lt_or_eq->Pg,min_eq_left->Pm,le_succ->PF,lt_succ_of_lt->PL,le_add_right->Ov,sub_self->Ox,add_assoc->OG,add_le_add->O8,le_of_eq->NG,not_le->NN,mul_le_mul->NS,min_eq_right->MH,eq_zero_of_le_zero->MX,le_of_ble_eq_true->M9,ble->Ku,lt_of_le_of_lt->KU,zero_add->Jx,ne_of_gt->IH,succ_mul->IK,add_comm->IL,lt_or_ge->IT,pred->I4
open PySem renaming Value->X3,Shared->X9,wpAny_bind->W6,Program->U2,starEach->T2,wpAny_pure->S3,wpAny->Rj,mainGlobals->Rw,World->Rz,wpAny_with_toks->R7,Expr->R8,wpAny_truthy_bool->Qk,sizeLine_eq->Qo,bootBuiltins->Qq,compareOp->Qv,Spec->QB,Around->QG,wpAny_Call_Name_kw->QL,wpAny_passesOwn->QN,backTo->QS,sysModules->QV,strKind->Q6,mem_of_lookup->Pn,rawInt->Pw,keywordEach->PH,bindArgs->PJ,attributeBase->PN,call_meets->P1,binaryOp->P6,wpAny_specialOf->P8,wpAny_call_entry->Ow,behindInMarks->OB,wpAny_holding->OC,wpAny_execs_nil->OI,wpAny_mono->OK,assignEach->OL,typeIs_str->ON,sliceBounds->OT,atKey->OU,wpAny_pyIter_rangeiter->OX,foldedSetIterable->OY,codeAny->O0,backToKw->O2,codeAny_mono->O3,NameKind->O4,isSubtype_tuple_tuple->Nc,wpAny_forIn_list->Nj,wpAny_loadName_local->Nn,wpAny_of_eq->Nt,letOwnedTupleGo->Nv,codeAny_builtin->Nz,meets_str_join_list->NF,wpAny_richCompare_same_room->NI,getMethod->NK,builtinsNs->NO,wpAny_getItem_heap->NT,tupleKind_room_in1->NU,wpAny_setItem_heap->NX,wpAny_tupleItemsOf->NY,standAt->N7,IsRangeIter->N8,wpAny_pyIter_list->N9,Keyword->Mb,slot_list_getitem->Mc,richCompare->Me,wpAny_getItem_list_slice->Mo,wpAny_comprehension_free->Mp,swapsWith->My,noFill_tuple_add->MB,wpAny_isInstance->MF,wpAny_pyNext_list_item->MN,wpAny_pyNext_range_end->MO,Result->MP,BindsTo->MQ,wpAny_Call_method_late->MU,IsTupleKey->MW,wpAny_isTrue_Compare1->Ka,wpAny_pyNext_list_end->Kb,Operator->Ki,callWith->Kj,wpAny_newFunctionEnv->Kk,carriedByValue->Km,wpAny_pyIter_revIter->Kp,tupleKind->Kv,getItem->Ky,callerA->Kz,Builtin->KA,strValues->KC,valueAt->KD,wpAny_loadName_cell->KG,codeAny_forLoop_any->KH,intBits_le_64->KN,wpAny_standAt->KO,seq_tuple_add->KQ,evalPart_none->KR,entryOfKey->K0,wpAny_Name->K1,wpAny_Constant_int->K2,wpAny_call->K4,closureFor->K8,Within->Jh,wpAny_assign_Name->Ji,call_range_1->Jj,concat_meets->Jo,seqIndex_neg->Jq,wpAny_newObj_type->Jr,eqIsQuiet_byValue->Ju,wpAny_execs_cons->JA,wpAny_pyIter_zip->JF,wpAny_Dict_empty->JH,eqIsQuiet->JI,seqIndex_of->JQ,wpAny_field->JT,isTrue->JY,bindL->J2,bindC->J3,typeIs_int->J5,PlainAttrs->J6,call->J8,wpAny_rule->Ib,isInstance->Ic,storeName->Iy,inplaceOp->Iz,PassesOwn->IA,lastMarks->IB,cellsFrom->IE,seqIndex?->IF,pyNext->II,pyIter->IJ,CmpOp->IU
open PySem.Heap renaming get?_push_of_some->W0,lt_size->S6,get?_push_size->Ru,SameBut->Pr,size_push->O1,get?_update_other->MT
open PySem.F renaming plainAttrs_list->U1,slot_list_append->S8,type_list_append->S9,plainAttrs_str->QM,called_set->P4,slot_list_pop->Ob,type_list_pop->Oc,slot_str_join->Od,type_str_join->Oe,slot_range_reversed->Oi,slot_str_startswith->Oj,type_str_startswith->Ol,slot_dict_getitem->Oy,args_tuple_add_2->OE,slot_dict_keyiterator_iter->OP,entry_tuple_add->OS,slot_tuple_add->O5,slot_tuple_hash->O9,slot_tuple_eq->NB,plain_reversed_new->N0,args_str_join_2->Mf,slot_dict_update->Mr,slot_list_extend->Mu,type_list_extend->Mv,entry_str_join->MD,slot_list_clear->MI,type_list_clear->MJ,entry_str_startswith->MV,slot_str_join->M6,slot_str_startswith->Kd,slot_tuple_eq->Ke,slot_int_rmul->JU
open Bool renaming false_ne_true->Rb,and_eq_true->R0,not_eq_true'->QU,false_eq_true->QW,eq_iff_iff->QX,not_true->Pf,false_and->PU,and_false->Op,true_and->OH,not_eq_false->Na,and_true->Ms,not_false->Ko,or_false->Iu,not_not->IQ
open PySem.PassesOwn renaming never->Rn
open Int renaming natCast_nonneg->RC,ofNat_lt->Qs,le_refl->Mi,emod_nonneg->M8,emod_lt_of_pos->Jd,ofNat_le->Jg,toNat_natCast->Jp,ediv_one->IN,zero_add->IS
open Eq renaming symm->RH,trans->Jt
open PySem.Value renaming ref->RS,none->PZ,bool->Om,int->NJ,builtin->Mq,str->Mx,isStrOf->KL,type->KZ,float->JM,isInt->IV,bytes->IY
open Option.some renaming inj->R4
open PySem.Builtin.Range renaming rangeFitsLong->Qu,rangeSize->PV,rangeFields->Im
open PySem.W renaming mg_none_of->QE,findIn->QO,emptyDict->PY,keepIn->P7,kia_one->P9,codeHdIn->OO,instObj->Nf,plainGet->Ng,hasDictIn->No,kla_obj->NL,plainOver->Ma,codeIn->MA,mg_of->MZ,methodCall_KW->M0,tabObj->Kl,makesIn->Kw,plainGet_of->KP,kitOne->Jk,callWith_K->Jn,cellsFrom_some->JC,kia_tup->JK,methodObj->JN,kitx_list->JP,lookIn->J1,takerIn->ID,kla_fn->I5
open PyProof.Rows renaming callWith_type1->QF,envOfC->QH,subscriptTail_builtinR->O6,callWith_builtin1->Nh,envOfC->Nw,AllBare->N6,subscriptTail->Mn,Subscript_->MR,IntsAre->Kx,slot_tuple_getitem->K6,callWith_kw->JR,boot_range->JZ,kws_cons->J9,test_link->IC,IsTup->IZ
open True renaming intro->QT
open PySem.Builtin.Tuple renaming tupleHashOf->QY,tupleItemsOf->Ia
open False renaming elim->Q0
open Sum renaming isLeft->Q1,inl->Pq,inr->N5
open Ne renaming symm->Q3
open Int.ofNat renaming inj->Q7
open PySem.Txt renaming replace->Pb
open PyProof.Rows.F renaming plain_set_update_loop->Pp,entry_set_update_loop->Oz
open PySem.Builtin.Str renaming strSliceIndices->Ps,tooLong->N2,subAt->Md,occurrences->Mz,glued->ME
open PySem.Calls renaming spliced_cons->Px,callWith_builtin->P0,spliced_nil->Of,Name_function_global->Oo,evalArgs_plain->Nq,Constant_str->NP,loadGlobal_builtin->Mj
open PySem.SeqAt.EqAt renaming same->Pz,int_int->NQ,str_str->NR,int_str->KW,str_int->KY,of_refs->Jc
open Array renaming replicate->PB,eq_empty_of_size_eq_zero->Ni,length_toList->ND,forIn_toList->NZ,size_append->Mg,getElem?_replicate->Mt,getElem?_toList->Kc,toList_extract->Kr,toList_append->KI,getD->Je,toList->IG
open PySem.Builtin.List renaming listTooLong->PP
open Option renaming map_eq_some_iff->P2,isSome_map->Oh,map_some->NA,isSome_iff_exists->Mm,toList_some->K9,getD_none->JD,none->I3
open PySem.NameKind renaming free->OF,cell->KS
open PySem.Around renaming under_plainId->Nr,under->Jl
open ForInStep renaming yield->Ny
open PySem.Challenge renaming pw_tonguenest_k23_kinds_all_through->NM
open PySem.SeqAt.RcAt renaming lists->MC
open PySem.Obj renaming mapSeq->MS
open PySem.P renaming truthy_str->K3
open PySem.Heap.IsSliceOf renaming new->K5
open PySem.SeqAt renaming EqAt->K7
open PySem.SeqAt.RcNeAt renaming lists->Ja
open PySem.Code renaming isFrame->Jm,frames->I2
open PySem.StrLaws renaming subAt_one->Jv,joinFits->JE,seqIndex_nonneg->JS
open List.Perm renaming eq_nil->JJ
open PySem.Data renaming fields->JO
open PySem.Builtin.Frozenset renaming updateFrom->JV
open List.cons renaming injEq->JW,inj->Ix
open PySem.EqMixed renaming eq_bool_str->Ii,eq_str_bool->Ij,ne_bool_str->Ik,ne_str_bool->Il,eq_int_str->Io,eq_str_int->Ip,ne_int_str->Iq,ne_str_int->Ir
open PyProof.Rows.KskEnd renaming intro->IM
open Nat.succ renaming inj->IP
open Sum.inl renaming inj->IW
open Sum.inr renaming inj->IX
open PySem.Walks renaming range->I0
open PySem.IsRange renaming new->I1
open PySem.W.WShape renaming has->I6
open List.Pairwise renaming nil->I7
-- CHANGE: your row's module here,as the last of these rows
theorem J.{u}{a:Sort u}{b:a}:b=b:=rfl
theorem Qxa{c:Prop}{h:Decidable c}(g:¬c){A:Sort u}{t e:A}:ite c t e=e:=if_neg g
theorem Qxb{c:Prop}{h:Decidable c}(g:c){A:Sort u}{t e:A}:ite c t e=t:=if_pos g
theorem Qxc{p:Prop}[i:Decidable p](h:decide p=true):p:=of_decide_eq_true h
theorem Qxd{p:Prop}[i:Decidable p](h:p):decide p=true:=_root_.decide_eq_true h
noncomputable section
local macro_rules|`(tactic|lia)=>`(tactic|decide +kernel)
namespace L2
open PySem PySem.Spec PyProof.Rows
variable {a b c d e f i n t':Nat}{p:Prop}{G u:X3}{P:U2}{w:Rz}{base h:Heap}{ch fp:List Addr}{C dx it:Addr}{N ps:List Str}{E Q:X3->X9->Prop}{A:QG}{s:X9}{Δ:List (Addr×Obj)}{op:IU}{K:W.Frag}{B:List (Str×X3)}{es:List R8}{l tg:R8}{j lo:Int}{us:List X3}{mA mg:Str->Option X3}{fd:FuncData}{outer:List Env}{scope:Scope}
theorem zC(h:a<=b)(k:Ku b c=true:=by rfl):a<=c:=S5 h (M9 k)
theorem vJ(h:a<=b)(k:Ku (b+1) c=true:=by rfl):a<c:=KU h (M9 k)
theorem ww(e:a=b)(h:b<=c)(k:Ku c d=true:=by rfl):a<=d:=e ▸ zC h k
theorem pW(e:a=b)(h:b<=c)(k:Ku (c+1) d=true:=by rfl):a<d:=e ▸ vJ h k
theorem br(h:a<b)(k:b<=c):a<=c:=RL (Rt h k)
theorem bt(h:a<b)(k:b<=c)(g:Ku c d=true:=by rfl):a<=d:=zC (br h k) g
theorem ll(h:a<=b)(k:b<=c)(g:Ku c d=true:=by rfl):a<=d:=zC (S5 h k) g
theorem pX(h:a<=b)(k:b<=c)(m:c<=d)(g:Ku d e=true:=by rfl):a<=e:=zC (S5 h (S5 k m)) g
theorem wN(h:0<n):n-1<n:=Nat.sub_lt h Nat.one_pos
theorem rL(h:0<b)(k:a=b):a-1<a:=wN (k ▸ h)
theorem uo(h:a<=b):(a:Int)<=b:=Jg.2 h
theorem wx(h:a<b):(a:Int)<b:=Qs.2 h
theorem zU(h:a<=b)(k:c=b):a<=c:=k ▸ h
theorem xq(k:a=c)(h:c<=b):a<=b:=k ▸ h
theorem rM(h:a<a):p:=absurd h (Pe a)
theorem iK(h:a<b)(k:b<=a):p:=absurd k (NN.2 h)
theorem lm{a:Int}(h:0<=a)(k:a<b):a.toNat<b:=by omega
theorem bu{a:Int}(h:0<=a):(a.toNat:Int)=a:=Int.toNat_of_nonneg h
theorem sK{a:Int}(h:0<=a):a=(a.toNat:Int):=(bu h).symm
theorem pY(h:a+1=n):0<n:=h ▸ Qy a
theorem sL:(-1+(a:Int)).toNat=a-1:=by grind
theorem vK(B:a<b):b-(a+1)<b-a:=by grind
theorem lq{a:Int}:max 0 (min a (b:Int))=((min a.toNat b:Nat):Int):=by grind
theorem lr:a-(a-1)<=1:=by omega
theorem iL(B:a<=b):min a b=a:=by grind
theorem lu{c:Int}(B:a<b)(h1:1<=c):b-((a:Int)+c).toNat<b-(a:Int).toNat:=by omega
theorem iM(B:a-b<=c+1)(h1:1<=d):a-(b+d)<=c:=by omega
theorem lv(B:a-1<a):a-1+1=a:=by grind
theorem iN(B:a<b):b-a=b-a-1+1:=by grind
theorem iO{d:Int}(B:a-b<=c+1)(h1:1<=d.toNat):a-(b+d.toNat)<=c:=by omega
theorem lw{a:Int}(B:a<0):max 0 (min (a+(b:Int)) (b:Int))=((a+(b:Int)).toNat:Int):=by grind
theorem iP:0<1+(a:Int):=by grind
theorem bv(B:a<=b)(h1:b<=c):min a c=a:=by grind
theorem bw:¬(a:Int)<0:=by grind
theorem iQ(B:a=1+b):1<=a:=by grind
theorem bz(B:a<=20000):a-b<=20000:=by omega
theorem bA{c:Int}(B:a<b)(h1:(a:Int)+c=(d:Int))(h2:1<=c):b-(d:Int).toNat<b-(a:Int).toNat:=by omega
theorem lx{a:Int}(B:1<=a):(b:Int)+a=((b+a.toNat:Nat):Int):=by grind
theorem ly(B:a+16*0+200<b):a+6<b:=by grind
theorem iR{a:Int}(B:1<=a):((b+a.toNat:Nat):Int)=(b:Int)+a:=by omega
theorem bB{g:Nat}(B:a<=2000)(h1:b<=a)(h2:c<=b)(D:c=d)(F:e<=d-f):g+e<=g+2000:=by grind
theorem bC{d:Int}(B:a-b=c)(h1:1<=d.toNat)(h2:b+d.toNat<=a):a-(b+d.toNat)<c:=by grind
theorem iS{a:Int}(B:a<=6)(h1:(b:Int)<a):1+(b:Int)<1000000:=by omega
theorem iT(B:a<=b):a-1<=b+1:=by omega
theorem iU(B:a=1+b)(h1:c<1+b)(h2:d=a):c<d:=by grind
theorem bD:(0:Int)+(a:Int)=(a:Int):=by grind
theorem lz{c:Int}(B:a<=b)(h1:c<(a:Int))(h2:b<2^63):c<2^63:=by grind
theorem lA{c:Int}(B:a<=b)(h1:-(a:Int)<=c)(h2:b<2^63):-2^63<=c:=by omega
theorem iV:a+1+b+1=a+(b+1)+1:=by grind
theorem bE(B:a=b):a+1=b+1:=by grind
theorem bF(B:a<b):(b:Int)-1-(a:Int)=((b-1-a:Nat):Int):=by grind
theorem pZ(B:a=b)(h1:c=d)(h2:a=e)(D:c=e):b=d:=by grind
theorem lC(B:a<=b)(h1:¬(a:Int)<(b:Int)):a=b:=by grind
theorem bG(B:a=b)(h1:a=c)(h2:d<b):d<c:=by omega
theorem iW(B:a<0):b<c:=by omega
theorem oe{a:Int}(B:0<a):a≠0:=by grind
theorem bH(B:¬a<b):b-a=0:=by omega
theorem iX{a:Int}(B:(a.toNat:Int)=a):(b:Int)+a=((b+a.toNat:Nat):Int):=by grind
theorem bI{d:Int}(B:a<b)(h1:a<c)(h2:(a:Int)+d=(c:Int)):b-((a:Int)+d).toNat<b-(a:Int).toNat:=by omega
theorem iY(B:a=b+1):b<a:=by omega
theorem iZ(B:a+3*(b+1)+5<c):a+1+3*b+5<c:=by grind
theorem lD(B:a+b<=c)(h1:a=d)(h2:b=e):d+e<=c:=by grind
theorem bJ(B:1<=a):b+a-b=a-1+1:=by grind
theorem bK:(a:Int)=(b:Int)↔a=b:=by grind
theorem bL(B:a<=6):b-(b-1)+a<=7:=by omega
theorem i0(B:a+16*(b+1)+200<c):a+1+16*b+200<c:=by grind
theorem bM(B:a<=6):b-(b-1)+a<64:=by omega
theorem bN(B:a-b=c)(h1:b+d<=a)(h2:1<=d):a-(b+d)<c:=by grind
theorem i6(B:a<b)(h1:c=d+b+e):d+a<c:=by grind
theorem bO:min (min a b-0) c<=a:=by grind
theorem bP:0<3*(1+(a:Int)):=by grind
theorem bQ(B:¬a+b<=c):c<=a+b:=by grind
theorem bR{g:Nat}(B:a+2000<1000000)(h1:b<=2000)(h2:c<=d)(D:c=e)(F:d<b)(G:f<=e-g):a+f<1000000:=by grind
theorem rN{a:Int}(B:¬0<=a):a<0:=by omega
theorem lE(B:¬a<=b):b<=a:=by omega
theorem bS(B:(a:Int)-1-(b:Int)=((a-1-b:Nat):Int)):b+1<=a:=by omega
theorem lo75{a:Int}(B:0<=a)(h1:a<7):a=0∨a=1∨a=2∨a=3∨a=4∨a=5∨a=6:=by grind
theorem i7(B:a<=b)(h1:b<2^63):¬(a:Int)≥2^63:=by grind
theorem i8(B:a<=20000)(h1:100000<=b)(h2:c<=a)(D:d=c):d<b:=by grind
theorem bT(B:a<b)(h1:b<=c):((c:Int)-(b:Int)).toNat<((c:Int)-(a:Int)).toNat:=by omega
theorem bU:min (a-b) (c-b)<=c:=by grind
theorem bV(B:a=1+b)(h1:(c:Int)<1+(b:Int)):(c:Int)<(a:Int):=by grind
theorem og(B:a+b<=20000):b<=20000:=by grind
theorem lF(B:a+4<b):a+1<b:=by grind
theorem bW(B:a<=b)(h1:c=b-a):a+c=b:=by grind
theorem bX(B:a<=15)(h1:b<=0+a):b<=16777216:=by grind
theorem bY(B:((a+1:Nat):Int)-1+(b:Int)*-1=((a-b:Nat):Int)):a+1-b=a-b+1:=by grind
theorem bZ(B:a<b)(h1:c=b-a-1):b-a=c+1:=by grind
theorem b0(B:a=b):min (c-d) (a-d)<=b:=by omega
theorem aa(B:a=min b c):a<=c:=by grind
theorem ab(B:a<b+1):((b+1:Nat):Int)-1+(a:Int)*-1=((b-a:Nat):Int):=by grind
theorem ac(B:(a:Int)-1-(b:Int)=((a-1-b:Nat):Int)):((a-1-b:Nat):Int)-1=(a:Int)-1-((b+1:Nat):Int):=by grind
theorem lG(B:a+4<b):a<b:=by omega
theorem ae(B:((a+1:Nat):Int)-1+(b:Int)*-1=((a-b:Nat):Int)):a-(a-b)=b:=by omega
theorem af:((a:Int)-(b:Int)+1-1).toNat=a-b:=by grind
theorem ag(B:a=b)(h1:a=c)(h2:d<c):d<b:=by grind
theorem ah(B:a<=20000)(h1:b=16777216)(h2:c<=a+1)(D:d<=a+1):c+d<=b:=by grind
theorem i9(B:0<a)(h1:0=a):False:=by grind
theorem ai{a:Int}(B:1<=a.toNat)(h1:(b:Int)+a=(c:Int)):b+1<=c:=by grind
theorem aj{a:Int}(B:a<=6)(h1:(b:Int)<a)(h2:c=1+b)(D:d=c):d<=7:=by grind
theorem ak{a:Int}(B:1<=a.toNat)(h1:b-c=d+1):b-(c+a.toNat)<=d:=by omega
theorem al(B:a=b+c+0):b+d+1=a↔d+1=c:=by grind
theorem am(B:100000<=a)(h1:b<=2000)(h2:c<=d)(D:c=e)(F:d<b)(G:f=e+1):f<a:=by grind
theorem ao(B:100000<=a)(h1:b<=2000)(h2:c<=d)(D:d<b)(F:e=c):e<a:=by grind
theorem ap:a<=a-1+1:=by omega
theorem aq(B:a<=b)(h1:min (min (a+c) b-min a b) (d-min a b)=c):a+c<=b:=by grind
theorem ar{a b d:Int}(B:a+b<=(c:Int)):a+b<=((c+d.toNat:Nat):Int):=by grind
theorem hG(B:a<b)(h1:b-1-a=c):c<b:=by omega
theorem au(B:a<=6)(h1:b<=1)(h2:c=b+min d a):c<=10:=by grind
theorem av(B:a<=6):a+1<4096:=by grind
theorem aw{a:Int}(B:a<=6)(h1:(b:Int)<a):3*(1+(b:Int))<1000000:=by grind
theorem ax{a:Int}(B:a<=6)(h1:(b:Int)<a)(h2:c=1+b):c<=6:=by grind
theorem az(B:a-1<b)(h1:¬b=a):a<b:=by omega
theorem aA(B:a<=b)(h1:c<=a):c-1<=b:=by grind
theorem hJ{a:Int}(B:0<a):0<=a:=by omega
theorem aB(B:a<=b)(h1:a-c=b)(h2:¬d=0)(D:b=d):c=0:=by grind
theorem aC(B:a=16777216)(h1:b<=100)(h2:c<b)(D:d<=100*20000)(F:e<=d+c):e<a:=by grind
theorem aE:((a:Int)+1*(b:Int)).toNat=a+b:=by grind
theorem aF:a+1-(b+1)=a-b:=by grind
theorem aG(B:a-b=c+1)(h1:1<=d):a-(b+d)<=c:=by omega
theorem aH{b:Int}:(a:Int)+b<=((a+b.toNat:Nat):Int):=by grind
theorem hX(B:0<a)(h1:b=a):-(b:Int)<=-1:=by grind
theorem aI(B:a=b)(h1:b=c+1):a-1=c:=by grind
theorem aJ{a:Int}(B:a<=6)(h1:(b:Int)<a)(h2:(c:Int)<3*(1+(b:Int))):2+(c:Int)<2^62:=by omega
theorem aK(B:100000<=a)(h1:b<=6)(h2:c+d<=68*min e b):2+d+3<=a:=by grind
theorem aL(B:a<b):(b:Int)-1=((b-1:Nat):Int):=by grind
theorem aM(B:a<min b c):a<c:=by grind
theorem oh(B:a=b)(h1:b<a):False:=by grind
theorem aP(B:a<b)(h1:c=b-a-1):c<b:=by grind
theorem aQ(B:a<=100000):¬(a:Int)≥2^63:=by grind
theorem aS:min 1 a<=1:=by grind
theorem aT(B:a<=b):a-1<=b:=by omega
theorem aU(B:a<=1000)(h1:b=a)(h2:c<=b)(D:d=c):d<=1000:=by grind
theorem aV:0+a+1=a+1:=by grind
theorem aW(B:1<=a):b+1<=b+a:=by grind
theorem hZ(B:a<=b):(a:Int)-(b:Int)<=0:=by grind
theorem aX(B:a=b-c-1):b-1-c=a:=by grind
theorem aY(B:a<1000000)(h1:1000002<=b)(h2:c=a):c+1<b:=by grind
theorem aZ(B:a<=20000)(h1:a-b=c):c<=20000:=by omega
theorem Za(B:1<=a)(h1:b+a<=c):b+1<=c:=by grind
theorem Zb(B:a<=6)(h1:1000<=b)(h2:c<a)(D:d<=6)(F:e<d)(G:f<=1+6*c+e):f<b:=by grind
theorem Zc(B:a<b)(h1:a=c):c<b:=by grind
theorem Zd(B:a<=20000)(h1:100000<=b)(h2:c<=a)(D:d<=c):d<b:=by grind
theorem Ze{a:Int}(B:1<=a)(h1:b<=c):b+1<=c+a.toNat:=by grind
theorem Zf(B:a=b)(h1:0<b):((a-1:Nat):Int)=(b:Int)-1:=by grind
theorem Zg(B:a-b=c+1):b<a:=by omega
theorem Zh(B:a<=3)(h1:b=1+a):b<=4:=by grind
theorem Zi(B:((a:Int)+(b:Int)+1)/2=(c:Int))(h1:a<c):(((c-1:Nat):Int)-(a:Int)).toNat<((b:Int)-(a:Int)).toNat:=by grind
theorem Zj(B:a<=4*b)(h1:c<=4)(h2:d<=c):a+d<=4*(b+1):=by grind
theorem Zk(B:a+1<b)(h1:c<=min d a):c+1<b:=by grind
theorem Zl(B:a<=4):(a:Int)<1000000:=by omega
theorem Zm(B:((a+2:Nat):Int)<2):False:=by grind
theorem Zn(B:(a:Int)<(b:Int))(h1:c<=4*a):c<=4*b:=by grind
theorem Zo{c:Int}(B:(a:Int)=(b:Int)+c)(h1:1<=c)(h2:d<b):d<a:=by omega
noncomputable abbrev zr:=Sum Int Str
noncomputable def tG:zr->X3->Bool
 |.inl k,v=>IV k v
 |.inr x,v=>KL x v
noncomputable def Zp(w:Rz):zr->Int
 |.inl k=>hashInt k
 |.inr x=>hashStr w x
theorem vL:∀ {k:zr}{v:X3},tG k v=true->(∃i t,k=Pq i/\v=NJ i t)∨(∃x t,k=N5 x/\v=Mx x t)
 |.inl i,v,h=>by
  obtain⟨t,e⟩:=X3.isInt_shape (k:=i) (v:=v) h;exact .inl ⟨i,t,J,e⟩
 |.inr x,v,h=>by
  obtain⟨t,e⟩:=X3.isStrOf_shape (x:=x) (v:=v) h;exact .inr ⟨x,t,J,e⟩
theorem Zq(i:Int)(t:Tok):tG (.inl i) (.int i t)=true:=by simp[tG,IV]
theorem Zr(x:Str)(t:Tok):tG (.inr x) (.str x t)=true:=by simp[tG,KL]
theorem Zs(a b:Int):decide ((Pq a:zr)=Pq b)=(a==b):=by
 by_cases e:a=b
 .subst e;simp
 .have h:¬(Pq a:zr)=Pq b:=λq=>e (IW q);rw[decide_eq_false h];exact(beq_eq_false_iff_ne.mpr e).symm
theorem Zt(a b:Str):decide ((N5 a:zr)=N5 b)=decide (a=b):=by
 by_cases e:a=b
 .subst e;simp
 .have h:¬(N5 a:zr)=N5 b:=λq=>e (IX q);rw[decide_eq_false h,decide_eq_false e]
theorem Zu(a:Int)(b:Str):decide ((Pq a:zr)=N5 b)=false:=decide_eq_false (λq=>nomatch q)
theorem Zv(a:Str)(b:Int):decide ((N5 a:zr)=Pq b)=false:=decide_eq_false (λq=>nomatch q)
noncomputable def yv(prog:U2)(w:Rz):PySem.KeyKind prog w zr where
 is:=tG
 hash:=Zp w
 inj:=λv a b G F=>by
  rcases vL G with⟨i,t,rfl,rfl⟩|⟨x,t,rfl,rfl⟩
  .rcases vL F with⟨j,u,rfl,e⟩|⟨y,u,rfl,e⟩
   .injection e with B _;rw[B]
   .exact nomatch e
  .rcases vL F with⟨j,u,rfl,e⟩|⟨y,u,rfl,e⟩
   .exact nomatch e
   .injection e with B _;rw[B]
 byValue:=λk v h=>by
  rcases vL h with⟨i,t,rfl,rfl⟩|⟨x,t,rfl,rfl⟩<;>rfl
 pyHash:=λD h=>by
  rcases vL D with⟨i,t,rfl,rfl⟩|⟨x,t,rfl,rfl⟩
  .exact wpAny_pyHash_int h
  .exact wpAny_pyHash_str h
 eqBool:=λI D h=>by
  rcases vL I with⟨i,t,rfl,rfl⟩|⟨x,t,rfl,rfl⟩
  .rcases vL D with⟨j,u,rfl,rfl⟩|⟨y,u,rfl,rfl⟩
   .rw[Zs] at h;exact wpAny_eqBool_int h
   .rw[Zu] at h;exact KW i t y u _ _ _ _ h
  .rcases vL D with⟨j,u,rfl,rfl⟩|⟨y,u,rfl,rfl⟩
   .rw[Zv] at h;exact KY x t j u _ _ _ _ h
   .rw[Zt] at h;exact wpAny_eqBool_str h
 «strs»:=λk x t v h=>by
  rcases vL h with⟨i,u,rfl,e⟩|⟨y,u,rfl,e⟩
  .exact nomatch e
  .injection e with B _;subst B;cases v<;>rfl
theorem Zw(prog:U2)(w:Rz)(i:Int)(t:Tok):(yv prog w).is (.inl i) (.int i t)=true:=Zq i t
theorem Zx(prog:U2)(w:Rz)(x:Str)(t:Tok):(yv prog w).is (.inr x) (.str x t)=true:=Zr x t
inductive V where
 |non|bl (b:Bool)|int (i:Int)|str (x:Str)|byt (b:Array UInt8)|flt (b:UInt64)|ref (a:Addr)|ty (n:String)
 deriving DecidableEq
variable {v y:V}{vs xs:List V}
noncomputable def RelV:V->X3->Prop
 |.non,u=>u=PZ
 |.bl b,u=>u=Om b
 |.int i,u=>∃t,u=NJ i t
 |.str x,u=>∃t,u=Mx x t
 |.byt b,u=>∃t,u=IY b t
 |.flt b,u=>∃t,u=JM b t
 |.ref a,u=>u=RS a
 |.ty n,u=>u=KZ n
noncomputable abbrev Af:List V->List X3->Prop:=Paired RelV
theorem Af.length{xs:List V}{us:List X3}(r:Af xs us):xs.length=us.length:=Paired.length r
theorem Af.get:∀ {xs:List V}{us:List X3}{i:Nat}{x:V},Af xs us->xs[i]?=some x->∃u,us[i]?=some u/\RelV x u
 |_,_,_,_,.nil,e=>by simp at e
 |_,_,0,_,.cons r _,e=>by simp at e;subst e;exact⟨_,J,r⟩
 |_,_,i+1,x,.cons _ t,e=>by
  obtain⟨u,h1,h2⟩:=Af.get (i:=i) (x:=x) t (by simpa using e);exact⟨u,by simpa using h1,h2⟩
theorem Af.set{x:V}{u:X3}(r:RelV x u):∀ {xs:List V}{us:List X3}(i:Nat),Af xs us->Af (xs.set i x) (us.set i u)
 |_,_,_,.nil=>.nil
 |_,_,0,.cons _ t=>.cons r t
 |_,_,i+1,.cons q t=>.cons q (Af.set r i t)
theorem Af.append:∀ {xs ys:List V}{us B:List X3},Af xs us->Af ys B->Af (xs++ys) (us++B)
 |_,_,_,_,.nil,s=>s
 |_,_,_,_,.cons r t,s=>.cons r (Af.append t s)
theorem Af.take:∀ {xs:List V}{us:List X3}(n:Nat),Af xs us->Af (xs.take n) (us.take n)
 |_,_,0,_=>.nil
 |_,_,_+1,.nil=>.nil
 |_,_,n+1,.cons r t=>.cons r (Af.take n t)
theorem Af.drop:∀ {xs:List V}{us:List X3}(n:Nat),Af xs us->Af (xs.drop n) (us.drop n)
 |_,_,0,r=>r
 |_,_,_+1,.nil=>.nil
 |_,_,n+1,.cons _ t=>Af.drop n t
noncomputable def AB:Option V->Option X3->Prop
 |some v,some u=>RelV v u
 |none,none=>True
 |_,_=>False
noncomputable def KV{κ:Type}:List (κ×V)->List (κ×X3)->Prop:=Paired λ(p:κ×V) (q:κ×X3)=>p.1=q.1/\RelV p.2 q.2
noncomputable def kV:zr->V
 |.inl i=>.int i
 |.inr x=>.str x
inductive HO where
 /-- a list -/
 |lst (xs:List V)
 /-- a tuple (never changes) -/
 |tup (xs:List V)
 /-- a dict whose keys are ints and texts;one whose keys are tuples of ints and texts (the empty one is both) -/
 |dK (a':List (zr×V))|dT (a':List (List zr×V))
 /-- a set of ints: its members,its size -/
 |set (S:Int->Bool) (n:Nat)
 /-- an instance of the class at C,its dict at dx,its attributes -/
 |ins (C dx:Addr) (fs:List (Str×V))
 /-- the dict of the instance at x -/
 |own (x:Addr)
 /-- the dict of an exception -/
 |xd (fs:List (Str×V))
 /-- a bound method,f of x -/
 |met (f x:Addr)
 /-- a range object lo,lo+1,.. below hi -/
 |rng (lo hi:Int)
 /-- a thing that is known to the object (the script;a dict while a loop walks it): read,never written while it is so -/
 |frz (o:Obj) (u:HO)
 /-- a code object's table -/
 |tbl (ps:Array X3)
 /-- any other thing,by what is true of its one object (a def of one's own: SetO a S n:=HO.ext λh=>..) -/
 |ext (φ:Heap->Prop)
noncomputable abbrev Hp:=Addr->Option HO
variable {H:Hp}{o:HO}
noncomputable def c'(H:Hp)(a:Addr)(o:HO):Hp:=λb=>if b=a then some o else H b
theorem zd{a:Addr}:c' H a o a=some o:=by unfold c';rw[Qxb rfl]
theorem zh{a b:Addr}(h:b≠a):c' H a o b=H b:=by unfold c';rw[Qxa h]
theorem zj{a b:Addr}{u:HO}(h:H a=some o)(h':H b=some u)(d:o≠u:=by intro c;cases c):a≠b:=by
 intro e;subst e;rw[h] at h';exact d (R4 h')
theorem zi{a b:Addr}(h:H a=some o)(h':H b=none):a≠b:=by
 intro e;subst e;rw[h] at h';cases h'
section
variable (P:U2)(w:Rz)
noncomputable def Al(H:Hp)(h:Heap)(a:Addr):HO->Prop
 |.lst xs=>xs.length<=sizeLine/\∃(its:List X3) (n:Nat),Af xs its/\h.get? a=some { cls:=.type "list",data:=.seq its.toArray n }
 |.tup xs=>xs.length<=sizeLine/\∃its:List X3,Af xs its/\IZ h a its.toArray
 |.dK a'=>a'.length<=sizeLine/\(a==QV)=false/\∃vs,KV a' vs/\h.DictOf (yv P w) a vs
 |.dT a'=>a'.length<=sizeLine/\(a==QV)=false/\∃xs:List (List zr×Addr×X3),
   Paired (λ(p:List zr×V) (q:List zr×Addr×X3)=>p.1=q.1/\H q.2.1=some (.tup (p.1.map kV))/\RelV p.2 q.2.2) a' xs /\
   ∃o es ep,h.get? a=some o/\o.ExactDict/\o.data=.dict es ep/\es.toList=xs.map (K0 (Kv (yv P w)))/\(xs.map (·.1)).Nodup
 |.set S n=>h.SetOf (intKind P w) a S n
 |.ins C dx fs=>H dx=some (.own a)/\fs.length<=1000/\dx≠a/\h.get? a=some (Nf C dx) /\
   ∃mA,h.Ns1 dx mA/\(∀f,AB (fs.lookup f) (mA f))/\Jh mA (fs.map (·.1))
 |.own _=>∃o,h.get? a=some o
 |.xd fs=>∃mA,h.Ns1 a mA/\∀f,AB (fs.lookup f) (mA f)
 |.rng lo hi=>∃t u v,h.get? a=some { cls:=.type "range",data:=.fields #[.int lo t,.int hi u,.int 1 v] }
 |.frz o u=>h.get? a=some o/\Al H h a u
 |.tbl ps=>h.get? a=some { cls:=.none,data:=.fields ps }
 |.met f x=>h.get? a=some (JN (.ref f) (.ref x))
 |.ext B=>B h/\(∃o,h.get? a=some o)/\∀h1 h2:Heap,B h1->(∀o,h1.get? a=some o->h2.get? a=some o)->B h2
noncomputable def AJ(H:Hp)(h:Heap):Prop:=∀a o,H a=some o->Al P w H h a o
end
variable {H':Hp}{h':Heap}
section
variable {a:Addr}
theorem Al.lt(x:Al P w H h a o):a<h.objs.size:=by
 cases o with
 |lst xs=>obtain⟨_,_,_,_,e⟩:=x;exact S6 e
 |tup xs=>obtain⟨_,_,_,p⟩:=x;exact p.lt
 |dK a'=>obtain⟨_,_,_,_,o,_,_,e,_⟩:=x;exact S6 e
 |dT a'=>obtain⟨_,_,_,_,o,_,_,e,_⟩:=x;exact S6 e
 |set S n=>obtain⟨o,_,_,_,e,_⟩:=x;exact S6 e
 |ins C dx fs=>obtain⟨_,_,_,e,_⟩:=x;exact S6 e
 |own y=>obtain⟨_,e⟩:=x;exact S6 e
 |xd fs=>obtain⟨_,⟨_,_,_,e,_⟩,_⟩:=x;exact S6 e
 |rng lo hi=>obtain⟨_,_,_,e⟩:=x;exact S6 e
 |frz B u=>obtain⟨e,_⟩:=x;exact S6 e
 |tbl ps=>exact S6 (show h.get? a=some _ from x)
 |met f y=>exact S6 (show h.get? a=some _ from x)
 |ext D=>obtain⟨_,⟨_,e⟩,_⟩:=x;exact S6 e
theorem Paired.mapP{B D:Type}{F G:B->D->Prop}:∀ {I:List B}{J0:List D},Paired F I J0->(∀a b,F a b->G a b)->Paired G I J0
 |_,_,.nil,_=>.nil
 |_,_,.cons r t,f=>.cons (f _ _ r) (Paired.mapP t f)
theorem Al.stay(x:Al P w H h a o)(k:∀b u,(b=a∨H b=some (.own a))->h.get? b=some u->h'.get? b=some u)(D:∀b,H b=some (.own a)->H' b=some (.own a))(ht:∀b xs,H b=some (.tup xs)->H' b=some (.tup xs)):Al P w H' h' a o:=by
 induction o with
 |lst xs=>obtain⟨z,its,n,r,e⟩:=x;exact⟨z,its,n,r,k _ _ (.inl J) e⟩
 |tup xs=>obtain⟨z,its,r,B,e,c⟩:=x;exact⟨z,its,r,B,k _ _ (.inl J) e,c⟩
 |dK a'=>obtain⟨z,y,vs,r,B,es,ep,e,c⟩:=x;exact⟨z,y,vs,r,B,es,ep,k _ _ (.inl J) e,c⟩
 |dT a'=>
  obtain⟨z,y,xs,r,B,es,ep,e,c⟩:=x;exact⟨z,y,xs,Paired.mapP r λp q z=>⟨z.1,ht _ _ z.2.1,z.2.2⟩,B,es,ep,k _ _ (.inl J) e,c⟩
 |set S n=>obtain⟨B,es,ep,t,e,c⟩:=x;exact⟨B,es,ep,t,k _ _ (.inl J) e,c⟩
 |ins C dx fs=>
  obtain⟨d,z,F,e,mA,⟨od,es,ep,G,c⟩,r⟩:=x;exact⟨D _ d,z,F,k _ _ (.inl J) e,mA,⟨od,es,ep,k _ _ (.inr d) G,c⟩,r⟩
 |own y=>obtain⟨B,e⟩:=x;exact⟨B,k _ _ (.inl J) e⟩
 |xd fs=>obtain⟨mA,⟨od,es,ep,e,c⟩,r⟩:=x;exact⟨mA,⟨od,es,ep,k _ _ (.inl J) e,c⟩,r⟩
 |rng lo hi=>obtain⟨t,u,v,e⟩:=x;exact⟨t,u,v,k _ _ (.inl J) e⟩
 |frz B u I=>obtain⟨e,q⟩:=x;exact⟨k _ _ (.inl J) e,I q⟩
 |tbl ps=>
  have e:h.get? a=some { cls:=.none,data:=.fields ps }:=x;show h'.get? a=some { cls:=.none,data:=.fields ps };exact k a _ (.inl J) e
 |met f y=>
  have e:h.get? a=some (JN (.ref f) (.ref y)):=x;show h'.get? a=some (JN (.ref f) (.ref y));exact k a _ (.inl J) e
 |ext J0=>obtain⟨p,⟨o,e⟩,st⟩:=x;exact⟨st _ _ p λo q=>k _ _ (.inl J) q,⟨o,k _ _ (.inl J) e⟩,st⟩
theorem AJ.lt(x:AJ P w H h)(e:H a=some o):a<h.objs.size:=(x a o e).lt
theorem AJ.fresh(x:AJ P w H h)(e:h.objs.size<=a):H a=none:=by
 cases q:H a with
 |none=>rfl
 |some u=>exact absurd (Rt (x.lt q) e) (Pe _)
theorem AJ.kept(x:AJ P w H h)(k:∀b u,h.get? b=some u->h'.get? b=some u):AJ P w H h':=λa o e=>
 (x a o e).stay (λb u _ q=>k b u q) (λ_ q=>q) λ_ _ q=>q
theorem AJ.laid(x:AJ P w H h)(k:∀b u,h.get? b=some u->h'.get? b=some u)(F:h.objs.size<=a)(G:Al P w (c' H a o) h' a o):AJ P w (c' H a o) h':=λb u e=>by
 have B:=x.fresh F;by_cases D:b=a
 .subst D;rw[zd] at e;cases e;exact G
 .rw[zh D] at e;exact(x b u e).stay (λc v _ q=>k c v q) (λc q=>by rw[zh (zi q B)];exact q) λc xs q=>by rw[zh (zi q B)];exact q
end
noncomputable def Rd(H:Hp)(a:Addr)(u:HO):Prop:=H a=some u∨∃o,H a=some (.frz o u)
theorem Rd.ok{a:Addr}{u:HO}(r:Rd H a u)(x:AJ P w H h):Al P w H h a u:=by
 rcases r with r|⟨o,r⟩
 .exact x a u r
 .obtain⟨_,q⟩:=x a _ r;exact q
noncomputable def rO:Option HO->Prop
 |some (.lst _)=>True
 |some (.dK _)=>True
 |some (.dT _)=>True
 |some (.set _ _)=>True
 |some (.ins _ _ _)=>True
 |some (.ext _)=>True
 |_=>False
variable {x:Addr}
section
variable {e:Addr}{o':HO}
theorem AJ.write(J0:AJ P w H h)(B:rO (H x))(G:e=x∨H e=some (.own x))(k:∀b u,b≠e->h.get? b=some u->h'.get? b=some u)(L:∃u,h'.get? e=some u)(M:Al P w (c' H x o') h' x o'):AJ P w (c' H x o') h':=λb u q=>by
 have I:∀c y,H c=some (.own y)->c≠x:=λc y r z=>by subst z;rw[r] at B;exact B
 have O:∀c xs,H c=some (.tup xs)->c≠x:=λc xs r z=>by subst z;rw[r] at B;exact B
 by_cases D:b=x
 .subst D;rw[zd] at q;cases q;exact M
 .rw[zh D] at q;by_cases F:b=e
  .have q':H b=some (.own x):=by
    rcases G with z|z
    .exact absurd (F.trans z) D
    .rw[F];exact z
   rw[q] at q';cases q';obtain⟨v,R⟩:=L;exact⟨v,by rw[F];exact R⟩
  .refine(J0 b u q).stay (λc v hc r=>k c v ?_ r) (λc r=>by rw[zh (I c b r)];exact r) λc xs r=>by rw[zh (O c xs r)];exact r
   rcases hc with rfl|hc
   .exact F
   .rintro rfl;rcases G with z|z
    .exact I c b hc z
    .rw[hc] at z;cases z;exact D rfl
end
structure Un(fs ex:List Addr)(H H':Hp)(h h':Heap):Prop where
 keep:∀b o,h.get? b=some o->H b=none->b∉fs->b∉ex->h'.get? b=some o
 slot:∀b o,h.get? b=some o->H b=none->b∈fs->b∉ex->∃sl,h'.get? b=some { o with slots:=sl }
 free:∀b o,h.get? b=some o->H b=none->b∉ex->H' b=none
 there:∀b o,h.get? b=some o->b∉ex->∃o',h'.get? b=some o'
 tups:∀b xs,H b=some (.tup xs)->H' b=some (.tup xs)
 frzs:∀b o u,H b=some (.frz o u)->H' b=some (.frz o u)
 tbls:∀b ps,H b=some (.tbl ps)->∃more,H' b=some (.tbl (ps++more))
section
variable {fs hz ex ex':List Addr}{H1 H2:Hp}{h1 h2:Heap}{a e:Addr}
theorem Un.any(u:Un fs ex H H1 h h1){b:Addr}{B:Obj}(q:h.get? b=some B)(n:H b=none)(D:b∉ex):∃G,h1.get? b=some { B with slots:=G }:=by
 by_cases F:b∈fs
 .exact u.slot b B q n F D
 .exact⟨B.slots,u.keep b B q n F D⟩
theorem Un.kept(k:∀b u,h.get? b=some u->h'.get? b=some u):Un fs ex H H h h':=
 ⟨λb B q _ _ _=>k b B q,λb B q _ _ _=>⟨B.slots,k b B q⟩,λ_ _ _ n _=>n,λb B q _=>⟨B,k b B q⟩,λ_ _ q=>q,λ_ _ _ q=>q,λ_ ps q=>⟨#[],by rw[q];simp⟩⟩
theorem Un.refl:Un fs ex H H h h:=Un.kept λ_ _ q=>q
theorem Un.laid(k:∀b u,h.get? b=some u->h'.get? b=some u)(D:h.objs.size<=a)(B:H a=none):Un fs ex H (c' H a o) h h' where
 keep:=λb u q _ _ _=>k b u q
 slot:=λb u q _ _ _=>⟨u.slots,k b u q⟩
 free:=λb u q n _=>by rw[zh (RE (Rt (S6 q) D))];exact n
 there:=λb u q _=>⟨u,k b u q⟩
 tups:=λb xs q=>by rw[zh (zi q B)];exact q
 frzs:=λb u xs q=>by rw[zh (zi q B)];exact q
 tbls:=λb ps q=>⟨#[],by rw[zh (zi q B),q];simp⟩
theorem Un.write(B:rO (H x))(J0:e=x∨H e=some (.own x))(k:∀b u,b≠e->h.get? b=some u->h'.get? b=some u)(L:∃u,h'.get? e=some u):Un fs ex H (c' H x o) h h':=by
 have F:∀b,H b=none->b≠x:=λb n z=>by subst z;rw[n] at B;exact B
 have G:∀b,H b=none->b≠e:=λb n z=>by
  subst z;rcases J0 with r|r
  .exact F b n r
  .rw[n] at r;cases r
 have D:∀b u,H b=some u->¬rO (some u)->b≠x:=λb u q nm z=>by subst z;rw[q] at B;exact nm B
 refine⟨λb u q n _ _=>k b u (G b n) q,λb u q n _ _=>⟨u.slots,k b u (G b n) q⟩,λb u q n _=>by rw[zh (F b n)];exact n,λb u q _=>?_,
  λb xs q=>by rw[zh (D b _ q λz=>z)];exact q,λb u xs q=>by rw[zh (D b _ q λz=>z)];exact q,λb ps q=>⟨#[],by rw[zh (D b _ q λz=>z),q];simp⟩⟩
 by_cases I:b=e
 .subst I;exact L
 .exact⟨u,k b u I q⟩
end
noncomputable def oi(h:Heap)(H:Hp):List Addr:=(RO h.objs.size).filter λa=>(H a).isSome
noncomputable def vM(h:Heap)(H:Hp):Heap:=W.hideAll h (oi h H)
theorem Zy(h:Heap)(H:Hp):(vM h H).objs.size=h.objs.size:=W.hideAll_size _ _
theorem Zz{b:Addr}{o:Obj}(e:h.get? b=some o)(n:H b=none):(vM h H).get? b=some o:=
 W.hideAll_get _ e λB=>by
  have q:(H b).isSome=true:=(T3.mp B).2;rw[n] at q;simp at q
theorem ZA{b:Addr}{o:Obj}(e:(vM h H).get? b=some o):h.get? b=some o/\H b=none:=by
 have B:h.get? b=some o:=W.of_hideAll (oi h H) e;refine⟨B,?_⟩;cases q:H b with
 |none=>rfl
 |some x=>
  have D:b∈oi h H:=T3.mpr ⟨Pu.mpr (S6 B),by simp[q]⟩;have z:(vM h H).get? b=none:=W.hideAll_none (oi h H) D;rw[z] at e;cases e
structure Mod(K:W.Frag)(mg:Str->Option X3)(base:Heap):Prop where
 kin:K.In base
 glob:base.Ns Rw mg
 blt:∃mb,base.Ns NO mb/\∀x:Str,x≠"__name__"->mb x=Qq x
 nolimit:base.NoLimit
structure Cx where
 prog:U2
 w:Rz
 K:W.Frag
 mg:Str->Option X3
 base:Heap
 A:QG
 N:List Str
 s₀:X9
 H₀:Hp
 env:Env
 outer:List Env
 stack:List Env
 ex:List Addr
 fn:Str->Bool
 calm:Bool
 pn:List (Addr×Obj)
 xe:X3->X9->Prop
 t0:Nat
variable {X:Cx}
noncomputable def wX(l:List Env):List Addr:=l.filterMap (·.frame)
noncomputable abbrev Cx.fs(X:Cx):List Addr:=wX X.outer
noncomputable def xL(sc:Scope)(x:Str):Prop:=sc.names.lookup x=some .local∨sc.names.lookup x=some .cell∨sc.names.lookup x=some .free
noncomputable def uq(sc:Scope)(x:Str):Prop:=sc.names.lookup x=some .local∨sc.names.lookup x=some .cell
noncomputable def ZB(env:Env)(h:Heap)(m:Str->Option X3)(x:Str)(u:X3):Prop:=
 (env.kindOf x=some .local/\m x=some u)∨((env.kindOf x=some .cell∨env.kindOf x=some .free)/\∃c,env.cells.lookup x=some c/\h.IsCell c (some u))
structure Cx.Ok(X:Cx):Prop where
 mod:Mod X.K X.mg X.base
 kind:X.env.scope.kind=.function
 glob:X.env.globals=Rw
 blt:X.env.builtins=NO
 above:X.s₀.heap.objs.size<=X.env.locals
 inj:∀x y c,X.env.cells.lookup x=some c->X.env.cells.lookup y=some c->x=y
 has:∀x,(X.env.kindOf x=some .cell∨X.env.kindOf x=some .free)->∃c,X.env.cells.lookup x=some c
 cab:∀x c,X.fn x=true->X.env.cells.lookup x=some c->X.s₀.heap.objs.size<=c
 hd:X.calm=true->X.A.handled=none
 frames:X.A.frames=some X.stack
 stk:X.stack=X.outer∨(X.stack=X.env::X.outer/\X.env.frame=some X.env.locals)
 exf:∀b∈X.ex,b≠X.env.locals/\∀x c,X.env.cells.lookup x=some c->c≠b
 bs:∀b o,X.base.get? b=some o->X.s₀.heap.get? b=some o/\X.H₀ b=none
 bsz:X.base.objs.size<=X.s₀.heap.objs.size
 noex:∀b o,X.base.get? b=some o->b∉X.ex
 exfs:∀b∈X.ex,b∉X.fs
 funs:X.s₀.heap.FunFrames X.base X.outer
 frf:∀b∈X.fs,X.H₀ b=none
structure Inv(X:Cx)(Δ:List (Addr×Obj))(σ:List (Option V))(H:Hp)(s:X9):Prop where
 ok:X.Ok
 os:s.os=X.s₀.os
 bare:N6 s.gens
 base:Un X.fs X.ex X.H₀ H X.s₀.heap s.heap
 loc:∃m,s.heap.Ns X.env.locals m/\∀(i:Nat) (x:Str) (v:V),X.N[i]?=some x->σ[i]?=some (some v)->xL X.env.scope x->∃u,RelV v u/\ZB X.env s.heap m x u
 cell:∀x c,X.env.cells.lookup x=some c->∃v,s.heap.IsCell c v
 free:H X.env.locals=none
 freeC:∀x c,X.env.cells.lookup x=some c->H c=none
 pin:∀p∈X.pn++Δ,s.heap.get? p.1=some p.2/\H p.1=none/\p.1≠X.env.locals/\p.1∉X.fs/\∀v,p.2.data≠.cell v
 hok:AJ X.prog X.w H s.heap
 len:σ.length=X.N.length
 tk:X.t0<=s.toks
section
variable {σ:List (Option V)}
theorem Cx.Ok.nofr(B:X.Ok){b:Addr}{o:Obj}(e:X.base.get? b=some o):b∉X.fs:=λD=>by
 have:=(B.funs.mem D).1;rw[e] at this;cases this
theorem Inv.bs(B:Inv X Δ σ H s):∀b o,X.base.get? b=some o->s.heap.get? b=some o/\H b=none:=λb o e=>
 ⟨B.base.keep b o (B.ok.bs b o e).1 (B.ok.bs b o e).2 (B.ok.nofr e) (B.ok.noex b o e),B.base.free b o (B.ok.bs b o e).1 (B.ok.bs b o e).2 (B.ok.noex b o e)⟩
theorem Inv.bk(B:Inv X Δ σ H s):∀b o,X.base.get? b=some o->s.heap.get? b=some o:=λb o e=>(B.bs b o e).1
theorem Inv.mod(B:Inv X Δ σ H s):Mod X.K X.mg X.base:=B.ok.mod
theorem Inv.kIn(B:Inv X Δ σ H s):X.K.In s.heap:=B.ok.mod.kin.keeps B.bk
theorem Inv.lt(B:Inv X Δ σ H s):X.env.locals<s.heap.objs.size:=let ⟨_,D,_⟩:=B.loc;D.lt
theorem Inv.sz(B:Inv X Δ σ H s):X.s₀.heap.objs.size<=s.heap.objs.size:=S5 B.ok.above (RL B.lt)
theorem Inv.nofs(B:Inv X Δ σ H s){a:Addr}(h:s.heap.objs.size<=a):a∉X.fs:=λD=>by
 obtain⟨_,o,F,_⟩:=B.ok.funs.mem D;exact absurd (Rt (S6 F) (S5 B.sz h)) (Pe _)
theorem Inv.cne(B:Inv X Δ σ H s):∀x c,X.env.cells.lookup x=some c->c≠X.env.locals:=λx c e z=>by
 obtain⟨v,o,D,F⟩:=B.cell x c e;obtain⟨m,⟨o',es,ep,G,I,_⟩,_⟩:=B.loc;rw[z,G] at D;cases D;rw[I] at F;cases F
theorem Inv.funs(D:Inv X Δ σ H s):s.heap.FunFrames X.base X.outer:=by
 have L:∀(l:List Env),(∀b∈wX l,b∈X.fs)->X.s₀.heap.FunFrames X.base l->s.heap.FunFrames X.base l:=by
  intro l;induction l with
  |nil=>intro _ _;trivial
  |cons env r M=>
   intro J0 O;obtain⟨R,⟨B,o,F,S,U,V⟩,W⟩:=O;have G:B∈X.fs:=J0 B (by unfold wX;rw[NC,F];exact W8);obtain⟨Y,e⟩:=D.base.slot B o U (D.ok.frf B G) G λz=>D.ok.exfs B z G;exact⟨R,⟨B,_,F,S,e,V⟩,M (λb I=>J0 b (by unfold wX;rw[NC,F];exact T7 _ I)) W⟩
 exact L X.outer (λ_ I=>I) D.ok.funs
theorem Inv.stack(B:Inv X Δ σ H s):s.heap.FunFrames X.base X.stack:=by
 rcases B.ok.stk with e|⟨e,D⟩
 .rw[e];exact B.funs
 .rw[e];obtain⟨m,F,_⟩:=B.loc;refine .cons (by rw[B.ok.kind];decide) D F ?_ B.funs;exact Heap.get?_none_of_le (S5 B.ok.bsz B.ok.above)
theorem Inv.stkSub(D:Inv X Δ σ H s):∀b∈wX X.stack,b∈X.env.locals::X.fs:=λb B=>by
 rcases D.ok.stk with e|⟨e,F⟩
 .rw[e] at B;exact T7 _ B
 .rw[e] at B;unfold wX at B;rw[NC,F] at B;exact B
theorem Inv.stkFree(B:Inv X Δ σ H s):∀b∈wX X.stack,H b=none:=λb hb=>by
 rcases S7.mp (B.stkSub b hb) with e|hb
 .rw[e];exact B.free
 .obtain⟨_,o,D,_⟩:=B.ok.funs.mem hb;exact B.base.free b o D (B.ok.frf b hb) λz=>B.ok.exfs b z hb
theorem Inv.step{g':Array GenState}{t':Nat}{d':Drawn}(B:Inv X Δ σ H s)(J0:∀b∈ch,(b∈X.ex∨X.s₀.heap.objs.size<=b)/\b≠X.env.locals/\(∀x c,X.env.cells.lookup x=some c->c≠b)/\∀p∈X.pn++Δ,p.1≠b)(keep:∀b o,b≠X.env.locals->b∉X.fs->b∉ch->s.heap.get? b=some o->H b=none->h'.get? b=some o)(slot:∀b o,b≠X.env.locals->b∈X.fs->b∉ch->s.heap.get? b=some o->H b=none->∃R,h'.get? b=some { o with slots:=R })(free:∀b o,b∉ch->s.heap.get? b=some o->H b=none->H' b=none)(there:∀b o,b∉ch->s.heap.get? b=some o->∃o',h'.get? b=some o')(tups:∀b xs,H b=some (.tup xs)->H' b=some (.tup xs))(frzs:∀b o u,H b=some (.frz o u)->H' b=some (.frz o u))(tbls:∀b ps,H b=some (.tbl ps)->∃ab,H' b=some (.tbl (ps++ab)))(ac:∀m,s.heap.Ns X.env.locals m->h'.Ns X.env.locals m)(ad:AJ X.prog X.w H' h')(ae:N6 g')(ht:X.t0<=t':=by first|assumption|exact Inv.tk (by assumption)|(have q:=Inv.tk (by assumption);omega)) :
  Inv X Δ σ H' { s with heap:=h',gens:=g',drawn:=d',toks:=t' }:=by
 have U:∀b o,X.s₀.heap.get? b=some o->b≠X.env.locals:=λb o e=>RE (Rt (S6 e) B.ok.above);have O:∀b o,X.s₀.heap.get? b=some o->b∉X.ex->b∉ch:=λb o e D G=>by
  rcases(J0 b G).1 with z|z
  .exact D z
  .exact absurd (Rt (S6 e) z) (Pe _)
 have V:∀x c,X.env.cells.lookup x=some c->∀v,s.heap.IsCell c v->h'.IsCell c v:=λx c e v ⟨o,I,S⟩=>by
  have L:c∉ch:=λz=>(J0 c z).2.2.1 x c e rfl;by_cases W:c∈X.fs
  .obtain⟨R,q⟩:=slot c o (B.cne x c e) W L I (B.freeC x c e);exact⟨_,q,S⟩
  .exact⟨o,keep c o (B.cne x c e) W L I (B.freeC x c e),S⟩
 refine⟨B.ok,B.os,ae,⟨λb o e n G D=>?_,λb o e n G D=>?_,λb o e n D=>?_,λb o e D=>?_,λb xs e=>tups b xs (B.base.tups b xs e),λb o xs e=>frzs b o xs (B.base.frzs b o xs e),λb ps e=>?_⟩,?_,λx c e=>?_,?_,λx c e=>?_,λp Y=>?_,ad,B.len,ht⟩
 .exact keep b o (U b o e) G (O b o e D) (B.base.keep b o e n G D) (B.base.free b o e n D)
 .obtain⟨R,F⟩:=B.base.slot b o e n G D;obtain⟨af,M⟩:=slot b _ (U b o e) G (O b o e D) F (B.base.free b o e n D);exact⟨af,M⟩
 .obtain⟨o',F⟩:=B.base.there b o e D;exact free b o' (O b o e D) F (B.base.free b o e n D)
 .obtain⟨o',F⟩:=B.base.there b o e D;exact there b o' (O b o e D) F
 .obtain⟨ag,F⟩:=B.base.tbls b ps e;obtain⟨ah,M⟩:=tbls b _ F;exact⟨ag++ah,by rw[M,Array.append_assoc]⟩
 .obtain⟨m,ai,aj⟩:=B.loc;refine⟨m,ac m ai,λi x v F M ak=>?_⟩;obtain⟨u,r,l⟩:=aj i x v F M ak;refine⟨u,r,?_⟩;rcases l with l|⟨k,c,e,z⟩
  .exact .inl l
  .exact .inr ⟨k,c,e,V x c e _ z⟩
 .obtain⟨v,z⟩:=B.cell x c e;exact⟨v,V x c e v z⟩
 .obtain⟨m,⟨o,_,_,I,_⟩,_⟩:=B.loc;exact free _ o (λz=>(J0 _ z).2.1 rfl) I B.free
 .obtain⟨v,o,I,S⟩:=B.cell x c e;exact free c o (λz=>(J0 c z).2.2.1 x c e J) I (B.freeC x c e)
 .obtain⟨e,n,Z,aa,d⟩:=B.pin p Y;have L:p.1∉ch:=λz=>(J0 p.1 z).2.2.2 p Y rfl;exact⟨keep p.1 p.2 Z aa L e n,free p.1 p.2 L e n,Z,aa,d⟩
theorem Inv.un(B:Inv X Δ σ H s)(u:Un X.fs [] H H' s.heap h')(I:AJ X.prog X.w H' h')(ht:X.t0<=t':=by first|assumption|exact Inv.tk (by assumption)|(have q:=Inv.tk (by assumption);omega)):Inv X Δ σ H' { s with heap:=h',toks:=t' }:=by
 obtain⟨m,⟨o,es,ep,F,r⟩,_⟩:=id B.loc;obtain⟨S,J0⟩:=u.any F B.free (by simp);exact B.step (g':=s.gens) (d':=s.drawn) (ch:=[]) (λ_ z=>nomatch z) (λb o _ D _ e n=>u.keep b o e n D (by simp)) (λb o _ D _ e n=>u.slot b o e n D (by simp)) (λb o _ e n=>u.free b o e n (by simp)) (λb o _ e=>u.there b o e (by simp)) u.tups u.frzs u.tbls (λU L=>by
  obtain⟨o',M,O,G,R⟩:=L;rw[F] at G;cases G;exact⟨_,M,O,J0,R⟩) I B.bare ht
theorem Inv.call{g':Array GenState}{d':Drawn}(D:Inv X Δ σ H s)(u:Un (wX X.stack) ch H H' s.heap h')(L:AJ X.prog X.w H' h')(M:N6 g')(G:∀b∈ch,(b∈X.ex∨X.s₀.heap.objs.size<=b)/\b≠X.env.locals/\(∀x c,X.env.cells.lookup x=some c->c≠b)/\∀p∈X.pn++Δ,p.1≠b)(ht:X.t0<=t':=by first|assumption|exact Inv.tk (by assumption)|(have q:=Inv.tk (by assumption);omega)) :
  Inv X Δ σ H' { s with heap:=h',gens:=g',drawn:=d',toks:=t' }:=by
 obtain⟨m,⟨o,es,ep,I,r⟩,_⟩:=id D.loc;obtain⟨W,F⟩:=u.any I D.free λz=>(G _ z).2.1 rfl;exact D.step (ch:=ch) G (λb o F O B e n=>u.keep b o e n (λz=>(S7.mp (D.stkSub b z)).elim F O) B) (λb o _ _ B e n=>u.any e n B) (λb o B e n=>u.free b o e n B) (λb o B e=>u.there b o e B) u.tups u.frzs u.tbls (λY R=>by
  obtain⟨o',S,U,J0,V⟩:=R;rw[I] at J0;cases J0;exact⟨_,S,U,F,V⟩) L M ht
theorem Inv.turned(D:Inv X Δ σ H s)(k:∀b o,b≠it->s.heap.get? b=some o->h'.get? b=some o)(I:H it=none)(F:it≠X.env.locals)(h1:it∈X.ex∨X.s₀.heap.objs.size<=it)(h2:∀x c,X.env.cells.lookup x=some c->c≠it)(J0:∀p∈X.pn++Δ,p.1≠it)(ht:X.t0<=t':=by first|assumption|exact Inv.tk (by assumption)|(have q:=Inv.tk (by assumption);omega)):Inv X Δ σ H { s with heap:=h',toks:=t' }:=by
 have G:∀b u,H b=some u->b≠it:=λb u e z=>by rw[z,I] at e;cases e
 refine D.step (g':=s.gens) (d':=s.drawn) (ch:=[it]) (λb L=>?_) (λb o _ _ B e _=>k b o (λz=>B (by simp[z])) e) (λb o _ _ B e _=>⟨o.slots,k b o (λz=>B (by simp[z])) e⟩) (λ_ _ _ _ n=>n)
  (λb o B e=>⟨o,k b o (λz=>B (by simp[z])) e⟩) (λ_ _ e=>e) (λ_ _ _ e=>e) (λb ps e=>⟨#[],by rw[e];simp⟩) (λm M=>?_) (λb u e=>?_) D.bare ht
 .have e:b=it:=by simpa using L
  subst e;exact⟨h1,F,h2,J0⟩
 .obtain⟨o,es,ep,O,r⟩:=M;exact⟨o,es,ep,k _ o (Q3 F) O,r⟩
 .refine(D.hok b u e).stay (λc v B q=>k c v ?_ q) (λ_ q=>q) λ_ _ q=>q;rcases B with z|z
  .rw[z];exact G b u e
  .exact G c _ z
theorem Inv.tok(B:Inv X Δ σ H s)(t:Nat)(ht:X.t0<=t:=by first|assumption|exact Inv.tk (by assumption)|(have q:=Inv.tk (by assumption);omega)):Inv X Δ σ H { s with toks:=t }:=B.un (h':=s.heap) (t':=t) Un.refl B.hok ht
theorem Inv.kept{t':Nat}(B:Inv X Δ σ H s)(k:∀b u,s.heap.get? b=some u->h'.get? b=some u)(ht:X.t0<=t':=by first|assumption|exact Inv.tk (by assumption)|(have q:=Inv.tk (by assumption);omega)):Inv X Δ σ H { s with heap:=h',toks:=t' }:=B.un (Un.kept k) (B.hok.kept k) ht
theorem Inv.laid{a:Addr}{o:HO}{t':Nat}(B:Inv X Δ σ H s)(k:∀b u,s.heap.get? b=some u->h'.get? b=some u)(D:s.heap.objs.size<=a)(F:Al X.prog X.w (c' H a o) h' a o)(ht:X.t0<=t':=by first|assumption|exact Inv.tk (by assumption)|(have q:=Inv.tk (by assumption);omega)) :
  Inv X Δ σ (c' H a o) { s with heap:=h',toks:=t' }:=B.un (Un.laid k D (B.hok.fresh D)) (B.hok.laid k D F) ht
theorem Inv.write{x e:Addr}{o:HO}{t':Nat}(B:Inv X Δ σ H s)(D:rO (H x))(F:e=x∨H e=some (.own x))(k:∀b u,b≠e->s.heap.get? b=some u->h'.get? b=some u)(G:∃u,h'.get? e=some u)(I:Al X.prog X.w (c' H x o) h' x o)(ht:X.t0<=t':=by first|assumption|exact Inv.tk (by assumption)|(have q:=Inv.tk (by assumption);omega)):Inv X Δ σ (c' H x o) { s with heap:=h',toks:=t' }:=B.un (Un.write D F k G) (B.hok.write D F k G I) ht
theorem Inv.pins_of{D:List (Addr×Obj)}(B:Inv X Δ σ H s)(h:∀p∈D,s.heap.get? p.1=some p.2/\H p.1=none/\p.1≠X.env.locals/\p.1∉X.fs/\∀v,p.2.data≠.cell v):Inv X D σ H s:=
 ⟨B.ok,B.os,B.bare,B.base,B.loc,B.cell,B.free,B.freeC,λp F=>(T6.mp F).elim (λz=>B.pin p (RW _ z)) (h p),B.hok,B.len,B.tk⟩
theorem ga(B:N.Nodup){i j:Nat}{x:Str}(a:N[i]?=some x)(b:N[j]?=some x):i=j:=by
 obtain⟨h1,D⟩:=W5.mp a;obtain⟨h2,F⟩:=W5.mp b;exact(Jz B).mp (D.trans F.symm)
theorem gb{ao:Model}{A:QG}{E:X3->X9->Prop}{x:Str}{Q:Unit->X9->Prop}(B:Inv X Δ σ H s)(af:X.N.Nodup)(hi:X.N[i]?=some x)(G:uq X.env.scope x)(r:RelV v u)(h:∀s',Inv X Δ (σ.set i (some v)) H s'->(∃a,Pr a s.heap s'.heap/\(a=X.env.locals∨X.env.cells.lookup x=some a))->Q () s')(ap:X.fn x=true∨X.env.scope.names.lookup x=some .local:=by first|exact .inl rfl|exact .inr rfl|assumption):Rj ao A (Iy X.env x u) Q E s:=by
 obtain⟨m,S,ag⟩:=id B.loc;have aq:(X.env.scope.kind==.class || (X.env.scope.kind==.module&&X.env.locals != X.env.globals))=false:=by rw[B.ok.kind];rfl
 have ah:i<σ.length:=by rw[B.len];exact(W5.mp hi).1
 have U:=B.cne;have ai:∀ {a:Addr} {h':Heap},(∃o,s.heap.get? a=some o/\H a=none)->Pr a s.heap h'->AJ X.prog X.w H h':=λ{a h'} ar D b as e=>by
  obtain⟨_,_,aj⟩:=ar;refine(B.hok b as e).stay (λc M hc q=>(D.2 c ?_).trans q) (λ_ q=>q) λ_ _ q=>q;rintro rfl;rcases hc with rfl|hc
  .rw[aj] at e;cases e
  .rw[aj] at hc;cases hc
 rcases G with hk|hk
 .refine wpAny_storeName_local hk S (λh' au D=>?_) aq;obtain⟨av,_,_,aw,_⟩:=id S;refine h _ ⟨B.ok,B.os,B.bare,⟨λb o e n J0 G=>?_,λb o e n J0 G=>?_,B.base.free,λb o e G=>?_,B.base.tups,B.base.frzs,B.base.tbls⟩,⟨_,au,λj y W F I Y=>?_⟩,λy c e=>?_,B.free,B.freeC,λp Z=>?_,ai ⟨av,aw,B.free⟩ D,by simpa using B.len,(by have q:=B.tk;first|exact q|exact R9 q)⟩ ⟨_,D,.inl J⟩
  .exact(D.2 b (RE (Rt (S6 e) B.ok.above))).trans (B.base.keep b o e n J0 G)
  .obtain⟨aa,F⟩:=B.base.slot b o e n J0 G;exact⟨aa,(D.2 b (RE (Rt (S6 e) B.ok.above))).trans F⟩
  .obtain⟨o',F⟩:=B.base.there b o e G;exact⟨o',(D.2 b (RE (Rt (S6 e) B.ok.above))).trans F⟩
  .by_cases L:j=i
   .subst L;rw[hi] at F;cases F;rw[MM ah] at I;cases I;exact⟨u,r,.inl ⟨hk,by simp⟩⟩
   .rw[Kh (Q3 L)] at I;obtain⟨ab,ac,q⟩:=ag j y W F I Y;refine⟨ab,ac,?_⟩;rcases q with⟨k,e⟩|⟨k,c,e,z⟩
    .refine .inl ⟨k,?_⟩;have:y≠x:=λe=>L (ga af F (e ▸ hi));simp[this,e]
    .exact .inr ⟨k,c,e,z.sameBut D (U y c e)⟩
  .obtain⟨M,z⟩:=B.cell y c e;exact⟨M,z.sameBut D (U y c e)⟩
  .obtain⟨e,n,O,ad,d⟩:=B.pin p Z;exact⟨(D.2 p.1 O).trans e,n,O,ad,d⟩
 .have ae:X.fn x=true:=by
   rcases ap with z|z
   .exact z
   .rw[z] at hk;cases hk
  obtain⟨c,hc⟩:=B.ok.has x (.inl hk);obtain⟨M,z⟩:=B.cell x c hc;refine wpAny_storeName_cell B.ok.kind hk hc z (λh' ak D=>?_);obtain⟨oc,al,ax⟩:=id z;refine h { s with heap:=h' } ⟨B.ok,B.os,B.bare,⟨λb o e n J0 G=>?_,λb o e n J0 G=>?_,B.base.free,λb o e G=>?_,B.base.tups,B.base.frzs,B.base.tbls⟩,⟨m,S.sameBut D (Q3 (U x c hc)),λj y W F I Y=>?_⟩,λy R e=>?_,B.free,B.freeC,λp Z=>?_,ai ⟨oc,al,B.freeC x c hc⟩ D,by simpa using B.len,(by have q:=B.tk;first|exact q|exact R9 q)⟩ ⟨c,D,.inr hc⟩
  .exact(D.2 b (RE (Rt (S6 e) (B.ok.cab x c ae hc)))).trans (B.base.keep b o e n J0 G)
  .obtain⟨aa,F⟩:=B.base.slot b o e n J0 G;exact⟨aa,(D.2 b (RE (Rt (S6 e) (B.ok.cab x c ae hc)))).trans F⟩
  .obtain⟨o',F⟩:=B.base.there b o e G;exact⟨o',(D.2 b (RE (Rt (S6 e) (B.ok.cab x c ae hc)))).trans F⟩
  .by_cases L:j=i
   .subst L;rw[hi] at F;cases F;rw[MM ah] at I;cases I;exact⟨u,r,.inr ⟨.inl hk,c,hc,ak⟩⟩
   .rw[Kh (Q3 L)] at I;obtain⟨ab,ac,q⟩:=ag j y W F I Y;refine⟨ab,ac,?_⟩;rcases q with q|⟨k,R,e,z'⟩
    .exact .inl q
    .refine .inr ⟨k,R,e,z'.sameBut D ?_⟩;rintro rfl;exact L (ga af F (B.ok.inj _ _ _ e hc ▸ hi))
  .by_cases am:R=c
   .subst am;exact⟨_,ak⟩
   .obtain⟨ay,az⟩:=B.cell y R e;exact⟨ay,az.sameBut D am⟩
  .obtain⟨e,n,O,ad,d⟩:=B.pin p Z;refine⟨(D.2 p.1 ?_).trans e,n,O,ad,d⟩;intro q;rw[q,al] at e;have q':oc=p.2:=R4 e;exact d M (by rw[←q'];exact ax)
theorem lH{B:Model}{A:QG}{E:X3->X9->Prop}{x:Str}{Q:Unit->X9->Prop}(D:Inv X Δ σ H s)(F:X.N.Nodup)(hi:X.N[i]?=some x)(G:uq X.env.scope x)(r:RelV v u)(h:∀s',Inv X Δ (σ.set i (some v)) H s'->Q () s')(I:X.fn x=true∨X.env.scope.names.lookup x=some .local:=by first|exact .inl rfl|exact .inr rfl|assumption):Rj B A (Iy X.env x u) Q E s:=
 gb D F hi G r (λs' J0 _=>h s' J0) I
theorem Inv.call'{s':X9}(B:Inv X Δ σ H s)(D:s'.os=s.os)(ht:X.t0<=s'.toks)(u:Un (wX X.stack) ch H H' s.heap s'.heap)(F:AJ X.prog X.w H' s'.heap)(G:N6 s'.gens)(I:∀b∈ch,(b∈X.ex∨X.s₀.heap.objs.size<=b)/\b≠X.env.locals/\(∀x c,X.env.cells.lookup x=some c->c≠b)/\∀p∈X.pn++Δ,p.1≠b):Inv X Δ σ H' s':=by
 obtain⟨h',g',d',t',o'⟩:=s';have e:o'=s.os:=D;subst e;exact B.call (g':=g') (t':=t') (d':=d') u F G I ht
end
noncomputable abbrev XK:=X3->Option Addr->Hp->Prop
noncomputable abbrev St:=List (Option V)
noncomputable abbrev VK:=V->Hp->Prop
noncomputable abbrev TE:=St->Hp->VK->Prop
noncomputable abbrev TT:=St->Hp->(Bool->Hp->Prop)->Prop
noncomputable abbrev TA:=St->Hp->(List V->Hp->Prop)->Prop
variable {t te tl:TE}{σ:St}{tc:TT}
structure xM where
 nx:St->Hp->Prop
 rt:VK
 bk:St->Hp->Prop:=λ_ _=>False
 ct:St->Hp->Prop:=λ_ _=>False
noncomputable abbrev TS:=xM->St->Hp->Prop
variable {tb:TS}
noncomputable def EP(X:Cx)(Δ:List (Addr×Obj))(σ:St)(Q:VK)(u:X3)(s':X9):Prop:=∃v H',Inv X Δ σ H' s'/\RelV v u/\Q v H'
noncomputable def TP(X:Cx)(Δ:List (Addr×Obj))(σ:St)(Q:Bool->Hp->Prop)(b:Bool)(s':X9):Prop:=∃H',Inv X Δ σ H' s'/\Q b H'
noncomputable def AP(X:Cx)(Δ:List (Addr×Obj))(σ:St)(Q:List V->Hp->Prop)(us:List X3)(s':X9):Prop:=∃vs H',Inv X Δ σ H' s'/\Af vs us/\Q vs H'
noncomputable def SP(X:Cx)(Δ:List (Addr×Obj))(D:xM)(f:Flow)(s':X9):Prop:=
 match f with
 |.next=>∃σ' H',Inv X Δ σ' H' s'/\D.nx σ' H'
 |.brk=>∃σ' H',Inv X Δ σ' H' s'/\D.bk σ' H'
 |.cont=>∃σ' H',Inv X Δ σ' H' s'/\D.ct σ' H'
 |.ret u=>∃v σ' H',Inv X Δ σ' H' s'/\RelV v u/\D.rt v H'
noncomputable def PE(X:Cx)(e:R8)(t:TE):Prop:=
 ∀(Δ:List (Addr×Obj)) (s:X9) (σ:St) (H:Hp) (Q:VK),Inv X Δ σ H s->t σ H Q->Rj (model X.prog X.w) X.A (eval e X.env) (EP X Δ σ Q) X.xe s
noncomputable def PT(X:Cx)(e:R8)(t:TT):Prop:=
 ∀(Δ:List (Addr×Obj)) (s:X9) (σ:St) (H:Hp) (Q:Bool->Hp->Prop),Inv X Δ σ H s->t σ H Q->Rj (model X.prog X.w) X.A (JY e X.env (eval e X.env)) (TP X Δ σ Q) X.xe s
noncomputable def PW(X:Cx)(e:R8)(t:TT):Prop:=
 ∀(B:Sem X3) (Δ:List (Addr×Obj)) (s:X9) (σ:St) (H:Hp) (Q:Bool->Hp->Prop),Inv X Δ σ H s->t σ H Q->Rj (model X.prog X.w) X.A (JY e X.env B) (TP X Δ σ Q) X.xe s
theorem PW.pt{e:R8}{t:TT}(h:PW X e t):PT X e t:=h _
noncomputable def PA(X:Cx)(es:List R8)(t:TA):Prop:=
 ∀(pos:Pos) (Δ:List (Addr×Obj)) (s:X9) (σ:St) (H:Hp) (Q:List V->Hp->Prop),Inv X Δ σ H s->t σ H Q->Rj (model X.prog X.w) X.A (spliced (QS pos (T2 es X.env))) (AP X Δ σ Q) X.xe s
noncomputable def PS(X:Cx)(st:Stmt)(t:TS):Prop:=
 ∀(Δ:List (Addr×Obj)) (s:X9) (σ:St) (H:Hp) (D:xM),Inv X Δ σ H s->t D σ H->Rj (model X.prog X.w) X.A (exec st X.env) (SP X Δ D) X.xe s
noncomputable def Bf(X:Cx)(st:List Stmt)(t:TS):Prop:=
 ∀(Δ:List (Addr×Obj)) (s:X9) (σ:St) (H:Hp) (D:xM),Inv X Δ σ H s->t D σ H->Rj (model X.prog X.w) X.A (execs st X.env) (SP X Δ D) X.xe s
theorem zo{B:Type}{t:Sem B}{Q D:B->X9->Prop}{F:Model}(h:Rj F A t Q E s)(G:∀a s,Q a s->D a s):Rj F A t D E s:=OK h G λ_ _ x=>x
variable {ta:TE}{pos:Pos}
section
theorem ZC{a b:R8}{ta tb:TE}(G:PE X a ta)(I:PE X b tb){Δ:List (Addr×Obj)}{s:X9}{σ:St}{H:Hp}{R:V->V->Hp->Prop}(J0:Inv X Δ σ H s)(h:ta σ H λx H1=>tb σ H1 λy H2=>R x y H2){F:Type}{Q:F->X9->Prop}{f:X3->X3->Sem F}(L:∀v u B x y H2,Inv X Δ σ H2 B->RelV x v->RelV y u->R x y H2->Rj (model X.prog X.w) X.A (f v u) Q X.xe B) :
  Rj (model X.prog X.w) X.A (eval a X.env) (λv M=>Rj (model X.prog X.w) X.A (eval b X.env) (λu O=>Rj (model X.prog X.w) X.A (f v u) Q X.xe O) X.xe M) X.xe s:=by
 refine zo (G Δ s σ H _ J0 h) λv S D=>?_;obtain⟨x,H1,U,W,q1⟩:=D;refine zo (I Δ S σ H1 _ U q1) λu B D=>?_;obtain⟨y,H2,Y,Z,aa⟩:=D;exact L v u B x y H2 Y W Z aa
noncomputable def wY(i:Nat):TE:=λσ H Q=>∃v,σ[i]?=some (some v)/\Q v H
noncomputable def tC(v:V):TE:=λ_ H Q=>Q v H
theorem ZD{x:Str}{pos:Pos}(J0:X.N[i]?=some x)(L:xL X.env.scope x)(D:(x==("__debug__":Str))=false:=by decide)(M:(x==("__classdict__":Str))=false:=by decide):PE X (.Name x pos) (wY i):=by
 intro Δ s σ H Q B h;obtain⟨v,e,h⟩:=h;obtain⟨m,O,R⟩:=B.loc;obtain⟨u,r,l⟩:=R i x v J0 e L;have F:EP X Δ σ Q u s:=⟨v,H,B,r,h⟩;rcases l with⟨hk,S⟩|⟨hk,c,G,I⟩
 .exact K1 (Nn B.ok.kind hk O S F) D
 .rcases hk with hk|hk
  .exact K1 (KG B.ok.kind hk G I F) D
  .exact K1 (wpAny_loadName_free B.ok.kind hk G I F M) D
theorem zg{i j pos}:PE X (.Constant (.int i) j pos) (tC (.int i)):=λ_ _ _ H _ B h=>K2 ⟨.int i,H,B.tok _,⟨_,J⟩,h⟩
theorem wy{b j pos}:PE X (.Constant (.bool b) j pos) (tC (.bl b)):=λ_ _ _ H _ B h=>Constant_bool ⟨.bl b,H,B,J,h⟩
theorem sM{j pos}:PE X (.Constant .none j pos) (tC .non):=λ_ _ _ H _ B h=>Constant_none ⟨.non,H,B,J,h⟩
theorem z0{x j pos}:PE X (.Constant (.str x) j pos) (tC (.str x)):=λ_ _ _ H _ B h=>NP ⟨.str x,H,B.tok _,⟨_,J⟩,h⟩
noncomputable def Gl(X:Cx)(x:Str):Prop:=X.env.kindOf x=some .globalImplicit
theorem oj{E:X3->X9->Prop}{x:Str}{pos:Pos}(B:Inv X Δ σ H s)(D:Gl X x)(F:X.mg x=some u)(h:Q u s)(G:(x==("__debug__":Str))=false:=by decide):Rj (model X.prog X.w) X.A (eval (.Name x pos) X.env) Q E s:=
 Oo B.ok.kind D (Calls.loadGlobal_global (by rw[B.ok.glob];exact B.mod.glob.keeps B.bk) F h) G
theorem wz{E:X3->X9->Prop}{x:Str}{pos:Pos}(B:Inv X Δ σ H s)(D:Gl X x)(F:X.mg x=none)(G:Qq x=some u)(h:Q u s)(I:x≠"__name__":=by decide)(J0:(x==("__debug__":Str))=false:=by decide):Rj (model X.prog X.w) X.A (eval (.Name x pos) X.env) Q E s:=by
 obtain⟨L,h1,h2⟩:=B.mod.blt;exact Oo B.ok.kind D (Mj (by rw[B.ok.glob];exact B.mod.glob.keeps B.bk) F (by rw[B.ok.blt];exact h1.keeps B.bk) ((h2 x I).trans G) h) J0
theorem tH{x:Str}{pos:Pos}(D:Gl X x)(F:X.mg x=some u)(r:RelV v u)(G:(x==("__debug__":Str))=false:=by decide):PE X (.Name x pos) (tC v):=
 λ_ _ _ H _ B h=>oj B D F ⟨v,H,B,r,h⟩ G
theorem vX{x:Str}{pos:Pos}(D:Gl X x)(F:X.mg x=none)(G:Qq x=some u)(r:RelV v u)(I:x≠"__name__":=by decide)(J0:(x==("__debug__":Str))=false:=by decide):PE X (.Name x pos) (tC v):=
 λ_ _ _ H _ B h=>wz B D F G ⟨v,H,B,r,h⟩ I J0
noncomputable def ZE(ta tb:TE)(k:Int->Int->Hp->Prop):St->Hp->Prop:=λσ H=>ta σ H λx H1=>tb σ H1 λy H2=>∃i j,x=.int i/\y=.int j/\k i j H2
noncomputable def ZF(ta tb:TE):TE:=λσ H Q=>ZE ta tb (λi j H2=>(-(2 ^ 64)<i/\i<2 ^ 64)/\Q (.int (i*j)) H2) σ H
variable {a b:R8}{tb:TE}
theorem Ql(B:PE X a ta)(D:PE X b tb):PE X (.BinOp a .Mult b pos) (ZF ta tb):=by
 intro Δ s σ H Q F h;refine wpAny_BinOp (ZC B D F h λv u M x y H2 G I J0 q=>?_);obtain⟨i,j,rfl,rfl,⟨q1,L⟩,q⟩:=q;obtain⟨t,rfl⟩:=I;obtain⟨t',rfl⟩:=J0;exact mul_int ⟨.int _,H2,G.tok _,⟨_,J⟩,q⟩ (.of_left (KN q1 L))
noncomputable def PC(X:Cx)(op:IU)(a b:R8)(t:TE):Prop:=
 ∀(Δ:List (Addr×Obj)) (s:X9) (σ:St) (H:Hp) (Q:VK),Inv X Δ σ H s->t σ H Q ->
  Rj (model X.prog X.w) X.A (eval a X.env) (λv B=>Rj (model X.prog X.w) X.A (eval b X.env) (λu D=>Rj (model X.prog X.w) X.A (Qv op v u) (EP X Δ σ Q) X.xe D) X.xe B) X.xe s
noncomputable def tB(t:TE):TT:=λσ H Q=>t σ H λx H1=>∃c,x=.bl c/\Q c H1
theorem ZG(h:PC X op a b t)(h1:OB op b=false:=by first|exact nobehind _ (by decide) (by decide)|rfl):PE X (.Compare a [op] [b] pos) t:=λΔ s σ H Q B hw=>wpAny_Compare1 (h Δ s σ H Q B hw) h1
theorem ZH(h:PC X op a b t)(h1:OB op b=false:=by first|exact nobehind _ (by decide) (by decide)|rfl):PT X (.Compare a [op] [b] pos) (tB t):=by
 intro Δ s σ H Q B hw;refine Ka (zo (h Δ s σ H _ B hw) λv I h1=>zo h1 λu J0 h2=>zo h2 λc L D=>?_) h1;obtain⟨x,H1,F,G,q1⟩:=D;obtain⟨d,rfl,q⟩:=q1;cases G;exact Qk ⟨H1,F,q⟩
theorem xa{e:R8}(h:PE X e t)(D:∀B,JY e X.env B=(do let v ← B;N7 e.pos;holding [v] (truthy v)):=by intro _;rfl):PT X e (tB t):=by
 intro Δ s σ H Q F hw;refine isTrue_plain (zo (h Δ s σ H _ F hw) λv L G=>?_) (D _);obtain⟨x,H1,I,J0,q1⟩:=G;obtain⟨d,rfl,q⟩:=q1;cases J0;exact Qk ⟨H1,I,q⟩
variable {tA tB':TT}{rest:List R8}
noncomputable def ZI(t u:TT):TT:=λσ H Q=>t σ H λc H1=>if c=true then u σ H1 Q else Q false H1
noncomputable def ZJ(t u:TT):TT:=λσ H Q=>t σ H λc H1=>if c=true then Q true H1 else u σ H1 Q
noncomputable def ZK(t:TT):TT:=λσ H Q=>t σ H λc H1=>Q (!c) H1
theorem ur(B:PT X a tA):PW X (.BoolOp .And [a] pos) tA:=by
 intro F Δ s σ H Q D h;refine isTrue_and (zo (B Δ s σ H Q D h) λc G e=>?_);cases c with
 |true=>exact isTrue_and_nil e
 |false=>exact e
theorem rP(B:PT X a tA):PW X (.BoolOp .Or [a] pos) tA:=by
 intro F Δ s σ H Q D h;refine isTrue_or (zo (B Δ s σ H Q D h) λc G e=>?_);cases c with
 |false=>exact isTrue_or_nil e
 |true=>exact e
theorem ut(D:PT X a tA)(F:PW X (.BoolOp .And (b::rest) pos) tB'):PW X (.BoolOp .And (a::b::rest) pos) (ZI tA tB'):=by
 intro G Δ s σ H Q I h;refine isTrue_and (zo (D Δ s σ H _ I h) λc J0 L=>?_);obtain⟨H1,B,q1⟩:=L;cases c with
 |true=>exact F G Δ J0 σ H1 Q B q1
 |false=>exact⟨H1,B,q1⟩
theorem sN(D:PT X a tA)(F:PW X (.BoolOp .Or (b::rest) pos) tB'):PW X (.BoolOp .Or (a::b::rest) pos) (ZJ tA tB'):=by
 intro G Δ s σ H Q I h;refine isTrue_or (zo (D Δ s σ H _ I h) λc J0 L=>?_);obtain⟨H1,B,q1⟩:=L;cases c with
 |true=>exact⟨H1,B,q1⟩
 |false=>exact F G Δ J0 σ H1 Q B q1
theorem xr(B:PT X a tA):PT X (.UnaryOp .Not a pos) (ZK tA):=by
 intro Δ s σ H Q D h;exact isTrue_not (B Δ s σ H (λc H1=>Q (!c) H1) D h)
noncomputable def ZL(ta tb:TE):TE:=λσ H Q=>ta σ H λx H1=>∃c,x=.bl c/\if c=true then tb σ H1 Q else Q (.bl false) H1
noncomputable def ZM(ta tb:TE):TE:=λσ H Q=>ta σ H λx H1=>∃c,x=.bl c/\if c=true then Q (.bl true) H1 else tb σ H1 Q
noncomputable def ZN(ta:TE):TE:=λσ H Q=>ta σ H λx H1=>∃c,x=.bl c/\Q (.bl (!c)) H1
theorem uu{op}{t:TE}(h:PE X a t):PE X (.BoolOp op [a] pos) t:=λΔ s σ H Q B hw=>BoolOp_one (h Δ s σ H Q B hw)
theorem sO(D:PE X a ta)(F:PE X (.BoolOp .And (b::rest) pos) tb):PE X (.BoolOp .And (a::b::rest) pos) (ZL ta tb):=by
 intro Δ s σ H Q G h;refine BoolOp_and (zo (D Δ s σ H _ G h) λv I J0=>?_);obtain⟨x,H1,B,L,q1⟩:=J0;obtain⟨c,rfl,q1⟩:=q1;cases L;refine Qk ?_;cases c with
 |true=>exact F Δ I σ H1 Q B q1
 |false=>exact⟨.bl false,H1,B,J,q1⟩
theorem gc(D:PE X a ta)(F:PE X (.BoolOp .Or (b::rest) pos) tb):PE X (.BoolOp .Or (a::b::rest) pos) (ZM ta tb):=by
 intro Δ s σ H Q G h;refine BoolOp_or (zo (D Δ s σ H _ G h) λv I J0=>?_);obtain⟨x,H1,B,L,q1⟩:=J0;obtain⟨c,rfl,q1⟩:=q1;cases L;refine Qk ?_;cases c with
 |false=>exact F Δ I σ H1 Q B q1
 |true=>exact⟨.bl true,H1,B,J,q1⟩
theorem lI(B:PE X a ta):PE X (.UnaryOp .Not a pos) (ZN ta):=by
 intro Δ s σ H Q D h;refine UnaryOp_ (zo (B Δ s σ H _ D h) λv J0 F=>?_);obtain⟨x,H1,G,I,q1⟩:=F;obtain⟨c,rfl,q1⟩:=q1;cases I;exact not_of (Qk ⟨.bl (!c),H1,G,J,q1⟩)
noncomputable def ZO(t:TT)(ta tb:TE):TE:=λσ H Q=>t σ H λc H1=>if c=true then ta σ H1 Q else tb σ H1 Q
theorem om{c:R8}(F:PT X c tA)(G:PE X a ta)(I:PE X b tb):PE X (.IfExp c a b pos) (ZO tA ta tb):=by
 intro Δ s σ H Q J0 h;refine wpAny_IfExp (zo (F Δ s σ H _ J0 h) λd B L=>?_);obtain⟨H1,D,q1⟩:=L;cases d with
 |true=>exact G Δ B σ H1 Q D q1
 |false=>exact I Δ B σ H1 Q D q1
end
noncomputable def Ad(K:W.Frag)(H:Hp)(a:Addr)(xs:List V):Prop:=
 Rd H a (.lst xs) ∨
  ∃(o:Obj) (its:Array X3) (n:Nat),K.lookup a=some o/\o.cls=.type "list"/\o.dict=none/\o.data=.seq its n/\its.size<=sizeLine/\Af xs its.toList
noncomputable def Ah(K:W.Frag)(H:Hp)(a:Addr)(xs:List V):Prop:=
 Rd H a (.tup xs) ∨
  ∃(o:Obj) (its:Array X3) (n:Nat),K.lookup a=some o/\o.cls=.type "tuple"/\o.data=.seq its n/\its.size<=sizeLine/\Af xs its.toList
noncomputable def ZP:X3->Option V
 |.none=>some .non
 |.bool b=>some (.bl b)
 |.int i _=>some (.int i)
 |.str x _=>some (.str x)
 |.bytes b _=>some (.byt b)
 |.float b _=>some (.flt b)
 |.ref a=>some (.ref a)
 |.type n=>some (.ty n)
 |_=>none
theorem RelV.abs{x:V}(r:RelV x u):ZP u=some x:=by
 cases x with
 |non=>cases r;rfl
 |bl _=>cases r;rfl
 |int _=>obtain⟨t,rfl⟩:=r;rfl
 |str _=>obtain⟨t,rfl⟩:=r;rfl
 |byt _=>obtain⟨t,rfl⟩:=r;rfl
 |flt _=>obtain⟨t,rfl⟩:=r;rfl
 |ref _=>cases r;rfl
 |ty _=>cases r;rfl
theorem RelV.inj{x y:V}{u:X3}(r:RelV x u)(q:RelV y u):x=y:=R4 (r.abs.symm.trans q.abs)
theorem Af.inj:∀ {xs ys:List V}{us:List X3},Af xs us->Af ys us->xs=ys
 |_,_,_,.nil,.nil=>rfl
 |_,_,_,.cons r t,.cons B t'=>by rw[r.inj B,Af.inj t t']
section
variable {a:Addr}{ys:List V}
theorem Ad.of(h:H a=some (.lst xs)):Ad K H a xs:=.inl (.inl h)
theorem Ah.of(h:H a=some (.tup xs)):Ah K H a xs:=.inl (.inl h)
theorem Inv.list(B:Inv X Δ σ H s)(h:Ad X.K H a xs):∃its:List X3,Af xs its/\PlainL s.heap a its.toArray/\xs.length<=sizeLine:=by
 rcases h with h|⟨o,its,n,D,F,G,I,J0,r⟩
 .obtain⟨z,its,n,r,e⟩:=h.ok B.hok;exact⟨its,r,⟨_,n,e,J,J,J⟩,z⟩
 .refine⟨its.toList,r,⟨o,n,B.kIn a o D,F,G,by simpa using I⟩,?_⟩;have e:=r.length;simp only[ND] at e;exact xq e J0
theorem Inv.tuple(B:Inv X Δ σ H s)(h:Ah X.K H a xs):∃its:List X3,Af xs its/\IZ s.heap a its.toArray/\xs.length<=sizeLine:=by
 rcases h with h|⟨o,its,n,D,F,G,I,r⟩
 .obtain⟨z,its,r,p⟩:=h.ok B.hok;exact⟨its,r,p,z⟩
 .refine⟨its.toList,r,⟨o,B.kIn a o D,F,n,by simpa using G⟩,?_⟩;have e:=r.length;simp only[ND] at e;exact xq e I
theorem Inv.list_inj(B:Inv X Δ σ H s)(h:Ad X.K H a xs)(h':Ad X.K H a ys):xs=ys:=by
 obtain⟨its,r,⟨o,n,e,_,_,d⟩,_⟩:=B.list h;obtain⟨its',F,⟨o',I,D,_,_,d'⟩,_⟩:=B.list h';rw[e] at D;cases D;rw[d] at d';injection d' with G _;have:its=its':=by simpa using congrArg IG G
 subst this;exact r.inj F
theorem Inv.tuple_inj(B:Inv X Δ σ H s)(h:Ah X.K H a xs)(h':Ah X.K H a ys):xs=ys:=by
 obtain⟨its,r,⟨o,e,_,n,d⟩,_⟩:=B.tuple h;obtain⟨its',F,⟨o',D,_,I,d'⟩,_⟩:=B.tuple h';rw[e] at D;cases D;rw[d] at d';injection d' with G _;have:its=its':=by simpa using congrArg IG G
 subst this;exact r.inj F
end
noncomputable abbrev Cx.wish(X:Cx)(E:X3->X9->Prop):Cx:={ X with xe:=E }
noncomputable abbrev Cx.nox(X:Cx):Cx:=X.wish λ_ _=>False
theorem Cx.Ok.wish{X:Cx}(B:X.Ok)(E:X3->X9->Prop):(X.wish E).Ok:=
 ⟨B.mod,B.kind,B.glob,B.blt,B.above,B.inj,B.has,B.cab,B.hd,B.frames,B.stk,B.exf,B.bs,B.bsz,B.noex,B.exfs,B.funs,B.frf⟩
theorem Cx.Ok.unwish(B:(X.wish E).Ok):X.Ok:=
 ⟨B.mod,B.kind,B.glob,B.blt,B.above,B.inj,B.has,B.cab,B.hd,B.frames,B.stk,B.exf,B.bs,B.bsz,B.noex,B.exfs,B.funs,B.frf⟩
theorem Inv.wish(B:Inv X Δ σ H s)(E:X3->X9->Prop):Inv (X.wish E) Δ σ H s:=⟨B.ok.wish E,B.os,B.bare,B.base,B.loc,B.cell,B.free,B.freeC,B.pin,B.hok,B.len,B.tk⟩
theorem Inv.unwish(B:Inv (X.wish E) Δ σ H s):Inv X Δ σ H s:=⟨B.ok.unwish,B.os,B.bare,B.base,B.loc,B.cell,B.free,B.freeC,B.pin,B.hok,B.len,B.tk⟩
theorem SP.unwish{D:xM}{f:Flow}{s':X9}(h:SP (X.wish E) Δ D f s'):SP X Δ D f s':=by
 cases f with
 |next=>obtain⟨σ',H',B,q⟩:=h;exact⟨σ',H',B.unwish,q⟩
 |brk=>obtain⟨σ',H',B,q⟩:=h;exact⟨σ',H',B.unwish,q⟩
 |cont=>obtain⟨σ',H',B,q⟩:=h;exact⟨σ',H',B.unwish,q⟩
 |ret u=>obtain⟨v,σ',H',B,r,q⟩:=h;exact⟨v,σ',H',B.unwish,r,q⟩
theorem Bf.nox{st:List Stmt}{t:TS}(h:Bf X.nox st t):Bf X st t:=λΔ s σ H D B hw=>
 OK (h Δ s σ H D (B.wish _) hw) (λ_ _ q=>q.unwish) λ_ _ z=>Q0 z
section
variable {st:Stmt}{rest:List Stmt}{t u:TS}{e:R8}
noncomputable def ZQ:TS:=λD σ H=>D.nx σ H
noncomputable def xH(t u:TS):TS:=λD σ H=>t { D with nx:=u D } σ H
theorem ye:Bf X [] ZQ:=λ_ _ σ H _ B h=>OI ⟨σ,H,B,h⟩
theorem ze(h1:PS X st t)(h2:Bf X rest u):Bf X (st::rest) (xH t u):=by
 intro Δ s σ H D B h;refine JA (zo (h1 Δ s σ H { D with nx:=u D } B h) λf F q=>?_);cases f with
 |next=>
  obtain⟨σ',H',G,q⟩:=q;exact h2 Δ F σ' H' D G q
 |ret v=>exact q
 |brk=>exact q
 |cont=>exact q
theorem zm(h1:PS X st t):Bf X [st] t:=by
 intro Δ s σ H D B h;refine JA (zo (h1 Δ s σ H D B h) λf F q=>?_);cases f with
 |next=>exact OI q
 |ret v=>exact q
 |brk=>exact q
 |cont=>exact q
theorem Inv.quiet(B:Inv X Δ σ H s):interactive X.env=false:=by simp[interactive,B.ok.kind]
noncomputable def ZR(te:TE):TS:=λD σ H=>te σ H λ_ H1=>D.nx σ H1
theorem yy(F:PE X e te)(G:My e none pos.line X.env=pure false:=by rfl):PS X (.Expr e pos) (ZR te):=by
 intro Δ s σ H D B h;refine wpAny_Expr_any (zo (F Δ s σ H _ B h) λv L I=>?_) B.quiet G;obtain⟨x,H1,J0,M,q1⟩:=I;exact⟨σ,H1,J0,q1⟩
noncomputable def ZS(te:TE):TS:=λD σ H=>te σ H D.rt
theorem zB(B:PE X e te):PS X (.Return (some e) pos) (ZS te):=by
 intro Δ s σ H D F h;refine wpAny_Return_some (zo (B Δ s σ H _ F h) λv L G=>?_);obtain⟨x,H1,I,J0,q1⟩:=G;exact⟨x,σ,H1,I,J0,q1⟩
noncomputable def gd(c:TT)(t u:TS):TS:=λD σ H=>c σ H λb H1=>if b=true then t D σ H1 else u D σ H1
theorem ya{c:R8}{a b:List Stmt}(G:PT X c tc)(I:Bf X a t)(J0:Bf X b u):PS X (.If c a b pos) (gd tc t u):=by
 intro Δ s σ H D L h;refine wpAny_If (zo (G Δ s σ H _ L h) λd B M=>?_);obtain⟨H1,F,q1⟩:=M;cases d with
 |true=>exact I Δ B σ H1 D F q1
 |false=>exact J0 Δ B σ H1 D F q1
noncomputable def ZT:TS:=λ_ _ _=>False
theorem wZ{B:List Stmt}:Bf X B ZT:=λ_ _ _ _ _ _ h=>h.elim
end
noncomputable abbrev TG:=V->St->Hp->(St->Hp->Prop)->Prop
noncomputable abbrev uv:=List V->St->Hp->(St->Hp->Prop)->Prop
variable {g:TG}
noncomputable def PG(X:Cx)(B:R8)(t:TG):Prop:=
 ∀(Δ:List (Addr×Obj)) (s:X9) (σ:St) (H:Hp) (v:V) (u:X3) (Q:St->Hp->Prop),Inv X Δ σ H s->RelV v u->t v σ H Q ->
  Rj (model X.prog X.w) X.A (assign B X.env u) (λ_ s'=>∃σ' H',Inv X Δ σ' H' s'/\Q σ' H') X.xe s
noncomputable def rQ(X:Cx)(B:List R8)(t:uv):Prop:=
 ∀(Δ:List (Addr×Obj)) (s:X9) (σ:St) (H:Hp) (vs:List V) (us:List X3) (Q:St->Hp->Prop),Inv X Δ σ H s->Af vs us->t vs σ H Q ->
  Rj (model X.prog X.w) X.A (assignInOrder ((OL B X.env).map (·.2)) us) (λ_ s'=>∃σ' H',Inv X Δ σ' H' s'/\Q σ' H') X.xe s
noncomputable abbrev rR:=V->V->V->Hp->(Hp->Prop)->Prop
noncomputable def on(X:Cx)(t:rR):Prop:=
 ∀(Δ:List (Addr×Obj)) (s:X9) (σ:St) (H:Hp) (o i v:V) (B D u:X3) (Q:Hp->Prop),Inv X Δ σ H s->RelV o B->RelV i D->RelV v u->t o i v H Q ->
  Rj (model X.prog X.w) X.A (setItem B D u) (λ_ s'=>∃H',Inv X Δ σ H' s'/\Q H') X.xe s
noncomputable abbrev oo:=V->V->Hp->VK->Prop
noncomputable def ge(X:Cx)(op:Ki)(t:oo):Prop:=
 ∀(Δ:List (Addr×Obj)) (s:X9) (σ:St) (H:Hp) (x y:V) (v u:X3) (Q:VK),Inv X Δ σ H s->RelV x v->RelV y u->t x y H Q ->
  Rj (model X.prog X.w) X.A (Iz op v u) (EP X Δ σ Q) X.xe s
noncomputable def va(i:Nat):TG:=λv σ H Q=>Q (σ.set i (some v)) H
theorem wA{x:Str}(B:X.N.Nodup)(hi:X.N[i]?=some x)(D:uq X.env.scope x)(F:X.fn x=true∨X.env.scope.names.lookup x=some .local:=by first|exact .inl rfl|exact .inr rfl|assumption):PG X (.Name x pos) (va i):=by
 intro Δ s σ H v u Q G r h;exact Ji (lH G B hi D r (λs' I=>⟨_,H,I,h⟩) F)
noncomputable def ZU:uv:=λvs σ H Q=>vs=[]/\Q σ H
noncomputable def ZV(t:TG)(u:uv):uv:=λvs σ H Q=>∃v r,vs=v::r/\t v σ H λσ' H'=>u r σ' H' Q
theorem yJ:rQ X [] ZU:=by
 intro Δ s σ H vs us Q B r h;obtain⟨e,h⟩:=h;subst e;cases r;exact assignInOrder_nil ⟨σ,H,B,h⟩
theorem zF{e:R8}{t:TG}{u:uv}(h1:PG X e t)(h2:rQ X es u)(B:(OL (e::es) X.env).map (·.2)=assign e X.env::(OL es X.env).map (·.2):=by rfl):rQ X (e::es) (ZV t u):=by
 intro Δ s σ H vs us Q D r h;obtain⟨v,O,F,h⟩:=h;subst F;cases r with
 |cons r G=>
  rw[B];refine assignInOrder_cons (zo (h1 Δ s σ H _ _ _ D r h) λ_ I J0=>?_);obtain⟨L,H1,M,q1⟩:=J0;exact h2 Δ I L H1 _ _ Q M G q1
noncomputable def gh(K:W.Frag)(n:Nat)(t:uv):TG:=λv σ H Q=>∃a xs,v=.ref a/\Ah K H a xs/\xs.length=n/\t xs σ H Q
theorem yR{k:Nat}{t:uv}(F:X.calm=true)(h:rQ X es t)(G:(OL es X.env).length=n:=by rfl)(I:(OL es X.env).findIdx? (·.1)=none:=by rfl):PG X (.Tuple es k pos) (gh X.K n t):=by
 intro Δ s σ H v u Q B r hw;obtain⟨a,xs,J0,L,M,hw⟩:=hw;subst J0;cases r;obtain⟨its,D,ht,S⟩:=B.tuple L;refine assign_Tuple_tuple (B.ok.hd F) ht (by simp[G,←M,D.length]) I λh' O=>?_;have R:Inv X Δ σ H { s with heap:=h' }:=B.kept (t':=s.toks) λb o e=>O b o (RE (S6 e)) e;exact h Δ _ σ H xs _ Q R (by simpa using D) hw
noncomputable def ZW(to B:TE)(t:rR):TG:=λv σ H Q=>to σ H λo H1=>B σ H1 λi H2=>t o i v H2 λD=>Q σ D
theorem rS{o i:R8}{to G:TE}{t:rR}(I:PE X o to)(hi:PE X i G)(J0:on X t)(L:∀v,assign (.Subscript o i pos) X.env v=(do
   let B ← holding [v] (eval o X.env);let D ← holding [v,B] (eval i X.env)
   N7 pos
   holding [v,B,D] (setItem B D v)
   release [v,B,D] []):=by intro _;rfl):PG X (.Subscript o i pos) (ZW to G t):=by
 intro Δ s σ H v u Q M r h;rw[L];refine W6 (OC (zo (I Δ s σ H _ M h) λB O F=>?_));obtain⟨x,H1,R,S,q1⟩:=F;refine W6 (OC (zo (hi Δ O σ H1 _ R q1) λD U F=>?_));obtain⟨y,H2,V,W,Y⟩:=F;refine W6 (KO (W6 (OC (zo (J0 Δ U σ H2 x y v B D u _ V S W r Y) λ_ ac F=>?_))));obtain⟨Z,aa,ab⟩:=F;exact wpAny_release ⟨σ,Z,aa,ab⟩
noncomputable def lJ(te:TE)(g:TG):TS:=λD σ H=>te σ H λx H1=>g x σ H1 D.nx
theorem xt{e:R8}(B:PE X e te)(F:PG X tg g)(G:swapsWithSole [tg] e pos.line X.env=pure false:=by rfl)(hw:swappedStores [tg] e X.env=pure none:=by rfl)(h1:(OL [tg] X.env).map (·.2)=[assign tg X.env]:=by rfl):PS X (.Assign [tg] e pos) (lJ te g):=by
 intro Δ s σ H D I h;refine wpAny_Assign_stores (zo (B Δ s σ H _ I h) λv J0 L=>?_) G hw;obtain⟨x,H1,M,O,q1⟩:=L;rw[h1];exact zo (F Δ J0 σ H1 x v _ M O q1) λ_ R q=>q
theorem rT{x:Str}{e:R8}{pos':Pos}(B:X.N.Nodup)(hi:X.N[i]?=some x)(F:uq X.env.scope x)(G:PE X e te)(I:My e (some (.Name x pos')) pos.line X.env=pure false:=by rfl)(J0:X.fn x=true∨X.env.scope.names.lookup x=some .local:=by first|exact .inl rfl|exact .inr rfl|assumption) :
  PS X (.Assign [.Name x pos'] e pos) (lJ te (va i)):=by
 intro Δ s σ H D L h;refine wpAny_Assign_Name (zo (G Δ s σ H _ L h) λv U M=>?_) I;obtain⟨y,H1,O,R,q1⟩:=M;exact lH O B hi F R (λV S=>⟨_,H1,S,q1⟩) J0
noncomputable def ZX(i:Nat)(te:TE)(B:oo):TS:=λD σ H=>∃x,σ[i]?=some (some x)/\te σ H λy H1=>B x y H1 λz H2=>D.nx (σ.set i (some z)) H2
theorem rV{x:Str}{e:R8}{op:Ki}{I:oo}{pos':Pos}(J0:X.N.Nodup)(hi:X.N[i]?=some x)(F:uq X.env.scope x)(L:PE X e te)(M:ge X op I)(O:X.fn x=true∨X.env.scope.names.lookup x=some .local:=by first|exact .inl rfl|exact .inr rfl|assumption) :
  PS X (.AugAssign (.Name x pos') op e pos) (ZX i te I):=by
 intro Δ s σ H D B h;obtain⟨v,R,h⟩:=h;obtain⟨m,S,U⟩:=B.loc;have V:xL X.env.scope x:=by rcases F with k|k;exact .inl k;exact .inr (.inl k)
 obtain⟨u,r,l⟩:=U i x v hi R V;refine wpAny_AugAssign_Name ?_;have go:Rj (model X.prog X.w) X.A (eval e X.env) (λw W=>Rj (model X.prog X.w) X.A (Iz op u w) (λr Y=>Rj (model X.prog X.w) X.A (Iy X.env x r) (λ_=>SP X Δ D .next) X.xe Y) X.xe W) X.xe s:=by
  refine zo (L Δ s σ H _ B h) λw Z G=>?_;obtain⟨y,H1,aa,ab,q1⟩:=G;refine zo (M Δ Z σ H1 v y u w _ aa r ab q1) λz aj G=>?_;obtain⟨ak,H2,ac,ad,ae⟩:=G;exact lH ac J0 hi F ad (λal af=>⟨_,H2,af,ae⟩) O
 rcases l with⟨hk,ag⟩|⟨hk,c,ah,ai⟩
 .exact Nn B.ok.kind hk S ag go
 .rcases hk with hk|hk
  .exact KG B.ok.kind hk ah ai go
  .rcases F with k|k
   .have:X.env.scope.names.lookup x=some .free:=hk;rw[k] at this;cases this
   .have:X.env.scope.names.lookup x=some .free:=hk;rw[k] at this;cases this
noncomputable def ZY(f:Int->Int->Int):oo:=λx y H Q=>∃i j,x=.int i/\y=.int j/\Q (.int (f i j)) H
theorem rW:ge X .Add (ZY λi j=>i+j):=by
 intro Δ s σ H x y v u Q B D F h;obtain⟨i,j,G,I,q⟩:=h;subst G;subst I;obtain⟨t,rfl⟩:=D;obtain⟨t',rfl⟩:=F;exact iadd_int ⟨.int _,H,B.tok _,⟨_,J⟩,q⟩
noncomputable def gi(c:TT)(tb:TS):TS:=λD σ H=>∃W:Nat->St->Hp->Prop,(∃m,W m σ H)/\∀m σ H,W m σ H ->
 c σ H λb H1=>if b=true then ∃N:St->Hp->Prop,(∀σ' H',N σ' H'->∃B,B<m/\W B σ' H')/\tb { D with nx:=N,ct:=N,bk:=D.nx } σ H1 else D.nx σ H1
theorem uw{c:R8}{S:List Stmt}(U:IA (model X.prog X.w) X.A X.env X.xe)(Z:PT X c tc)(aa:Bf X S tb):PS X (.While c S [] pos) (gi tc tb):=by
 intro Δ s σ H D ab h;obtain⟨W,⟨ac,ad⟩,turn⟩:=h;refine wpAny_While (codeAny_whileLoop (λn s'=>∃σ' H',Inv X Δ σ' H' s'/\W n σ' H') ?_ ac ⟨σ,H,ab,ad⟩);rintro n ae ⟨G,H1,af,ag⟩;refine QN U (zo (Z Δ ae G H1 _ af (turn n G H1 ag)) λb ah ai=>?_);obtain⟨H2,V,I⟩:=ai;cases b with
 |true=>
  obtain⟨N,Y,I⟩:=I;rw[Qxb rfl];refine QN U (zo (aa Δ ah G H2 _ V I) λf aj J0=>?_);cases f with
  |next=>
   obtain⟨B,F,L,n3⟩:=J0;obtain⟨M,O,R⟩:=Y B F n3;exact⟨M,O,B,F,L,R⟩
  |cont=>
   obtain⟨B,F,L,n3⟩:=J0;obtain⟨M,O,R⟩:=Y B F n3;exact⟨M,O,B,F,L,R⟩
  |brk=>exact J0
  |ret v=>exact J0
 |false=>
  rw[Qxa Rb];exact OI ⟨G,H2,V,I⟩
structure It where
 go:Nat->Hp->Prop
 yld:Nat->Hp->V->Hp->Prop
 stop:Nat->Hp->Prop
noncomputable def xN(X:Cx)(Δ:List (Addr×Obj))(H:Hp)(b:Addr):Prop:=
 H b=none/\b≠X.env.locals/\b∉X.fs/\(b∈X.ex∨X.s₀.heap.objs.size<=b)/\(∀x c,X.env.cells.lookup x=some c->c≠b)/\∀p∈X.pn++Δ,p.1≠b
theorem Inv.fpOk{H':Hp}{b:Addr}(B:Inv X Δ σ H s)(D:s.heap.objs.size<=b)(F:H' b=none):xN X Δ H' b:=by
 refine⟨F,IH (Rt B.lt D),B.nofs D,.inr (S5 B.sz D),λx c e z=>?_,λp G z=>?_⟩
 .obtain⟨v,q⟩:=B.cell x c e;exact absurd (Rt q.lt (by rw[z];exact D)) (Pe _)
 .exact absurd (Rt (S6 (B.pin p G).1) (by rw[z];exact D)) (Pe _)
structure vN(P:U2)(w:Rz)(K:W.Frag)(tg:R8)(J0:It)(fp:List Addr)(it:Addr)(tn:Nat->Heap->Prop):Prop where
 mem:it∈fp
 obj:∀i h,tn i h->∀b∈fp,∃o,h.get? b=some o/\∀v,o.data≠.cell v
 keep:∀i h h',tn i h->(∀b∈fp,∀o,h.get? b=some o->h'.get? b=some o)->tn i h'
 item:∀(X:Cx),X.prog=P->X.w=w->X.K=K->X.calm=true->∀(i:Nat) (Δ:List (Addr×Obj)) (s:X9) (σ:St) (H:Hp) (E:X3->X9->Prop),Inv X Δ σ H s->(∀b∈fp,xN X Δ H b)->tn i s.heap->J0.go i H ->
  Rj (model P w) X.A (II (.ref it)) (λr s1=>∃u,r=some u /\
   Rj (model P w) X.A (Nv tg (.ref it) u) (λ_ s2=>∃x H',Inv X Δ σ H' s2/\RelV x u/\J0.yld i H x H'/\tn (i+1) s2.heap/\∀b∈fp,H' b=none) E s1) E s
 done:∀(X:Cx),X.prog=P->X.w=w->X.K=K->X.calm=true->∀(i:Nat) (Δ:List (Addr×Obj)) (s:X9) (σ:St) (H:Hp) (E:X3->X9->Prop),Inv X Δ σ H s->(∀b∈fp,xN X Δ H b)->tn i s.heap->J0.stop i H ->
  Rj (model P w) X.A (II (.ref it)) (λr s1=>r=none/\Inv X Δ σ H s1) E s
 self:∀(A:QG) (i:Nat) (s:X9) (Q:X3->X9->Prop) (E:X3->X9->Prop),tn i s.heap->Q (.ref it) s->Rj (model P w) A (IJ (.ref it)) Q E s
noncomputable abbrev TI:=St->Hp->(It->Hp->Prop)->Prop
noncomputable def lK(X:Cx)(Δ:List (Addr×Obj))(σ:St)(tg:R8)(R:It->Hp->Prop)(F:X3)(B:X9):Prop:=
 ∃(it:Addr) (fp:List Addr) (D:Nat->Heap->Prop) (J0:It) (H':Hp),F=.ref it/\Inv X Δ σ H' B/\vN X.prog X.w X.K tg J0 fp it D/\D 0 B.heap/\(∀b∈fp,xN X Δ H' b)/\R J0 H'
noncomputable def PI(X:Cx)(tg iter:R8)(wi:TI):Prop:=
 ∀(Δ:List (Addr×Obj)) (s:X9) (σ:St) (H:Hp) (R:It->Hp->Prop),Inv X Δ σ H s->wi σ H R ->
  Rj (model X.prog X.w) X.A (eval iter X.env) (λv B=>Rj (model X.prog X.w) X.A (IJ v) (lK X Δ σ tg R) X.xe B) X.xe s
theorem sP{D:Model}{o:Obj}{n:String}{vs:Array X3}{Q:Unit->X9->Prop}(F:s.heap.get? it=some o)(G:o.cls=.type n)(I:o.data=.fields vs)(J0:["enumerate","zip","dict_itemiterator","dict_reverseitemiterator","odict_iterator","itertools.zip_longest","itertools.pairwise"].contains n=false)(B:Q () s):Rj D A (Nv tg (.ref it) u) Q E s:=by
 unfold Nv;cases tg<;>first
  |exact S3 B
  |(cases u<;>first
    |exact S3 B
    |(refine W6 (wpAny_load F ?_)
      rw[G,I];show Rj D A (if (["enumerate","zip","dict_itemiterator","dict_reverseitemiterator","odict_iterator","itertools.zip_longest","itertools.pairwise"].contains n&&vs[0]?==some (Pw _))=true then _ else _) Q E s;rw[Qxa (by intro h;rw[J0,PU] at h;cases h)];exact S3 B))
noncomputable def sQ(K:W.Frag)(a:Addr):It:=
 ⟨λi H=>∃xs x,Ad K H a xs/\xs[i]?=some x,λi H x H'=>H'=H/\∀xs,Ad K H a xs->xs[i]?=some x,λi H=>∃xs,Ad K H a xs/\xs.length<=i⟩
noncomputable def sR(K:W.Frag)(a:Addr):It:=
 ⟨λi H=>∃xs x,Ah K H a xs/\xs[i]?=some x,λi H x H'=>H'=H/\∀xs,Ah K H a xs->xs[i]?=some x,λi H=>∃xs,Ah K H a xs/\xs.length<=i⟩
noncomputable def tI(lo:Int)(n:Nat):It:=⟨λi _=>i<n,λi H x H'=>H'=H/\x=.int (lo+i),λi _=>n<=i⟩
theorem ZZ(a it:Addr):vN P w K tg (sQ K a) [it] it (λi h=>h.IsListIter it a i) where
 mem:=by simp
 obj:=λi h st b B=>by
  have e:b=it:=by simpa using B
  subst e;obtain⟨o,e,c,d⟩:=st;exact⟨o,e,λv z=>by rw[d] at z;cases z⟩
 keep:=λi h h' st k=>st.at λo e=>k it (by simp) o e
 item:=by
  intro X J0 hw L Z i Δ s σ H E D F st M;subst J0 hw L;obtain⟨xs,x,G,I⟩:=M;obtain⟨its,O,p,ab⟩:=D.list G;obtain⟨u,ac,ad⟩:=O.get I;obtain⟨R,S,ae,U,V,Y⟩:=F it (by simp);refine MN st p.isList (x:=u) (by simpa using ac) λh' aa af=>?_;have ag:Inv X Δ σ H { s with heap:=h' }:=D.turned (t':=s.toks) (λb o B e=>(af.2 b B).trans e) R S U V Y;obtain⟨o,e,c,d⟩:=id aa;exact⟨u,J,sP (s:={ s with heap:=h' }) e c d (by decide) ⟨x,H,ag,ad,⟨J,λys ah=>by rw[D.list_inj ah G];exact I⟩,aa,λb B=>(F b B).1⟩⟩
 done:=by
  intro X J0 hw L Z i Δ s σ H E D F st M;subst J0 hw L;obtain⟨xs,G,I⟩:=M;obtain⟨its,O,p,ab⟩:=D.list G;obtain⟨R,S,ae,U,V,Y⟩:=F it (by simp);have ai:=O.length;exact Kb (D.ok.hd Z) st p.isList (by simp;exact xq (RH ai) I) λh' aj=>⟨J,D.turned (t':=s.toks) (λb o B e=>aj b o B e) R S U V Y⟩
 self:=λ_ _ _ _ _ st h=>wpAny_pyIter_listiter st h
theorem Z0(a it:Addr):vN P w K tg (sR K a) [it] it (λi h=>h.IsTupleIter it a i) where
 mem:=by simp
 obj:=λi h st b B=>by
  have e:b=it:=by simpa using B
  subst e;obtain⟨o,e,c,d⟩:=st;exact⟨o,e,λv z=>by rw[d] at z;cases z⟩
 keep:=λi h h' st k=>st.at λo e=>k it (by simp) o e
 item:=by
  intro X J0 hw L Z i Δ s σ H E D F st M;subst J0 hw L;obtain⟨xs,x,G,I⟩:=M;obtain⟨its,O,p,ab⟩:=D.tuple G;obtain⟨u,ac,ad⟩:=O.get I;obtain⟨R,S,ae,U,V,Y⟩:=F it (by simp);refine wpAny_pyNext_tuple_item st (show s.heap.IsTuple a its.toArray from p) (x:=u) (by simpa using ac) λh' aa af=>?_;have ag:Inv X Δ σ H { s with heap:=h' }:=D.turned (t':=s.toks) (λb o B e=>(af.2 b B).trans e) R S U V Y;obtain⟨o,e,c,d⟩:=id aa;exact⟨u,J,sP (s:={ s with heap:=h' }) e c d (by decide) ⟨x,H,ag,ad,⟨J,λys ah=>by rw[D.tuple_inj ah G];exact I⟩,aa,λb B=>(F b B).1⟩⟩
 done:=by
  intro X J0 hw L Z i Δ s σ H E D F st M;subst J0 hw L;obtain⟨xs,G,I⟩:=M;obtain⟨its,O,p,ab⟩:=D.tuple G;obtain⟨R,S,ae,U,V,Y⟩:=F it (by simp);have ai:=O.length;exact wpAny_pyNext_tuple_end (D.ok.hd Z) st (show s.heap.IsTuple a its.toArray from p) (by simp;exact xq (RH ai) I) λh' aj=>⟨J,D.turned (t':=s.toks) (λb o B e=>aj b o B e) R S U V Y⟩
 self:=λ_ _ _ _ _ st h=>wpAny_pyIter_tupleiter st h
theorem Z1(it:Addr)(lo:Int)(n:Nat):vN P w K tg (tI lo n) [it] it (λi h=>N8 h it (lo+(i:Nat)*1) ((n:Int)-(i:Nat)) 1) where
 mem:=by simp
 obj:=λi h st b B=>by
  have e:b=it:=by simpa using B
  subst e;exact⟨_,st,λv z=>by
   have z':JO _=Data.cell v:=z;cases z'⟩
 keep:=λi h h' st k=>k it (by simp) _ st
 item:=by
  intro X G hw I J0 i Δ s σ H E D F st L;subst G hw I;obtain⟨M,O,Z,R,S,U⟩:=F it (by simp);have W:=I0 (prog:=X.prog) (w:=X.w) (D.ok.hd J0) it lo 1 n;refine R7 (n:=X.t0) D.tk ?_;refine W.item i s _ _ L st λv h' tk aa V ab Y=>?_;have Y:X.t0<=tk:=Y;obtain⟨t,rfl⟩:=aa;have ac:Inv X Δ σ H { s with heap:=h',toks:=tk }:=D.turned (λb o B e=>ab b o (by simpa using B) e) M O R S U;refine⟨_,J,sP (s:={ s with heap:=h',toks:=tk }) (n:="range_iterator") V J J (by decide) ⟨.int (lo+i),H,ac,⟨t,?_⟩,⟨J,J⟩,V,λb B=>(F b B).1⟩⟩;rw[Int.mul_one]
 done:=by
  intro X G hw I J0 i Δ s σ H E D F st L;subst G hw I;obtain⟨M,O,Z,R,S,U⟩:=F it (by simp);exact MO (D.ok.hd J0) st (by have:n<=i:=L;exact hZ this) λh' ad=>⟨J,D.turned (t':=s.toks) (λb o B e=>ad b o B e) M O R S U⟩
 self:=λ_ _ _ _ _ st h=>OX st h
noncomputable def gj(K:W.Frag)(tl:TE):TI:=λσ H R=>tl σ H λx H1=>∃a,x=.ref a/\(∃xs,Ad K H1 a xs)/\R (sQ K a) H1
noncomputable def gk(K:W.Frag)(tl:TE):TI:=λσ H R=>tl σ H λx H1=>∃a,x=.ref a/\(∃xs,Ah K H1 a xs)/\R (sR K a) H1
theorem xb(F:PE X l tl):PI X tg l (gj X.K tl):=by
 intro Δ s σ H R G h;refine zo (F Δ s σ H _ G h) λv B I=>?_;obtain⟨x,H1,D,J0,q1⟩:=I;obtain⟨a,e,⟨xs,L⟩,q⟩:=q1;subst e;cases J0;obtain⟨its,O,p,S⟩:=D.list L;refine N9 p.isList ?_;refine⟨B.heap.objs.size,[B.heap.objs.size],_,_,H1,J,D.kept (t':=B.toks) λb o e=>W0 _ e,ZZ a _,⟨_,Ru _ J,J,J⟩,λb M=>?_,q⟩;have e:b=B.heap.objs.size:=by simpa using M
 subst e;exact D.fpOk (X2 _) (D.hok.fresh (X2 _))
theorem xX(F:PE X l tl):PI X tg l (gk X.K tl):=by
 intro Δ s σ H R G h;refine zo (F Δ s σ H _ G h) λv B I=>?_;obtain⟨x,H1,D,J0,q1⟩:=I;obtain⟨a,e,⟨xs,L⟩,q⟩:=q1;subst e;cases J0;obtain⟨its,O,p,S⟩:=D.tuple L;refine wpAny_pyIter_tuple (show B.heap.IsTuple a its.toArray from p) ?_;refine⟨B.heap.objs.size,[B.heap.objs.size],_,_,H1,J,D.kept (t':=B.toks) λb o e=>W0 _ e,Z0 a _,⟨_,Ru _ J,J,J⟩,λb M=>?_,q⟩;have e:b=B.heap.objs.size:=by simpa using M
 subst e;exact D.fpOk (X2 _) (D.hok.fresh (X2 _))
theorem gm{R:It->Hp->Prop}{E:X3->X9->Prop}{hi:Int}{t u v:Tok}{tk:Nat}(D:Inv X Δ σ H s)(h1:-(2 ^ 62)<=lo)(h2:lo<2 ^ 62)(F:-(2 ^ 62)<=hi)(G:hi<2 ^ 62)(q:R (tI lo (hi-lo).toNat) H)(ht:X.t0<=tk:=by first|assumption|exact Inv.tk (by assumption)|(have q:=Inv.tk (by assumption);omega)):Rj (model X.prog X.w) X.A (IJ (.ref s.heap.objs.size)) (lK X Δ σ tg R) E { s with heap:=s.heap.push { cls:=.type "range",data:=.fields #[.int lo t,.int hi u,.int 1 v] },toks:=tk }:=by
 refine wpAny_pyIter_range (I1 ..) (small_one h1 h2 F G) ?_;have B:Inv X Δ σ H { s with heap:=s.heap.push { cls:=.type "range",data:=.fields #[.int lo t,.int hi u,.int 1 v] },toks:=tk }:=D.kept λb o e=>W0 _ e;refine⟨(s.heap.push { cls:=.type "range",data:=.fields #[.int lo t,.int hi u,.int 1 v] }).objs.size,[(s.heap.push { cls:=.type "range",data:=.fields #[.int lo t,.int hi u,.int 1 v] }).objs.size],_,_,H,J,
  B.kept (t':=tk) λb o e=>W0 _ e,Z1 _ lo (hi-lo).toNat,?_,λb I=>?_,q⟩
 .have J0:lo+((0:Nat):Int)*1=lo:=by simp
  have L:(((hi-lo).toNat:Nat):Int)-((0:Nat):Int)=PV lo hi 1:=by rw[rangeSize_one];split<;>omega
  show N8 _ _ (lo+((0:Nat):Int)*1) ((((hi-lo).toNat:Nat):Int)-((0:Nat):Int)) 1;rw[J0,L];exact Ru _ rfl
 .have e:b=(s.heap.push { cls:=.type "range",data:=.fields #[.int lo t,.int hi u,.int 1 v] }).objs.size:=by simpa using I
  subst e;exact B.fpOk (X2 _) (B.hok.fresh (X2 _))
noncomputable def gn(ta:TA):TI:=λσ H R=>ta σ H λvs H1=>∃j:Int,vs=[.int j]/\-(2 ^ 62)<=j/\j<2 ^ 62/\R (tI 0 j.toNat) H1
theorem rX{a:R8}{ta:TA}{p pos:Pos}(D:Gl X "range")(F:X.mg "range"=none)(G:PA X [a] ta)(I:T2 [a] X.env=[(false,eval a X.env)]:=by rfl):PI X tg (.Call (.Name "range" p) [a] [] pos) (gn ta):=by
 intro Δ s σ H R B h;refine Call_ (wz B D F JZ (QF (zo (G pos Δ s σ H _ B h) λus U J0=>?_) I J));obtain⟨vs,H1,L,M,q1⟩:=J0;obtain⟨j,e,q1,O,q⟩:=q1;subst e;cases M with
 |cons r S=>
  cases S;obtain⟨t,rfl⟩:=r;exact Jj (gm L (RC _) (RC _) q1 O (by simpa using q))
noncomputable def lL(wi:TI)(g:TG)(tb:TS):TS:=λD σ H=>wi σ H λJ0 H1=>∃W:Nat->Nat->St->Hp->Prop,(∃m,W 0 m σ H1)/\∀i m σ H,W i m σ H ->
 (J0.stop i H/\D.nx σ H)∨(J0.go i H/\∃N:St->Hp->Prop,(∀σ' H',N σ' H'->∃B,B<m/\W (i+1) B σ' H')/\∀x H',J0.yld i H x H'->g x σ H' λF H2=>tb { D with nx:=N,ct:=N,bk:=D.nx } F H2)
noncomputable def sT(fp:List Addr)(h:Heap):List (Addr×Obj):=fp.filterMap λb=>(h.get? b).map λo=>(b,o)
theorem sU{b:Addr}{o:Obj}(B:b∈fp)(e:h.get? b=some o):(b,o)∈sT fp h:=OM.mpr ⟨b,B,by rw[e];rfl⟩
theorem Z2{p:Addr×Obj}(B:p∈sT fp h):p.1∈fp/\h.get? p.1=some p.2:=by
 obtain⟨b,D,e⟩:=OM.mp B;cases q:h.get? b with
 |none=>rw[q] at e;cases e
 |some o=>
  rw[q] at e;have F:(b,o)=p:=R4 e;subst F;exact⟨D,q⟩
theorem Inv.pinned(B:Inv X Δ σ H s)(G:∀b∈fp,xN X Δ H b)(I:∀b∈fp,∃o,s.heap.get? b=some o/\∀v,o.data≠.cell v):Inv X (Δ++sT fp s.heap) σ H s:=
 B.pins_of λp J0=>(T6.mp J0).elim (λz=>B.pin p (S2 _ z)) λz=>by
  obtain⟨D,e⟩:=Z2 z;obtain⟨L,M,O,_⟩:=G p.1 D;obtain⟨o,F,d⟩:=I p.1 D;rw[e] at F;cases F;exact⟨e,L,M,O,d⟩
theorem Inv.unpinned{pl:List (Addr×Obj)}(B:Inv X (Δ++pl) σ H s):Inv X Δ σ H s:=B.pins_of λp D=>B.pin p (S2 _ (RW _ D))
theorem xu{iter:R8}{aa:List Stmt}{wi:TI}{pos:Pos}(M:IA (model X.prog X.w) X.A X.env X.xe)(ab:X.calm=true)(hi:PI X tg iter wi)(ak:PG X tg g)(B:Bf X aa tb)(al:∀x,OY iter X.env x=pure x:=by intro _;rfl):PS X (.For tg iter aa [] pos) (lL wi g tb):=by
 intro Δ s σ H D am h;refine wpAny_For (zo (hi Δ s σ H _ am h) λv aP h1=>zo h1 λaQ aR h2=>?_) al;obtain⟨it,fp,ac,J0,H2,e,ao,T,ap,ad,W,⟨aq,ar⟩,turn⟩:=h2;subst e
 -- what stays true of the iterator's objects through the loop
 have U:∀ {H':Hp},(∀b∈fp,H' b=none)->∀b∈fp,xN X Δ H' b:=λas b B=>⟨as b B,(ad b B).2⟩;refine KH (λn s'=>∃i σ' H',Inv X Δ σ' H' s'/\ac i s'.heap/\(∀b∈fp,H' b=none)/\W i n σ' H') ?_ aq ⟨0,σ,H2,ao,ap,λb B=>(ad b B).1,ar⟩;rintro n ae ⟨i,O,S,af,ag,ah,au⟩;rcases turn i n O S au with⟨stop,av⟩|⟨go,N,aw,step⟩
 .refine QN M (zo (T.done X J J J ab i Δ ae O S X.xe af (U ah) ag stop) λr ax ⟨V,ay⟩=>?_);subst V;exact OI ⟨O,S,ay,av⟩
 .refine QN M (zo (T.item X J J J ab i Δ ae O S X.xe af (U ah) ag go) λr ax ⟨u,V,az⟩=>?_);subst V;refine QN M (zo az λ_ ai Y=>?_);obtain⟨x,aj,aA,aB,aC,hr,aD⟩:=Y;have aE:=aA.pinned (U aD) (T.obj _ _ hr);refine QN M (zo (ak _ ai O aj x u _ aE aB (step x aj aC)) λ_ aF Y=>?_);obtain⟨aG,aH,aI,aJ⟩:=Y;refine QN M (zo (B _ aF aG aH _ aI aJ) λf Z L=>?_);have again:∀ {F:St} {G:Hp},Inv X (Δ++sT fp ai.heap) F G Z->N F G->∃m,m<n/\∃i σ' H',Inv X Δ σ' H' Z/\ac i Z.heap/\(∀b∈fp,H' b=none)/\W i m σ' H':=λ{F G} I R=>by
   obtain⟨aK,aL,aM⟩:=aw F G R;refine⟨aK,aL,i+1,F,G,I.unpinned,T.keep _ _ _ hr λb B o e=>(I.pin (b,o) (S2 _ (S2 _ (sU B e)))).1,λb B=>?_,aM⟩;obtain⟨o,e,d⟩:=T.obj _ _ hr b B;exact(I.pin (b,o) (S2 _ (S2 _ (sU B e)))).2.1
  cases f with
  |next=>obtain⟨F,G,I,R⟩:=L;exact again I R
  |cont=>obtain⟨F,G,I,R⟩:=L;exact again I R
  |brk=>obtain⟨F,G,I,L⟩:=L;exact⟨F,G,I.unpinned,L⟩
  |ret v=>obtain⟨aN,F,G,I,aO,L⟩:=L;exact⟨aN,F,G,I.unpinned,aO,L⟩
theorem tJ{a:Addr}{D:xM}(Pv:Nat->St->Hp->Prop)(I:Pv 0 σ H)(J0:∀i σ H,i<=xs.length->Pv i σ H->Ad K H a xs)(L:∀i x σ H,xs[i]?=some x->Pv i σ H->g x σ H λF H2=>tb { D with nx:=Pv (i+1),ct:=Pv (i+1),bk:=D.nx } F H2)(M:∀σ H,Pv xs.length σ H->D.nx σ H) :
  ∃W:Nat->Nat->St->Hp->Prop,(∃m,W 0 m σ H)/\∀i m σ H,W i m σ H ->
   ((sQ K a).stop i H/\D.nx σ H)∨((sQ K a).go i H/\∃N:St->Hp->Prop,(∀σ' H',N σ' H'->∃G,G<m/\W (i+1) G σ' H')/\∀x H',(sQ K a).yld i H x H'->g x σ H' λF H2=>tb { D with nx:=N,ct:=N,bk:=D.nx } F H2):=by
 refine⟨λi m σ H=>m=xs.length-i/\i<=xs.length/\Pv i σ H,⟨xs.length,by simp,X7 _,I⟩,?_⟩;rintro i m σ H ⟨rfl,hi,p⟩;have q:=J0 i σ H hi p;by_cases B:i<xs.length
 .refine .inr ⟨⟨xs,xs[i],q,by simp[B]⟩,Pv (i+1),λσ' H' O=>⟨xs.length-(i+1),by exact vK B,J,B,O⟩,λx H' y=>?_⟩;obtain⟨e,y⟩:=y;subst e;exact L i x σ _ (y xs q) p
 .have e:i=xs.length:=RU hi (Qt.1 B);subst e;exact .inl ⟨⟨xs,q,X2 _⟩,M σ H p⟩
theorem ux{a:Addr}{D:xM}(Pv:Nat->St->Hp->Prop)(I:Pv 0 σ H)(J0:∀i σ H,i<=xs.length->Pv i σ H->Ah K H a xs)(L:∀i x σ H,xs[i]?=some x->Pv i σ H->g x σ H λF H2=>tb { D with nx:=Pv (i+1),ct:=Pv (i+1),bk:=D.nx } F H2)(M:∀σ H,Pv xs.length σ H->D.nx σ H) :
  ∃W:Nat->Nat->St->Hp->Prop,(∃m,W 0 m σ H)/\∀i m σ H,W i m σ H ->
   ((sR K a).stop i H/\D.nx σ H)∨((sR K a).go i H/\∃N:St->Hp->Prop,(∀σ' H',N σ' H'->∃G,G<m/\W (i+1) G σ' H')/\∀x H',(sR K a).yld i H x H'->g x σ H' λF H2=>tb { D with nx:=N,ct:=N,bk:=D.nx } F H2):=by
 refine⟨λi m σ H=>m=xs.length-i/\i<=xs.length/\Pv i σ H,⟨xs.length,by simp,X7 _,I⟩,?_⟩;rintro i m σ H ⟨rfl,hi,p⟩;have q:=J0 i σ H hi p;by_cases B:i<xs.length
 .refine .inr ⟨⟨xs,xs[i],q,by simp[B]⟩,Pv (i+1),λσ' H' O=>⟨xs.length-(i+1),by exact vK B,J,B,O⟩,λx H' y=>?_⟩;obtain⟨e,y⟩:=y;subst e;exact L i x σ _ (y xs q) p
 .have e:i=xs.length:=RU hi (Qt.1 B);subst e;exact .inl ⟨⟨xs,q,X2 _⟩,M σ H p⟩
theorem rY{D:xM}(Pv:Nat->St->Hp->Prop)(I:Pv 0 σ H)(J0:∀i σ H,i<n->Pv i σ H->g (.int (lo+i)) σ H λF H2=>tb { D with nx:=Pv (i+1),ct:=Pv (i+1),bk:=D.nx } F H2)(L:∀σ H,Pv n σ H->D.nx σ H) :
  ∃W:Nat->Nat->St->Hp->Prop,(∃m,W 0 m σ H)/\∀i m σ H,W i m σ H ->
   ((tI lo n).stop i H/\D.nx σ H)∨((tI lo n).go i H/\∃N:St->Hp->Prop,(∀σ' H',N σ' H'->∃G,G<m/\W (i+1) G σ' H')/\∀x H',(tI lo n).yld i H x H'->g x σ H' λF H2=>tb { D with nx:=N,ct:=N,bk:=D.nx } F H2):=by
 refine⟨λi m σ H=>m=n-i/\i<=n/\Pv i σ H,⟨n,by simp,X7 _,I⟩,?_⟩;rintro i m σ H ⟨rfl,hi,p⟩;by_cases B:i<n
 .refine .inr ⟨B,Pv (i+1),λσ' H' M=>⟨n-(i+1),by exact vK B,J,B,M⟩,λx H' y=>?_⟩;obtain⟨e,y⟩:=y;subst e y;exact J0 i σ _ B p
 .have e:i=n:=RU hi (Qt.1 B);subst e;exact .inl ⟨X2 _,L σ H p⟩
theorem uy{c:TT}{D:xM}(Pv:St->Hp->Prop)(B:St->Hp->Nat)(G:Pv σ H)(I:∀σ H,Pv σ H->c σ H λb H1=>if b=true then tb { D with nx:=λσ' H'=>Pv σ' H'/\B σ' H'<B σ H,ct:=λσ' H'=>Pv σ' H'/\B σ' H'<B σ H,bk:=D.nx } σ H1 else D.nx σ H1)(J0:∀σ H Q F,(∀b H1,Q b H1->F b H1)->c σ H Q->c σ H F):gi c tb D σ H:=by
 refine⟨λm σ H=>m=B σ H/\Pv σ H,⟨_,J,G⟩,?_⟩;rintro m σ H ⟨rfl,p⟩;refine J0 σ H _ _ (λb H1 q=>?_) (I σ H p);cases b with
 |true=>exact⟨_,λσ' H' ⟨L,l⟩=>⟨_,l,J,L⟩,q⟩
 |false=>exact q
noncomputable abbrev R2:=V->V->Hp->VK->Prop
variable {r:R2}
noncomputable def yt(X:Cx)(f:X3->X3->Sem X3)(r:R2):Prop:=
 ∀(Δ:List (Addr×Obj)) (s:X9) (σ:St) (H:Hp) (x y:V) (v u:X3) (Q:VK),Inv X Δ σ H s->RelV x v->RelV y u->r x y H Q ->
  Rj (model X.prog X.w) X.A (f v u) (EP X Δ σ Q) X.xe s
noncomputable def lM(X:Cx)(f:X3->Sem X3)(r:V->Hp->VK->Prop):Prop:=
 ∀(Δ:List (Addr×Obj)) (s:X9) (σ:St) (H:Hp) (x:V) (v:X3) (Q:VK),Inv X Δ σ H s->RelV x v->r x H Q ->
  Rj (model X.prog X.w) X.A (f v) (EP X Δ σ Q) X.xe s
noncomputable def xY(X:Cx)(f:X3)(r:List V->Hp->VK->Prop):Prop:=
 ∀(Δ:List (Addr×Obj)) (s:X9) (σ:St) (H:Hp) (xs:List V) (us:List X3) (Q:VK),Inv X Δ σ H s->Af xs us->r xs H Q ->
  Rj (model X.prog X.w) X.A (call f us) (EP X Δ σ Q) X.xe s
noncomputable def Z3(X:Cx)(r:V->Hp->(Bool->Hp->Prop)->Prop):Prop:=
 ∀(Δ:List (Addr×Obj)) (s:X9) (σ:St) (H:Hp) (x:V) (v:X3) (Q:Bool->Hp->Prop),Inv X Δ σ H s->RelV x v->r x H Q ->
  Rj (model X.prog X.w) X.A (truthy v) (TP X Δ σ Q) X.xe s
noncomputable def tK(r:R2)(ta tb:TE):TE:=λσ H Q=>ta σ H λx H1=>tb σ H1 λy H2=>r x y H2 Q
noncomputable def Z4(r:V->Hp->VK->Prop)(ta:TE):TE:=λσ H Q=>ta σ H λx H1=>r x H1 Q
noncomputable def rI(C:Int->Int->Prop)(g:Int->Int->V):R2:=λx y H Q=>∃i j,x=.int i/\y=.int j/\C i j/\Q (g i j) H
noncomputable def uz(g:Int->Int->V):R2:=λx y H Q=>∃i j,x=.int i/\y=.int j/\Q (g i j) H
noncomputable def rU(g:Int->V):V->Hp->VK->Prop:=λx H Q=>∃i,x=.int i/\Q (g i) H
section
variable {a b c:R8}{tb tc:TE}
theorem lN(F:PE X a ta)(G:PE X b tb){Δ:List (Addr×Obj)}{s:X9}{σ:St}{H:Hp}{R:V->V->Hp->Prop}(I:Inv X Δ σ H s)(h:ta σ H λx H1=>tb σ H1 λy H2=>R x y H2){Q:X3->X9->Prop}{f:X3->X3->Sem X3}(J0:∀v u B x y H2,Inv X Δ σ H2 B->RelV x v->RelV y u->R x y H2->Rj (model X.prog X.w) X.A (f v u) Q X.xe B) :
  Rj (model X.prog X.w) X.A (eval a X.env) (λv L=>Rj (model X.prog X.w) X.A (eval b X.env) (λu M=>Rj (model X.prog X.w) X.A (f v u) Q X.xe M) X.xe L) X.xe s:=by
 refine zo (F Δ s σ H _ I h) λv O D=>?_;obtain⟨x,H1,S,U,q1⟩:=D;refine zo (G Δ O σ H1 _ S q1) λu B D=>?_;obtain⟨y,H2,W,Y,Z⟩:=D;exact J0 v u B x y H2 W U Y Z
theorem zG{op:Ki}(B:yt X (P6 op) r)(D:PE X a ta)(F:PE X b tb):PE X (.BinOp a op b pos) (tK r ta tb):=by
 intro Δ s σ H Q G h;exact wpAny_BinOp (lN D F G h λv u I x y H2 J0 L M q=>B Δ I σ H2 x y v u Q J0 L M q)
theorem wB{op:UnaryOp}{r:V->Hp->VK->Prop}(B:lM X (unaryOp op) r)(D:PE X a ta):PE X (.UnaryOp op a pos) (Z4 r ta):=by
 intro Δ s σ H Q F h;refine UnaryOp_ (zo (D Δ s σ H _ F h) λv G I=>?_);obtain⟨x,H1,J0,L,q1⟩:=I;exact B Δ G σ H1 x v Q J0 L q1
theorem oq{f:X3->X3->Sem X3}{C:Int->Int->Prop}{g:Int->Int->Int}(rule:∀(i j:Int) (t u:Tok) (s:X9) (Q:X3->X9->Prop) (E:X3->X9->Prop),C i j->Q (.int (g i j) s.toks) { s with toks:=s.toks+1 }->Rj (model X.prog X.w) X.A (f (.int i t) (.int j u)) Q E s) :
  yt X f (rI C λi j=>.int (g i j)):=by
 intro Δ s σ H x y v u Q B D F h;obtain⟨i,j,rfl,rfl,G,q⟩:=h;obtain⟨t,rfl⟩:=D;obtain⟨t',rfl⟩:=F;exact rule i j t t' s _ _ G ⟨.int (g i j),H,B.tok _,⟨_,J⟩,q⟩
theorem gp{f:X3->X3->Sem X3}{g:Int->Int->Int}(rule:∀(i j:Int) (t u:Tok) (s:X9) (Q:X3->X9->Prop) (E:X3->X9->Prop),Q (.int (g i j) s.toks) { s with toks:=s.toks+1 }->Rj (model X.prog X.w) X.A (f (.int i t) (.int j u)) Q E s) :
  yt X f (uz λi j=>.int (g i j)):=by
 intro Δ s σ H x y v u Q B D F h;obtain⟨i,j,rfl,rfl,q⟩:=h;obtain⟨t,rfl⟩:=D;obtain⟨t',rfl⟩:=F;exact rule i j t t' s _ _ ⟨.int (g i j),H,B.tok _,⟨_,J⟩,q⟩
theorem ot{f:X3->X3->Sem X3}{g:Int->Int->Bool}(rule:∀(i j:Int) (t u:Tok) (s:X9) (Q:X3->X9->Prop) (E:X3->X9->Prop),Q (.bool (g i j)) s->Rj (model X.prog X.w) X.A (f (.int i t) (.int j u)) Q E s) :
  yt X f (uz λi j=>.bl (g i j)):=by
 intro Δ s σ H x y v u Q B D F h;obtain⟨i,j,rfl,rfl,q⟩:=h;obtain⟨t,rfl⟩:=D;obtain⟨t',rfl⟩:=F;exact rule i j t t' s _ _ ⟨.bl (g i j),H,B,J,q⟩
noncomputable def Z5(i j:Int):Prop:=0<j/\j<1073741824
noncomputable def Z6(i j:Int):Prop:=0<=j/\j<=1000000/\i.natAbs<2 ^ 64
noncomputable def Cn(i j:Int):Prop:=(-(2 ^ 64)<i/\i<2 ^ 64)∨(-(2 ^ 64)<j/\j<2 ^ 64)
theorem Cn.ok{i:Int}(h:Cn i j):IntMulOk i j:=by
 rcases h with⟨h1,h2⟩|⟨h1,h2⟩
 .exact .of_left (KN h1 h2)
 .exact .of_right (KN h1 h2)
theorem yO:yt X (P6 .Add) (uz λi j=>.int (i+j)):=gp λ_ _ _ _ _ _ _ q=>add_int q
theorem vY:yt X (P6 .Sub) (uz λi j=>.int (i-j)):=gp λ_ _ _ _ _ _ _ q=>sub_int q
theorem tL:yt X (P6 .Mult) (rI Cn λi j=>.int (i*j)):=oq λ_ _ _ _ _ _ _ B q=>mul_int q B.ok
theorem ou:yt X (P6 .FloorDiv) (rI Z5 λi j=>.int (i / j)):=oq λi j _ _ _ _ _ B q=>by
 have h1:(0:Int)<j:=B.1;have h2:j<1073741824:=B.2;exact floordiv_int (by exact oe h1) (by rw[Int.fdiv_eq_ediv_of_nonneg i (by exact hJ h1)];exact q) (.inl (PyProof.noPylong_small (by omega)))
theorem uA:yt X (P6 .Mod) (rI (λ_ j=>0<j) λi j=>.int (i % j)):=oq λi j _ _ _ _ _ B q=>by
 have h1:(0:Int)<j:=B;exact mod_int' (by exact oe B) (by rw[Int.fmod_eq_emod_of_nonneg i (by exact hJ B)];exact q)
theorem gq:yt X (P6 .Pow) (rI Z6 λi j=>.int (i ^ j.toNat)):=oq λ_ _ _ _ _ _ _ B q=>pow_int_small B.1 B.2.1 B.2.2 q
theorem Z7{f:X3->Sem X3}{g:Int->Int}(rule:∀(i:Int) (t:Tok) (s:X9) (Q:X3->X9->Prop) (E:X3->X9->Prop),Q (.int (g i) s.toks) { s with toks:=s.toks+1 }->Rj (model X.prog X.w) X.A (f (.int i t)) Q E s) :
  lM X f (rU λi=>.int (g i)):=by
 intro Δ s σ H x v Q B D h;obtain⟨i,rfl,q⟩:=h;obtain⟨t,rfl⟩:=D;exact rule i t s _ _ ⟨.int (g i),H,B.tok _,⟨_,J⟩,q⟩
theorem wC:lM X (unaryOp .USub) (rU λi=>.int (-i)):=Z7 λ_ _ _ _ _ q=>neg_int q
end
noncomputable def lO:V->V->Bool
 |.non,.non=>true|.non,.int _=>true|.int _,.non=>true|.non,.bl _=>true|.bl _,.non=>true|.non,.str _=>true|.str _,.non=>true
 |.int _,.int _=>true|.bl _,.bl _=>true|.str _,.str _=>true|.byt _,.byt _=>true
 |.int _,.str _=>true|.str _,.int _=>true|.bl _,.str _=>true|.str _,.bl _=>true
 |_,_=>false
noncomputable def Z8:R2:=λx y H Q=>lO x y=true/\Q (.bl (decide (x=y))) H
noncomputable def Z9:R2:=λx y H Q=>lO x y=true/\Q (.bl (!decide (x=y))) H
theorem gr{i:Int}:decide (V.int i=V.int j)=(i==j):=by
 rw[QX];simp
theorem gs{i j:Bool}:decide (V.bl i=V.bl j)=(i==j):=by
 rw[QX];simp
theorem lP{i j:Str}:decide (V.str i=V.str j)=(i==j):=by
 rw[QX];simp
theorem gt{i j:Array UInt8}:decide (V.byt i=V.byt j)=(i.toList==j.toList):=by
 rw[QX];cases i;cases j;simp
section
variable {a b c:R8}{tb tc:TE}
theorem yK{Q:VK}{k B:Bool}(D:Inv X Δ σ H s)(q:Q (.bl k) H)(e:k=B):EP X Δ σ Q (.bool B) s:=by
 subst e;exact⟨.bl k,H,D,J,q⟩
theorem xI:yt X (Qv .Eq) Z8:=by
 intro Δ s σ H x y v u Q B G D h;obtain⟨F,q⟩:=h;cases x with
 |non=>
  cases G;cases y with
  |non=>cases D;exact PySem.EqNone.eq_none_none (yK B q (by simp))
  |bl j=>cases D;exact PySem.EqNone.eq_none_bool (yK B q (by simp))
  |int j=>obtain⟨t',rfl⟩:=D;exact PySem.EqNone.eq_none_int (yK B q (by simp))
  |str j=>obtain⟨t',rfl⟩:=D;exact PySem.EqNone.eq_none_str (yK B q (by simp))
  |_=>exact absurd (show false=true from F) Rb
 |bl i=>
  cases G;cases y with
  |non=>cases D;exact PySem.EqNone.eq_bool_none (yK B q (by simp))
  |bl j=>cases D;exact eq_bool (yK B q gs)
  |str j=>obtain⟨t',rfl⟩:=D;exact Ii (yK B q (by simp))
  |_=>exact absurd (show false=true from F) Rb
 |int i=>
  obtain⟨t,rfl⟩:=G;cases y with
  |non=>cases D;exact PySem.EqNone.eq_int_none (yK B q (by simp))
  |int j=>obtain⟨t',rfl⟩:=D;exact eq_int (yK B q gr)
  |str j=>obtain⟨t',rfl⟩:=D;exact Io (yK B q (by simp))
  |_=>exact absurd (show false=true from F) Rb
 |str i=>
  obtain⟨t,rfl⟩:=G;cases y with
  |non=>cases D;exact PySem.EqNone.eq_str_none (yK B q (by simp))
  |bl j=>cases D;exact Ij (yK B q (by simp))
  |int j=>obtain⟨t',rfl⟩:=D;exact Ip (yK B q (by simp))
  |str j=>obtain⟨t',rfl⟩:=D;exact eq_str (yK B q lP)
  |_=>exact absurd (show false=true from F) Rb
 |byt i=>
  obtain⟨t,rfl⟩:=G;cases y with
  |byt j=>obtain⟨t',rfl⟩:=D;exact W.eq_bytes (yK B q gt)
  |_=>exact absurd (show false=true from F) Rb
 |_=>cases y<;>exact absurd (show false=true from F) Rb
theorem sV:yt X (Qv .NotEq) Z9:=by
 intro Δ s σ H x y v u Q B G D h;obtain⟨F,q⟩:=h;cases x with
 |non=>
  cases G;cases y with
  |non=>cases D;exact PySem.EqNone.ne_none_none (yK B q (by simp))
  |bl j=>cases D;exact PySem.EqNone.ne_none_bool (yK B q (by simp))
  |int j=>obtain⟨t',rfl⟩:=D;exact PySem.EqNone.ne_none_int (yK B q (by simp))
  |str j=>obtain⟨t',rfl⟩:=D;exact PySem.EqNone.ne_none_str (yK B q (by simp))
  |_=>exact absurd (show false=true from F) Rb
 |bl i=>
  cases G;cases y with
  |non=>cases D;exact PySem.EqNone.ne_bool_none (yK B q (by simp))
  |bl j=>cases D;exact ne_bool (yK B q (congrArg not gs))
  |str j=>obtain⟨t',rfl⟩:=D;exact Ik (yK B q (by simp))
  |_=>exact absurd (show false=true from F) Rb
 |int i=>
  obtain⟨t,rfl⟩:=G;cases y with
  |non=>cases D;exact PySem.EqNone.ne_int_none (yK B q (by simp))
  |int j=>obtain⟨t',rfl⟩:=D;exact ne_int (yK B q (congrArg not gr))
  |str j=>obtain⟨t',rfl⟩:=D;exact Iq (yK B q (by simp))
  |_=>exact absurd (show false=true from F) Rb
 |str i=>
  obtain⟨t,rfl⟩:=G;cases y with
  |non=>cases D;exact PySem.EqNone.ne_str_none (yK B q (by simp))
  |bl j=>cases D;exact Il (yK B q (by simp))
  |int j=>obtain⟨t',rfl⟩:=D;exact Ir (yK B q (by simp))
  |str j=>obtain⟨t',rfl⟩:=D;exact ne_str (yK B q (congrArg not lP))
  |_=>exact absurd (show false=true from F) Rb
 |byt i=>
  obtain⟨t,rfl⟩:=G;cases y with
  |byt j=>obtain⟨t',rfl⟩:=D;exact W.ne_bytes (yK B q (congrArg not gt))
  |_=>exact absurd (show false=true from F) Rb
 |_=>cases y<;>exact absurd (show false=true from F) Rb
theorem vb:yt X (Qv .Lt) (uz λi j=>.bl (decide (i<j))):=ot λ_ _ _ _ _ _ _ q=>lt_int q
theorem vO:yt X (Qv .LtE) (uz λi j=>.bl (decide (i<=j))):=ot λ_ _ _ _ _ _ _ q=>le_int q
theorem tM:yt X (Qv .Gt) (uz λi j=>.bl (decide (j<i))):=ot λ_ _ _ _ _ _ _ q=>gt_int q
theorem Ya:yt X (Qv .GtE) (uz λi j=>.bl (decide (j<=i))):=ot λ_ _ _ _ _ _ _ q=>ge_int q
theorem Yb:yt X (Qv .In) (λx y H Q=>∃i j,x=.str i/\y=.str j/\Q (.bl (!(Mz j i 0 j.length 1).isEmpty)) H):=by
 intro Δ s σ H x y v u Q B D F h;obtain⟨i,j,rfl,rfl,q⟩:=h;obtain⟨t,rfl⟩:=D;obtain⟨t',rfl⟩:=F;exact in_str (yK B q J)
theorem gu:yt X (Qv .Is) (λx y H Q=>y=.non/\Q (.bl (decide (x=.non))) H):=by
 intro Δ s σ H x y v u Q D B F h;obtain⟨rfl,q⟩:=h;cases F;refine is_none_gen (yK D q ?_);cases x<;>first
  |(cases B;rfl)
  |(obtain⟨t,rfl⟩:=B;rfl)
theorem zR(b:R8){op:IU}(h:op≠.In:=by decide)(h2:op≠.NotIn:=by decide):OB op b=false:=by
 have B:(op==IU.In)=false:=by cases op<;>first|rfl|exact absurd rfl h
 have D:(op==IU.NotIn)=false:=by cases op<;>first|rfl|exact absurd rfl h2
 cases b<;>simp[OB,B,D]
theorem vZ(B:yt X (Qv op) r)(D:PE X a ta)(F:PE X b tb)(G:OB op b=false):PE X (.Compare a [op] [b] pos) (tK r ta tb):=by
 intro Δ s σ H Q I h;exact wpAny_Compare1 (lN D F I h λv u J0 x y H2 L M O q=>B Δ J0 σ H2 x y v u Q L M O q) G
noncomputable def gw(t:TE):TT:=λσ H Q=>t σ H λx H'=>∃k,x=.bl k/\Q k H'
theorem zZ(B:yt X (Qv op) r)(D:PE X a ta)(F:PE X b tb)(G:OB op b=false):PT X (.Compare a [op] [b] pos) (gw (tK r ta tb)):=by
 intro Δ s σ H Q I h;refine Ka (zo (D Δ s σ H _ I h) λv J0 ⟨x,H1,L,M,q1⟩=>zo (F Δ J0 σ H1 _ L q1) λu O ⟨y,H2,R,S,U⟩=>
  zo (B Δ O σ H2 x y v u _ R M S U) λc aa ⟨z,V,W,Y,k,e,Z⟩=>?_) G
 subst e;cases Y;exact Qk ⟨V,W,Z⟩
noncomputable def gx(r D:R2)(ta tb tc:TE):TE:=λσ H Q=>ta σ H λx H1=>tb σ H1 λy H2=>r x y H2 λz B=>∃k,z=.bl k /\
 (if k=true then tc σ B λF G=>D y F G Q else Q (.bl false) B)
theorem Yc{B:IU}{D:R2}(L:yt X (Qv op) r)(M:yt X (Qv B) D)(O:PE X a ta)(R:PE X b tb)(S:PE X c tc)(U:IB [op,B] [b,c]=false:=by with_unfolding_all rfl):PE X (.Compare a [op,B] [b,c] pos) (gx r D ta tb tc):=by
 intro Δ s σ H Q V h;refine Compare_chain (zo (O Δ s σ H _ V h) λv W ⟨x,H1,Y,Z,q1⟩=>chain_link (zo (R Δ W σ H1 _ Y q1) λu aa ⟨y,H2,ab,F,ac⟩=>
  zo (L Δ aa σ H2 x y v u _ ab Z F ac) λd ad ⟨z,G,I,ae,k,e,J0⟩=>?_)) U
 subst e;cases ae;refine Qk ?_;cases k with
 |false=>exact ite_ff ⟨.bl false,G,I,J,J0⟩
 |true=>exact ite_tt (chain_last (zo (S Δ ad σ G _ I J0) λaf ag ⟨z',ah,ai,aj,ak⟩=>M Δ ag σ ah y z' u af Q ai F aj ak))
theorem Yd{B:IU}{D:R2}(L:yt X (Qv op) r)(M:yt X (Qv B) D)(O:PE X a ta)(R:PE X b tb)(S:PE X c tc)(U:IB [op,B] [b,c]=false:=by with_unfolding_all rfl):PT X (.Compare a [op,B] [b,c] pos) (gw (gx r D ta tb tc)):=by
 intro Δ s σ H Q V h;refine isTrue_chain (zo (O Δ s σ H _ V h) λv W ⟨x,H1,Y,Z,q1⟩=>IC (zo (R Δ W σ H1 _ Y q1) λu aa ⟨y,H2,ab,F,ac⟩=>
  zo (L Δ aa σ H2 x y v u _ ab Z F ac) λd ad ⟨z,G,I,ae,k,e,J0⟩=>?_)) U
 subst e;cases ae;refine Qk ?_;cases k with
 |false=>
  obtain⟨av,af,q'⟩:=J0;cases af;exact ite_ff ⟨G,I,q'⟩
 |true=>
  refine ite_tt (test_last (zo (S Δ ad σ G _ I J0) λag ah ai=>?_));obtain⟨z',aj,ak,al,am⟩:=ai;refine zo (M Δ ah σ aj y z' u ag _ ak F al am) λd' aw ao=>?_;obtain⟨ax,ap,aq,ar,ay,as,au⟩:=ao;subst as;cases ar;exact Qk ⟨ap,aq,au⟩
noncomputable def gy(K:W.Frag)(x:V)(H:Hp)(k:Bool):Prop:=
 match x with
 |.non=>k=false
 |.bl b=>k=b
 |.int i=>k=(i != 0)
 |.str y=>y.length<=sizeLine/\k=((y.length:Int) != 0)
 |.byt y=>y.size<=sizeLine/\k=((y.size:Int) != 0)
 |.ref p=>(∃xs,Ad K H p xs/\k=!xs.isEmpty)∨(∃xs,Ah K H p xs/\k=!xs.isEmpty)∨∃a',H p=some (.dK a')/\k=!a'.isEmpty
 |_=>False
theorem Ye{κ:Type}{a':List (κ×V)}{vs:List (κ×X3)}(r:KV a' vs):(!vs.isEmpty)=!a'.isEmpty:=by
 cases r<;>rfl
theorem gz{its:List X3}(r:Af xs its):(!its.toArray.isEmpty)=!xs.isEmpty:=by
 cases r<;>simp
theorem v0:(sizeLine:Nat)<2 ^ 63:=by rw[Qo];decide
theorem Yf:Z3 X (λx H Q=>∃k,gy X.K x H k/\Q k H):=by
 intro Δ s σ H x v Q D F h;obtain⟨k,e,q⟩:=h;have O:=v0;have R:sizeLine=16777216:=Qo;cases x with
 |non=>
  cases F;have B:k=false:=e;subst B;exact truthy_none ⟨H,D,q⟩
 |bl b=>
  cases F;have B:k=b:=e;subst B;exact Qk ⟨H,D,q⟩
 |int i=>
  obtain⟨t,rfl⟩:=F;have B:k=(i != 0):=e;subst B;exact PySem.P.truthy_int ⟨H,D,q⟩
 |str y=>
  obtain⟨t,rfl⟩:=F;obtain⟨I,B⟩:y.length<=sizeLine/\k=((y.length:Int) != 0):=e;subst B;exact K3 (by omega) ⟨H,D.tok _,q⟩
 |byt y=>
  obtain⟨t,rfl⟩:=F;obtain⟨I,B⟩:y.size<=sizeLine/\k=((y.size:Int) != 0):=e;subst B;exact W.truthy_bytes (zC I) ⟨H,D.tok _,q⟩
 |ref p=>
  cases F;have B:(∃xs,Ad X.K H p xs/\k=!xs.isEmpty)∨(∃xs,Ah X.K H p xs/\k=!xs.isEmpty)∨∃a',H p=some (.dK a')/\k=!a'.isEmpty:=e;rcases B with⟨xs,G,B⟩|⟨xs,G,B⟩|⟨a',G,B⟩
  .subst B;obtain⟨its,r,pl,J0⟩:=D.list G;have L:=r.length;exact wpAny_truthy_list pl.isList (by simp only[T4];omega) ⟨H,D.tok _,by rw[gz r];exact q⟩
  .subst B;obtain⟨its,r,pl,J0⟩:=D.tuple G;have L:=r.length;exact truthy_tuple pl (by simp only[T4];omega) ⟨H,D.tok _,by rw[gz r];exact q⟩
  .subst B;obtain⟨J0,M,vs,r,m⟩:a'.length<=sizeLine/\(p==QV)=false/\∃vs,KV a' vs/\s.heap.DictOf (yv X.prog X.w) p vs:=D.hok p _ G;have L:a'.length=vs.length:=Paired.length r;exact wpAny_truthy_dict M m (by omega) ⟨H,D.tok _,by rw[Ye r];exact q⟩
 |_=>exact(show False from e).elim
theorem uB(D:PE X a ta)(F:∀B,JY a X.env B=(do let v ← B;N7 a.pos;holding [v] (truthy v))) :
  PT X a (λσ H Q=>ta σ H λx H'=>∃k,gy X.K x H' k/\Q k H'):=by
 intro Δ s σ H Q G h;refine isTrue_plain (zo (D Δ s σ H _ G h) λv I J0=>?_) (F _);obtain⟨x,H1,L,M,q1⟩:=J0;exact Yf Δ I σ H1 x v Q L M q1
theorem uC:yt X (P6 .Add) (λx y H Q=>∃i j,x=.str i/\y=.str j/\i.length+j.length<=sizeLine/\Q (.str (i++j)) H):=by
 intro Δ s σ H x y v u Q B D F h;obtain⟨i,j,rfl,rfl,G,q⟩:=h;obtain⟨t,rfl⟩:=D;obtain⟨t',rfl⟩:=F;exact R7 (n:=X.t0) B.tk (add_str (λt' tk ht=>⟨.str (i++j),H,B.tok _ ht,⟨_,J⟩,q⟩) G)
theorem wD{x:V}(r:Af [x] us):∃u,us=[u]/\RelV x u:=by
 cases r with
 |cons B D=>cases D;exact⟨_,J,B⟩
theorem lQ{x:V}(r:Af [x,y] us):∃u B,us=[u,B]/\RelV x u/\RelV y B:=by
 cases r with
 |cons D F=>
  cases F with
  |cons G I=>cases I;exact⟨_,_,J,D,G⟩
theorem Yg(F:X.calm=true):xY X (.builtin "min") (λxs H Q=>∃i j,xs=[.int i,.int j]/\Q (.int (if j<i then j else i)) H):=by
 intro Δ s σ H xs us Q D r h;obtain⟨i,j,rfl,q⟩:=h;obtain⟨u,G,rfl,⟨t,rfl⟩,⟨t',rfl⟩⟩:=lQ r;refine R7 (n:=X.t0) D.tk (min_two_ints (D.ok.hd F) λh' tk k ht=>⟨_,H,D.kept k ht,?_,q⟩);by_cases B:j<i
 .rw[Qxb B,Qxb B];exact⟨_,J⟩
 .rw[Qxa B,Qxa B];exact⟨_,J⟩
theorem Yh:xY X (.type "int") (λxs H Q=>(∃i,xs=[.int i]/\Q (.int i) H)∨∃k,xs=[.bl k]/\Q (.int (if k then 1 else 0)) H):=by
 intro Δ s σ H xs us Q B r h;rcases h with⟨i,rfl,q⟩|⟨k,rfl,q⟩
 .obtain⟨u,rfl,t,rfl⟩:=wD r;exact call_int_int ⟨.int i,H,B,⟨_,J⟩,q⟩
 .obtain⟨u,rfl,D⟩:=wD r;cases D;exact call_int_bool ⟨.int (if k then 1 else 0),H,B.tok _,⟨_,J⟩,q⟩
theorem Yi:xY X (.type "str") (λxs H Q=>∃i,xs=[.int i]/\i.natAbs.log2<1920/\Q (.str (toString i)) H):=by
 intro Δ s σ H xs us Q B r h;obtain⟨i,rfl,D,q⟩:=h;obtain⟨u,rfl,t,rfl⟩:=wD r;exact PySem.P.str_of_int D ⟨.str _,H,B.tok _,⟨_,J⟩,q⟩
end
structure Bu(h:Heap)(x dx C:Addr)(mA:Str->Option X3):Prop where
 obj:h.get? x=some (Nf C dx)
 ns:h.Ns1 dx mA
 ne:dx≠x
theorem Yj(n:h.Ns1 dx mA):∃od,h.get? dx=some od/\∀name,J1 name od=some (mA name):=by
 obtain⟨o,es,ep,B,D,F,_,G⟩:=n;refine⟨o,B,λname=>?_⟩;have e:=G name;unfold nsFind findBy at e;rw[←Array.find?_toList] at e;unfold J1;rw[D];dsimp only;split
 .rename_i y q;rw[q] at e;exact congrArg some e
 .rename_i q;rw[q] at e;have a:es.toList.any (·.refKey)=false:=by
   rw[OZ];intro y I;obtain⟨z,t,J0⟩:=F y (Array.mem_toList_iff.mp I);simp[DictEntry.refKey,J0]
  have L:¬es.toList.any (·.refKey)=true:=by rw[a];exact Rb
  rw[Qxa L];exact congrArg some e
theorem Bu.look{x:Addr}(B:Bu h x dx C mA):∃od,W.InstAt h x (Nf C dx) C (some od)/\∀name,J1 name od=some (mA name):=
 let ⟨od,D,F⟩:=Yj B.ns
 ⟨od,⟨B.obj,J,J,D⟩,F⟩
section
variable {prog:U2}{f:Addr}{name:Str}{v:X3}
theorem Yk{B:Bool}(X:K.In s.heap)(D:Bu s.heap x dx C mA)(F:Ng K C name=true)(G:No K C=true)(I:QO K (.ref C) name=some none)(L:mA name=some v)(M:W.handedIn v=true)(h:Q v { s with toks:=s.toks+1 }) :
  Rj (model prog w) A (getAttr (.ref x) name B) Q E s:=by
 obtain⟨od,J0,O⟩:=D.look;exact W.get_value X J0 (KP F).1 (W.findObj_own G I J (by rw[O,L])) M h
theorem Yl{pl:Sem Bool}{Q:X3×List X3->X9->Prop}(X:K.In s.heap)(D:Bu s.heap x dx C mA)(B:Ng K C name=true)(F:QO K (.ref C) name=some (some (.ref f)))(ht:W.isFn K (.ref f)=true)(G:mA name=none)(h:Q (.ref f,[.ref x]) s) :
  Rj (model prog w) A (NK (.ref x) name pl) Q E s:=by
 obtain⟨od,J0,I⟩:=D.look;exact W.method_fn X J0 (KP B).1 (KP B).2 F (beq_iff_eq.mp ht) (by show (J1 name od).map (·.isSome)=some false;rw[I,G];rfl) h
theorem Ym{D:List Str}{Q:Unit->X9->Prop}(X:K.In s.heap)(B:Bu s.heap x dx C mA)(I:QO K (.ref C) "__setattr__"=some (some (.builtin "object.__setattr__")))(L:Ma K C=true)(ht:ID K C name=some none)(M:No K C=true)(hw:Jh mA D)(hsz:D.length<=sizeLine)(h:∀h',Bu h' x dx C (λy=>if y=name then some v else mA y)->Pr dx s.heap h'->Q () { s with heap:=h',toks:=s.toks+2 }) :
  Rj (model prog w) A (setAttr (.ref x) name v) Q E s:=by
 obtain⟨od,J0,Z⟩:=B.look;refine W.set_plain X J0 I (W.osa_open (s:={ s with toks:=s.toks+1 }) (r:=none) X J0 L ht λb=>?_);obtain⟨aa,O,R⟩:=W.any_some M;have S:s.heap.get? x=some ⟨.ref C,some dx,.plain,#[]⟩:=B.obj;refine W6 (S3 (W6 (W6 (wpAny_loadPart S (W6 (W.Looks.here (s:={ s with toks:=s.toks+1 }) (W.looks_clsIn X O) ?_))))));rw[R];refine S3 (a:=some dx) (W6 (S3 (W6 ?_)));refine wpAny_nsSet1 (s:={ s with toks:=s.toks+1 }) B.ns λh' F G=>?_;obtain⟨ab,ac,ad,U,V,Y⟩:=F.count (Jh.cons name v hw);refine W6 (wpAny_lookBehind U (by rw[V];exact pastItsLine_dict (S5 Y (by rw[RN];exact Ra hsz))) ?_);exact S3 (h _ ⟨(G.2 _ (Q3 B.ne)).trans B.obj,F,B.ne⟩ G)
theorem Yn{R:MP->X9->Prop}{vs:List X3}(X:K.In s.heap)(D:Kw K C=true)(hi:QO K (.ref C) "__init__"=some (some (.ref f)))(F:W.typeIn K (.ref f)=some (.type "function"))(h:O0 (model prog w) (A.under (.builtin "type.__call__" ⟨.ref C::vs,B⟩)) (.call (.ref f) ⟨.ref (s.heap.objs.size+1)::vs,B⟩) (W.InitBack (s.heap.objs.size+1) R)
   { s with heap:=(s.heap.push PY).push (Nf C s.heap.objs.size) }) :
  O0 (model prog w) A (.call (.ref C) ⟨vs,B⟩) R s:=by
 obtain⟨G,g,d,t,os⟩:=s;exact W.make_core (W.makes_of X D) (W.looks_findIn X hi) (λself=>W.bind_fn X self F) (.inl J) h
end
noncomputable def zJ(f:Str)(v:V):List (Str×V)->List (Str×V)
 |[]=>[(f,v)]
 |(g,x)::r=>if g=f then (g,v)::r else (g,x)::zJ f v r
theorem lR(f g:Str)(v:V):∀fs:List (Str×V),(zJ f v fs).lookup g=if g=f then some v else fs.lookup g
 |[]=>by
  show PD g [(f,v)]=_;by_cases h:g=f
  .have B:(g==f)=true:=beq_iff_eq.mpr h;simp only[PD,B,Qxb h]
  .have B:(g==f)=false:=beq_eq_false_iff_ne.mpr h;simp only[PD,B,Qxa h]
 |(k,x)::r=>by
  have F:=lR f g v r;rw[show zJ f v ((k,x)::r)=(if k=f then (k,v)::r else (k,x)::zJ f v r) from rfl];by_cases D:k=f
  .rw[Qxb D];by_cases h:g=k
   .have B:(g==k)=true:=beq_iff_eq.mpr h;simp only[PD,B,Qxb (h.trans D)]
   .have B:(g==k)=false:=beq_eq_false_iff_ne.mpr h;simp only[PD,B,Qxa (λe:g=f=>h (e.trans D.symm))]
  .rw[Qxa D];by_cases h:g=k
   .have B:(g==k)=true:=beq_iff_eq.mpr h;simp only[PD,B,Qxa (λe:g=f=>D (h.symm.trans e))]
   .have B:(g==k)=false:=beq_eq_false_iff_ne.mpr h;simp only[PD,B];exact F
theorem lS(f:Str)(v:V):∀fs:List (Str×V),f∈(zJ f v fs).map (·.1)/\∀g,g∈fs.map (·.1)->g∈(zJ f v fs).map (·.1)
 |[]=>⟨by simp[zJ],λg h=>by simp at h⟩
 |(k,x)::r=>by
  obtain⟨D,F⟩:=lS f v r;rw[show zJ f v ((k,x)::r)=(if k=f then (k,v)::r else (k,x)::zJ f v r) from rfl];by_cases B:k=f
  .rw[Qxb B];subst B;exact⟨by simp,λg h=>by simpa using h⟩
  .rw[Qxa B];refine⟨?_,λg h=>?_⟩
   .rw[RD];exact T7 _ D
   .rw[RD] at h ⊢;rcases S7.mp h with e|e
    .exact S7.mpr (.inl e)
    .exact T7 _ (F g e)
theorem gA(f:Str)(v:V):∀fs:List (Str×V),(zJ f v fs).length<=fs.length+1
 |[]=>by simp[zJ]
 |(k,x)::r=>by
  have D:=gA f v r;rw[show zJ f v ((k,x)::r)=(if k=f then (k,v)::r else (k,x)::zJ f v r) from rfl];by_cases B:k=f
  .rw[Qxb B,RN,RN];exact PF _
  .rw[Qxa B,RN,RN];exact Ra D
theorem AB.some_of{o:Option X3}(r:AB (some v) o):∃u,o=some u/\RelV v u:=by
 cases o with
 |none=>exact(show False from r).elim
 |some u=>exact⟨u,J,r⟩
theorem AB.none_of{o:Option X3}(r:AB none o):o=none:=by
 cases o with
 |none=>rfl
 |some u=>exact(show False from r).elim
theorem Yo(r:RelV v u):W.handedIn u=true:=by
 cases v with
 |non=>cases (show u=PZ from r);rfl
 |bl b=>cases (show u=Om b from r);rfl
 |int i=>obtain⟨t,e⟩:=(show ∃t,u=NJ i t from r);cases e;rfl
 |str x=>obtain⟨t,e⟩:=(show ∃t,u=Mx x t from r);cases e;rfl
 |byt b=>obtain⟨t,e⟩:=(show ∃t,u=IY b t from r);cases e;rfl
 |flt b=>obtain⟨t,e⟩:=(show ∃t,u=JM b t from r);cases e;rfl
 |ref a=>cases (show u=RS a from r);rfl
 |ty n=>cases (show u=KZ n from r);rfl
variable {fs:List (Str×V)}
section
variable {a:Addr}{hz:List (Str×V)}
theorem ow(B:AJ P w H h)(e:H a=some (.ins C dx fs)):∃mA,Bu h a dx C mA/\(∀f,AB (fs.lookup f) (mA f))/\Jh mA (fs.map (·.1))/\fs.length<=1000/\H dx=some (.own a):=by
 obtain⟨d,z,D,F,mA,n,r,q⟩:=(show Al P w H h a (.ins C dx fs) from B a _ e);exact⟨mA,⟨F,n,D⟩,r,q,z,d⟩
end
structure Bh(K:W.Frag)(C:Addr):Prop where
 pg:Ng K C JB=true
 hd:No K C=true
 po:Ma K C=true
 sa:QO K (.ref C) "__setattr__"=some (some (.builtin "object.__setattr__"))
theorem Bh.get(c:Bh K C)(f:Str):Ng K C f=true:=c.pg
noncomputable def Aq(K:W.Frag)(C:Addr)(f:Str):Prop:=QO K (.ref C) f=some none
theorem Aq.taker{f:Str}(n:Aq K C f):ID K C f=some none:=by
 unfold ID;rw[show QO K (.ref C) f=some none from n];rfl
structure sW(K:W.Frag)(C:Addr)(m:Str)(f:Addr):Prop where
 b':QO K (.ref C) m=some (some (.ref f))
 fn:W.isFn K (.ref f)=true
 kp:P7 K (.ref f)=true
section
variable {a:Addr}{f:Str}
theorem gB{b:Bool}(B:Inv X Δ σ H s)(e:H a=some (.ins C dx fs))(c:Bh X.K C)(n:Aq X.K C f)(l:fs.lookup f=some v)(h:∀u s',Inv X Δ σ H s'->RelV v u->Q u s'):Rj (model X.prog X.w) A (getAttr (.ref a) f b) Q E s:=by
 obtain⟨mA,F,r,_,_,_⟩:=ow B.hok e;obtain⟨u,G,D⟩:=AB.some_of (v:=v) (o:=mA f) (by rw[←l];exact r f);exact Yk B.kIn F (c.get f) c.hd n G (Yo D) (h u _ (B.tok _) D)
theorem lT{m:Str}{g:Addr}{pl:Sem Bool}{Q:X3×List X3->X9->Prop}(B:Inv X Δ σ H s)(e:H a=some (.ins C dx fs))(c:Bh X.K C)(k:sW X.K C m g)(l:fs.lookup m=none)(h:Q (.ref g,[.ref a]) s):Rj (model X.prog X.w) A (NK (.ref a) m pl) Q E s:=by
 obtain⟨mA,D,r,_,_,_⟩:=ow B.hok e;have F:mA m=none:=AB.none_of (by rw[←l];exact r m);exact Yl B.kIn D (c.get m) k.b' k.fn F h
theorem gC{Q:Unit->X9->Prop}(B:Inv X Δ σ H s)(e:H a=some (.ins C dx fs))(c:Bh X.K C)(n:Aq X.K C f)(I:fs.length<1000)(J0:RelV y u)(h:∀s',Inv X Δ σ (c' H a (.ins C dx (zJ f y fs))) s'->Q () s'):Rj (model X.prog X.w) A (setAttr (.ref a) f u) Q E s:=by
 obtain⟨mA,D,r,wi,_,G⟩:=ow B.hok e;have L:(fs.map (·.1)).length<=sizeLine:=by rw[X5,Qo];omega
 refine Ym B.kIn D c.sa c.po n.taker c.hd wi L λh' F M=>h _ ?_;have O:∃o,h'.get? dx=some o:=let ⟨o,_,_,R,_⟩:=F.ns;⟨o,R⟩;refine B.write (x:=a) (e:=dx) (by rw[e];exact QT) (.inr G) (λb q S z=>(M.2 b S).trans z) O ?_;refine⟨by rw[zh D.ne];exact G,?_,D.ne,F.obj,_,F.ns,λg=>?_,λg U=>?_⟩
 .have:=gA f y fs;exact S5 this I
 .show AB ((zJ f y fs).lookup g) (if g=f then some u else mA g);rw[lR];by_cases q:g=f
  .rw[Qxb q,Qxb q];exact J0
  .rw[Qxa q,Qxa q];exact r g
 .by_cases q:g=f
  .rw[q];exact(lS f y fs).1
  .refine(lS f y fs).2 g (wi g λz=>U ?_);show (if g=f then some u else mA g)=none;rw[Qxa q];exact z
theorem Inv.made(F:Inv X Δ σ H s):Inv X Δ σ (c' (c' H s.heap.objs.size (.own (s.heap.objs.size+1))) (s.heap.objs.size+1) (.ins C s.heap.objs.size []))
  { s with heap:=(s.heap.push PY).push (Nf C s.heap.objs.size) }:=by
 have B:(s.heap.push PY).get? s.heap.objs.size=some PY:=Ru s.heap rfl;have G:((s.heap.push PY).push (Nf C s.heap.objs.size)).get? (s.heap.objs.size+1)=some (Nf C s.heap.objs.size):=by
  have:=Ru (s.heap.push PY) (o:=Nf C s.heap.objs.size) rfl
  rwa [O1] at this
 have I:(s.heap.push PY).Ns s.heap.objs.size (λ_=>none):=⟨PY,#[],_,B,J,(λe J0=>absurd J0 (by simp)),λ_=>rfl⟩;have L:=F.laid (a:=s.heap.objs.size) (o:=.own (s.heap.objs.size+1)) (h':=s.heap.push PY) (t':=s.toks) (λb u q=>W0 _ q) (X2 _) ⟨_,B⟩;refine L.laid (a:=s.heap.objs.size+1) (o:=.ins C s.heap.objs.size []) (t':=s.toks) (λb u q=>W0 _ q) (NG (O1 _ _)) ?_;have D:s.heap.objs.size≠s.heap.objs.size+1:=RE (Q5 _);refine⟨by rw[zh D,zd],X7 _,D,G,λ_=>none,(Heap.Ns1.of_empty I).at λo q=>W0 _ q,λ_=>QT,λy M=>absurd J M⟩
theorem Yp{prog:U2}{env:Env}{e:R8}{f:Str}{pos:Pos}(B:PN e f env (eval e env)=eval e env)(h:Rj (model prog w) A (eval e env) (λo D=>Rj (model prog w) A (getAttr o f true) Q E D) E s):Rj (model prog w) A (eval (.Attribute e f pos) env) Q E s:=
 Attribute_any_ h (by rw[arm_eval_Attribute,B])
end
noncomputable def gD(K:W.Frag)(ta:TE)(f:Str):TE:=λσ H Q=>ta σ H λx H1=>∃a C dx fs v,x=.ref a/\H1 a=some (.ins C dx fs)/\Bh K C/\Aq K C f/\fs.lookup f=some v/\Q v H1
noncomputable def Yq(K:W.Frag)(ta tv:TE)(f:Str):TS:=λD σ H=>tv σ H λy H1=>ta σ H1 λx H2=>∃a C dx fs,x=.ref a/\H2 a=some (.ins C dx fs)/\Bh K C/\Aq K C f/\fs.length<1000 /\
 D.nx σ (c' H2 a (.ins C dx (zJ f y fs)))
noncomputable def lU(X:Cx)(op:Ki)(B:V->V->Hp->VK->Prop):Prop:=
 ∀(Δ:List (Addr×Obj)) (s:X9) (σ:St) (H:Hp) (x y:V) (u v:X3) (Q:VK),Inv X Δ σ H s->RelV x u->RelV y v->B x y H Q->Rj (model X.prog X.w) X.A (Iz op u v) (EP X Δ σ Q) X.xe s
noncomputable def Yr(K:W.Frag)(ta tv:TE)(G:V->V->Hp->VK->Prop)(f:Str):TS:=λD σ H=>ta σ H λx H1=>∃a C dx fs v,x=.ref a/\H1 a=some (.ins C dx fs)/\Bh K C/\Aq K C f/\fs.lookup f=some v /\
 tv σ H1 λy H2=>G v y H2 λz B=>∃F hz,B a=some (.ins C F hz)/\hz.length<1000/\D.nx σ (c' B a (.ins C F (zJ f z hz)))
section
variable {o e value:R8}{f:Str}{pos' tpos:Pos}{tv:TE}
theorem yh(B:PE X e ta)(D:PN e f X.env (eval e X.env)=eval e X.env):PE X (.Attribute e f pos) (gD X.K ta f):=by
 intro Δ s σ H Q F h;refine Yp D (zo (B Δ s σ H _ F h) λu R G=>?_);obtain⟨x,H1,I,J0,a,C,dx,fs,v,ex,L,c,n,l,q⟩:=G;subst ex;obtain rfl:u=RS a:=J0;exact gB I L c n l λS U M O=>⟨v,H1,M,O,q⟩
theorem xZ(B:PE X o ta)(F:PE X value tv)(G:My value (some (.Attribute o f pos')) pos.line X.env=pure false):PS X (.Assign [.Attribute o f pos'] value pos) (Yq X.K ta tv f):=by
 intro Δ s σ H D I h;refine plainObj_wpAny_Assign_Attribute (zo (F Δ s σ H _ I h) λu J0 L=>?_) G;obtain⟨y,H1,M,O,q⟩:=L;refine zo (B Δ J0 σ H1 _ M q) λR aa S=>?_;obtain⟨x,H2,U,V,a,C,dx,fs,ex,W,c,n,l,Y⟩:=S;subst ex;obtain rfl:R=RS a:=V;exact gC U W c n l O λab Z=>⟨σ,_,Z,Y⟩
theorem gE{op:Ki}{F:V->V->Hp->VK->Prop}(G:PE X o ta)(I:PE X value tv)(g8:lU X op F):PS X (.AugAssign (.Attribute o f tpos) op value pos) (Yr X.K ta tv F f):=by
 intro Δ s σ H D J0 h;refine wpAny_AugAssign_AttributeAny (zo (G Δ s σ H _ J0 h) λL aj B=>?_);obtain⟨x,H1,M,O,a,C,dx,fs,v,ex,R,c,n,l,q⟩:=B;subst ex;obtain rfl:L=RS a:=O;refine gB M R c n l λu S U W=>zo (I Δ S σ H1 _ U q) λY Z B=>?_;obtain⟨y,H2,aa,ab,ac⟩:=B;refine zo (g8 Δ Z σ H2 v y u Y _ aa W ab ac) λak al ad=>?_;obtain⟨z,am,ae,af,ao,hz,ag,l',ah⟩:=ad;exact gC ae ag c n l' af λap ai=>⟨σ,_,ai,ah⟩
noncomputable def Ys:V->V->Hp->VK->Prop:=λx y H Q=>∃i j,x=.int i/\y=.int j/\Q (.int (i+j)) H
theorem Yt:lU X .Add Ys:=by
 rintro Δ s σ H x y u v Q B D F ⟨i,j,rfl,rfl,q⟩;obtain⟨t,rfl⟩:=(show ∃t,u=NJ i t from D);obtain⟨t',rfl⟩:=(show ∃t',v=NJ j t' from F);exact PyProof.Rows.iadd_int ⟨.int (i+j),H,B.tok _,⟨_,J⟩,q⟩
theorem Qm{pl:Sem Bool}{m:Str}{apos:Pos}{args:List R8}(G:PE X e te)(I:Inv X Δ σ H s)(h:te σ H λx H1=>∃a C dx fs g,x=.ref a/\H1 a=some (.ins C dx fs)/\Bh X.K C/\sW X.K C m g/\fs.lookup m=none /\
   ∀B,Inv X Δ σ H1 B->Rj (model X.prog X.w) X.A (Kj pos (.ref g) [.ref a] (QS pos (T2 args X.env)) (O2 pos (PH [] X.env))) Q X.xe B)(ht:eval (.Call (.Attribute e m apos) args [] pos) X.env=(do
   let D ← eval e X.env
   N7 apos.atName
   let (f,first) ← holding [D] (NK D m pl)
   Kj pos f first (QS pos (T2 args X.env)) (O2 pos (PH [] X.env)))) :
  Rj (model X.prog X.w) X.A (eval (.Call (.Attribute e m apos) args [] pos) X.env) Q X.xe s:=by
 refine M0 (pl:=pl) (zo (G Δ s σ H _ I h) λu B J0=>?_) ht;obtain⟨x,H1,F,L,a,C,dx,fs,g,ex,M,c,k,l,q⟩:=J0;subst ex;obtain rfl:u=RS a:=L;exact lT F M c k l (q B F)
end
section
variable {c:X3}{b:Bool}
inductive wE(K:W.Frag)(H:Hp):V->X3->Prop where
 |non:wE K H .non (.type "NoneType")
 |bl (x:Bool):wE K H (.bl x) (.type "bool")
 |int (i:Int):wE K H (.int i) (.type "int")
 |str (x:Str):wE K H (.str x) (.type "str")
 |flt (x:UInt64):wE K H (.flt x) (.type "float")
 |lst {a:Addr} {xs:List V} (e:H a=some (.lst xs)):wE K H (.ref a) (.type "list")
 |frz {a:Addr} {o:Obj} {xs:List V} (e:H a=some (.frz o (.lst xs))):wE K H (.ref a) (.type "list")
 |tup {a:Addr} {xs:List V} (e:H a=some (.tup xs)):wE K H (.ref a) (.type "tuple")
 |dK {a:Addr} {a':List (zr×V)} (e:H a=some (.dK a')):wE K H (.ref a) (.type "dict")
 |dT {a:Addr} {a':List (List zr×V)} (e:H a=some (.dT a')):wE K H (.ref a) (.type "dict")
 |ins {a C dx:Addr} {fs:List (Str×V)} (e:H a=some (.ins C dx fs)) (cl:Bh K C) (ha:QO K (.ref C) "__class__"=some (some (.builtin "object.__class__")))
   (hn:W.specialIn K (.builtin "object.__class__") "__get__"=some (some (.builtin "getset_descriptor.__get__"))) (htk:W.takesIn K (.builtin "object.__class__")=some true)
   (hm:W.mroIn K C (.type "object")=some true):wE K H (.ref a) (.ref C)
theorem Yu{x:V}{t:X3}(B:Inv X Δ σ H s)(D:RelV x u)(ty:wE X.K H x t)(e:Jk X.K t c=some b)(h:∀tk,Q (.bool b) { s with toks:=tk }) :
  Rj (model X.prog X.w) A (call (.builtin "isinstance") [u,c]) Q E s:=by
 cases ty with
 |non=>cases (show u=PZ from D);exact P9 W.kitx_none B.kIn QT e (λz=>nomatch z) h
 |bl y=>cases (show u=Om y from D);exact P9 W.kitx_bool B.kIn QT e (λz=>nomatch z) h
 |int i=>obtain⟨t,q⟩:=(show ∃t,u=NJ i t from D);cases q;exact P9 W.kitx_int B.kIn QT e (λz=>nomatch z) h
 |str y=>obtain⟨t,q⟩:=(show ∃t,u=Mx y t from D);cases q;exact P9 W.kitx_str B.kIn QT e (λz=>nomatch z) h
 |flt y=>obtain⟨t,q⟩:=(show ∃t,u=JM y t from D);cases q;exact P9 W.kitx_float B.kIn QT e (λz=>nomatch z) h
 |@lst a xs F=>
  cases (show u=RS a from D);obtain⟨_,_,n,_,h1⟩:=(show Al X.prog X.w H s.heap a (.lst xs) from B.hok a _ F);exact P9 JP B.kIn ⟨_,h1,J⟩ e (λz=>nomatch z) h
 |@frz a G xs F=>
  cases (show u=RS a from D);obtain⟨_,_,_,n,_,h1⟩:=(show Al X.prog X.w H s.heap a (.frz G (.lst xs)) from B.hok a _ F);exact P9 JP B.kIn ⟨_,h1,J⟩ e (λz=>nomatch z) h
 |@tup a xs F=>
  cases (show u=RS a from D);obtain⟨_,_,_,p⟩:=(show Al X.prog X.w H s.heap a (.tup xs) from B.hok a _ F);obtain⟨o,h1,h2,_⟩:=p;exact P9 W.kitx_tuple B.kIn ⟨o,h1,h2⟩ e (λz=>nomatch z) h
 |@dK a a' F=>
  cases (show u=RS a from D);obtain⟨_,_,vs,_,p⟩:=(show Al X.prog X.w H s.heap a (.dK a') from B.hok a _ F);obtain⟨o,es,ep,h1,h2,_⟩:=p;exact P9 W.kitx_dict B.kIn ⟨o,h1,h2.1⟩ e (λz=>nomatch z) h
 |@dT a a' F=>
  cases (show u=RS a from D);obtain⟨_,_,xs,_,o,es,ep,h1,h2,_⟩:=(show Al X.prog X.w H s.heap a (.dT a') from B.hok a _ F);exact P9 W.kitx_dict B.kIn ⟨o,h1,h2.1⟩ e (λz=>nomatch z) h
 |@ins a C dx fs F cl I L M O=>
  cases (show u=RS a from D);obtain⟨mA,R,_⟩:=ow B.hok F;obtain⟨od,J0,_⟩:=R.look;exact P9 (W.kitx_own (cl.get _) cl.hd I L M O) B.kIn J0 e (λz=>nomatch z) h
end
structure Ak(k:Nat)(A:QG):Prop where
 hd:A.handled=none
 dp:A.depth+3*k+5<recursionLimit
 un:A.units+16*k+200<cLine
theorem Ak.mono{j k:Nat}(r:Ak k A)(h:j<=k):Ak j A:=⟨r.hd,by have:=r.dp;omega,by have:=r.un;omega⟩
theorem Ak.deeper{k:Nat}{A:QG}(r:Ak (k+1) A)(env:Env):Ak k (A.deeper env):=
 ⟨r.hd,by have:=r.dp;show A.depth+1+3*k+5<_;exact iZ this,by have:=r.un;show A.units+3+16*k+200<_;omega⟩
theorem Ak.in1{k:Nat}{A:QG}(r:Ak (k+1) A):Ak k A.in1:=
 ⟨r.hd,by have:=r.dp;show A.depth+3*k+5<_;omega,by have:=r.un;show A.units+1+16*k+200<_;exact i0 this⟩
theorem Yv:(A.under (.builtin "type.__call__" ⟨.ref C::us,B⟩)).depth=A.depth+1:=by
 first|rfl|simp[Jl,Code.weight,Code.isCreation,Code.isGuard,Code.isCaller,I2,Jm,guardIds]
theorem Yw:(A.under (.builtin "type.__call__" ⟨.ref C::us,B⟩)).units=A.units+1:=by
 first|rfl|simp[Jl,Code.cUnits,I2,Jm]
theorem Ak.make{k:Nat}(r:Ak (k+1) A)(C:Addr)(us:List X3)(B:List (Str×X3)):Ak k (A.under (.builtin "type.__call__" ⟨.ref C::us,B⟩)):=
 ⟨r.hd,by have:=r.dp;rw[Yv];exact iZ this,by have:=r.un;rw[Yw];exact i0 this⟩
theorem Ak.depth{k:Nat}{A:QG}(r:Ak k A):A.depth<recursionLimit:=by have:=r.dp;omega
theorem Ak.units0{k:Nat}(r:Ak k A):A.units<cLine:=by have:=r.un;omega
noncomputable def wO:TA:=λ_ H Q=>Q [] H
noncomputable def xv(ta:TE)(B:TA):TA:=λσ H Q=>ta σ H λx H1=>B σ H1 λxs H2=>Q (x::xs) H2
section
variable {e:R8}{t:TA}
theorem zf:PA X [] wO:=λ_ _ _ _ H Q B h=>Of ⟨[],H,B,.nil,h⟩
theorem zc(D:PE X e te)(F:PA X es t)(G:T2 (e::es) X.env=(false,eval e X.env)::T2 es X.env:=by rfl):PA X (e::es) (xv te t):=by
 intro pos Δ s σ H Q I h;rw[G];show Rj _ _ (spliced ((false,eval e X.env)::QS pos (T2 es X.env))) _ _ s;refine Px (zo (D Δ s σ H _ I h) λu J0 B=>?_);obtain⟨x,H1,L,M,q1⟩:=B;refine zo (F pos Δ J0 σ H1 _ L q1) λus U B=>?_;obtain⟨xs,H2,O,R,S⟩:=B;exact⟨x::xs,H2,O,.cons M R,S⟩
noncomputable def Yx(t:TA):TE:=λσ H Q=>t σ H λxs H1=>xs.length<=sizeLine/\∀p,H1 p=none->Q (.ref p) (c' H1 p (.tup xs))
noncomputable def Yy(t:TA):TE:=λσ H Q=>t σ H λxs H1=>xs.length<=sizeLine/\∀p,H1 p=none->Q (.ref p) (c' H1 p (.lst xs))
theorem yl{x1}(h:PA X es t):PE X (.Tuple es x1 pos) (Yx t):=by
 intro Δ s σ H Q F G;refine wpAny_Tuple_spliced (zo (h pos Δ s σ H _ F G) λus B I=>?_);obtain⟨xs,H1,D,r,z,q⟩:=I;refine⟨by rw[←r.length];exact z,?_⟩;have J0:H1 B.heap.objs.size=none:=D.hok.fresh (X2 _);refine⟨.ref B.heap.objs.size,c' H1 B.heap.objs.size (.tup xs),D.laid (t':=B.toks) (λb u e=>W0 _ e) (X2 _) ?_,J,q _ J0⟩;exact⟨z,us,r,⟨_,Ru _ J,J,_,J⟩⟩
theorem zV(h:PA X es t):PE X (.List es pos) (Yy t):=by
 intro Δ s σ H Q F G;refine wpAny_List_spliced (zo (h pos Δ s σ H _ F G) λus B I=>?_);obtain⟨xs,H1,D,r,z,q⟩:=I;refine⟨by rw[←r.length];exact z,?_⟩;have J0:H1 B.heap.objs.size=none:=D.hok.fresh (X2 _);refine⟨.ref B.heap.objs.size,c' H1 B.heap.objs.size (.lst xs),D.laid (t':=B.toks) (λb u e=>W0 _ e) (X2 _) ?_,J,q _ J0⟩;exact⟨z,us,0,r,Ru _ J⟩
end
noncomputable abbrev Sp:=List V->Hp->VK->XK->Prop
noncomputable abbrev wP:=List Env->Hp->X9->XK->X3->X9->Prop
variable {CX:wP}
structure ox(t:Nat)(P:U2)(w:Rz)(K:W.Frag)(mg:Str->Option X3)(base:Heap)(A:QG)(outer:List Env)(s:X9)(H:Hp):Prop where
 frames:A.frames=some outer
 mod:Mod K mg base
 bs:∀b o,base.get? b=some o->s.heap.get? b=some o/\H b=none
 bsz:base.objs.size<=s.heap.objs.size
 funs:s.heap.FunFrames base outer
 frf:∀b∈wX outer,H b=none
 hok:AJ P w H s.heap
 bare:N6 s.gens
 tk:t<=s.toks
noncomputable abbrev BZ:=ox 1
noncomputable def CE(outer:List Env)(P:U2)(w:Rz)(H:Hp)(s:X9)(Q:VK)(u:X3)(s':X9):Prop:=
 ∃v H',s'.os=s.os/\N6 s'.gens/\Un (wX outer) [] H H' s.heap s'.heap/\AJ P w H' s'.heap/\RelV v u/\Q v H'
noncomputable def CR(CX:wP)(outer:List Env)(P:U2)(w:Rz)(H:Hp)(s:X9)(Q:VK)(E:XK)(r:MP)(s':X9):Prop:=
 match r with
 |.ok (.ret u)=>CE outer P w H s Q u s'
 |.ok _=>False
 |.error e=>CX outer H s E e s'
structure uD(t:Nat)(P:U2)(w:Rz)(K:W.Frag)(mg:Str->Option X3)(base:Heap)(CX:wP)(k:Nat)(f:Addr)(fd:FuncData)(ps:List Str)(sp:Sp):Prop where
 len:∀vs H Q E,sp vs H Q E->vs.length=ps.length
 run:∀(A:QG) (outer:List Env) (s:X9) (H:Hp) (args:Args) (us:List X3) (vs:List V) (Q:VK) (E:XK),Ak k A->ox t P w K mg base A outer s H->MQ s fd args (ps.zip us)->Af vs us->sp vs H Q E ->
  O0 (model P w) A (.call (.ref f) args) (CR CX outer P w H s Q E) s
noncomputable abbrev Ag:=uD 1
theorem Ag.imp{k:Nat}{f:Addr}{sp B:Sp}(F:Ag P w K mg base CX k f fd ps sp)(h:∀vs H Q E,B vs H Q E->sp vs H Q E):Ag P w K mg base CX k f fd ps B:=
 ⟨λvs H Q E q=>F.len vs H Q E (h _ _ _ _ q),λA outer s H args us vs Q E D G I J0 L=>F.run A outer s H args us vs Q E D G I J0 (h _ _ _ _ L)⟩
theorem BZ.make(e:BZ P w K mg base A outer s H)(C:Addr)(us:List X3)(B:List (Str×X3)) :
  BZ P w K mg base (A.under (.builtin "type.__call__" ⟨.ref C::us,B⟩)) outer s H:=⟨by first|exact e.frames|(simpa [Jl,Code.envs,Jm,pushEnvs] using e.frames),e.mod,e.bs,e.bsz,e.funs,e.frf,e.hok,e.bare,e.tk⟩
section
variable {s':X9}
theorem Inv.env0(B:Inv X Δ σ H s)(h1:1<=X.t0:=by first|assumption|exact X2 1):BZ X.prog X.w X.K X.mg X.base X.A X.stack s H:=
 ⟨B.ok.frames,B.ok.mod,B.bs,S5 B.ok.bsz B.sz,B.stack,B.stkFree,B.hok,B.bare,S5 h1 B.tk⟩
theorem Inv.after{Q:VK}(B:Inv X Δ σ H s)(h:CE X.stack X.prog X.w H s Q u s')(ht:X.t0<=s'.toks):EP X Δ σ Q u s':=by
 obtain⟨v,H',os,D,F,G,r,q⟩:=h;obtain⟨I,g,d,t,J0⟩:=s';obtain rfl:J0=s.os:=os;exact⟨v,H',B.call (h':=I) (g':=g) (d':=d) (t':=t) (ch:=[]) F G D (λb z=>absurd z (by simp)) ht,r,q⟩
end
noncomputable def gF(sp:Sp)(hh:List V)(E:XK)(t:TA):TE:=λσ H Q=>t σ H λvs H1=>sp (vs++hh) H1 Q E
noncomputable def oy(C:Addr)(m:Str)(sp:Sp)(hh:List V)(E:XK)(ta:TE)(t:TA):TE:=λσ H Q=>ta σ H λx H1=>∃a dx fs,x=.ref a/\H1 a=some (.ins C dx fs)/\fs.lookup m=none /\
 t σ H1 λvs H2=>sp (x::(vs++hh)) H2 Q E
noncomputable def gG(C:Addr)(sp:Sp)(hh:List V)(E:XK)(t:TA):TE:=λσ H Q=>t σ H λvs H1=>∀x dx,H1 x=none->H1 dx=none->dx≠x ->
 sp (.ref x::(vs++hh)) (c' (c' H1 dx (.own x)) x (.ins C dx [])) (λv H2=>v=.non/\Q (.ref x) H2) E
noncomputable def Binds(K:W.Frag)(fd:FuncData)(ps:List Str)(ds:List X3):Prop:=
 ∀(s:X9) (us:List X3),K.In s.heap->(us++ds).length=ps.length->MQ s fd ⟨us,[]⟩ (ps.zip (us++ds))
theorem Binds.all(h:∀us:List X3,us.length=ps.length->PJ fd ⟨us,[]⟩=pure (ps.zip us)):Binds K fd ps []:=λs us _ B=>by
 rw[QI] at B ⊢;exact .of_eq (h us B)
noncomputable def uE(CX:wP)(X:Cx)(E:XK):Prop:=∀(Δ:List (Addr×Obj)) (σ:St) (H:Hp) (s:X9) (e:X3) (s':X9),Inv X Δ σ H s->CX X.stack H s E e s'->X.xe e s'
variable {k:Nat}{sp:Sp}{m:Str}{apos:Pos}
section
variable {f:Addr}{hh:List V}{ds:List X3}{E:XK}{x:Str}{p:Pos}{e o:R8}{t:TA}
theorem lV{Q:VK}(F:Ag X.prog X.w X.K X.mg X.base CX k f fd ps sp)(I:Ak k X.A)(J0:Binds X.K fd ps ds)(L:Af hh ds)(M:uE CX X E)(B:Inv X Δ σ H s)(r:Af vs us)(h:sp (vs++hh) H Q E)(h1:1<=X.t0:=by first|assumption|exact X2 1):Rj (model X.prog X.w) X.A (call (.ref f) us) (EP X Δ σ Q) X.xe s:=by
 have G:Af (vs++hh) (us++ds):=r.append L;have O:(us++ds).length=ps.length:=by rw[←G.length];exact F.len _ _ _ _ h
 refine K4 (O3 (codeAny_toks_of B.tk (F.run X.A X.stack s H ⟨us,[]⟩ (us++ds) (vs++hh) Q E I (B.env0 h1) (J0 s us B.kIn O) G h)) λr s' R=>?_);obtain⟨ht,D⟩:=R;cases r with
 |error e=>exact M Δ σ H s e s' B D
 |ok S=>
  cases S with
  |ret u=>exact B.after D ht
  |next=>exact Q0 D
  |brk=>exact Q0 D
  |cont=>exact Q0 D
theorem lW(F:Ag X.prog X.w X.K X.mg X.base CX k f fd ps sp)(G:Ak k X.A)(I:Gl X x)(J0:X.mg x=some (.ref f))(L:P7 X.K (.ref f)=true)(M:Binds X.K fd ps ds)(O:Af hh ds)(R:uE CX X E)(S:PA X (e::es) t)(U:(x==("__debug__":Str))=false:=by decide)(V:T2 (e::es) X.env=(false,eval e X.env)::T2 es X.env:=by rfl)(Y:(QS pos (T2 es X.env)).any (·.1)=false:=by rfl)(h1:1<=X.t0:=by first|assumption|exact X2 1) :
  PE X (.Call (.Name x p) (e::es) [] pos) (gF sp hh E t):=by
 intro Δ s σ H Q B h;refine QL (oj B I J0 ?_ U);refine Jn (h₀:=X.base) B.ok.mod.kin L (zo (S pos Δ s σ H _ B h) λus aa Z=>?_) V Y;obtain⟨vs,H1,D,r,q⟩:=Z;refine⟨D.kIn,?_⟩;exact lV (h1:=h1) F G M O R D r q
theorem Yz{pl:Sem Bool}(M:PE X o ta)(c:Bh X.K C)(D:sW X.K C m f)(F:Ag X.prog X.w X.K X.mg X.base CX k f fd ps sp)(O:Ak k X.A)(R:Binds X.K fd ps ds)(S:Af hh ds)(U:uE CX X E)(V:PA X (e::es) t)(Y:T2 (e::es) X.env=(false,eval e X.env)::T2 es X.env:=by rfl)(Z:(QS pos (T2 es X.env)).any (·.1)=false:=by rfl)(ht:eval (.Call (.Attribute o m apos) (e::es) [] pos) X.env=(do
   let G ← eval o X.env
   N7 apos.atName
   let (f,first) ← holding [G] (NK G m pl)
   Kj pos f first (QS pos (T2 (e::es) X.env)) (O2 pos (PH [] X.env))):=by rfl)(h1:1<=X.t0:=by first|assumption|exact X2 1) :
  PE X (.Call (.Attribute o m apos) (e::es) [] pos) (oy C m sp hh E ta t):=by
 intro Δ s σ H Q I h;refine M0 (pl:=pl) (zo (M Δ s σ H _ I h) λu aa B=>?_) ht;obtain⟨x,H1,J0,ab,a,dx,fs,ex,ac,l,q⟩:=B;subst ex;obtain rfl:u=RS a:=ab;refine lT J0 ac c D l ?_;refine Jn (first:=[.ref a]) (h₀:=X.base) I.ok.mod.kin D.kp (zo (V pos Δ aa σ H1 _ J0 q) λus ae B=>?_) Y Z
 obtain⟨vs,H2,L,r,ad⟩:=B;refine⟨L.kIn,?_⟩;exact lV (h1:=h1) (us:=.ref a::us) (vs:=.ref a::vs) F O R S U L (.cons J r) ad
theorem YA{pl:Sem Bool}(I:PE X o ta)(c:Bh X.K C)(D:sW X.K C m f)(F:Ag X.prog X.w X.K X.mg X.base CX k f fd ps sp)(J0:Ak k X.A)(L:Binds X.K fd ps ds)(M:Af hh ds)(O:uE CX X E)(ht:eval (.Call (.Attribute o m apos) [] [] pos) X.env=(do
   let G ← eval o X.env
   N7 apos.atName
   let (f,first) ← holding [G] (NK G m pl)
   Kj pos f first (QS pos (T2 [] X.env)) (O2 pos (PH [] X.env))):=by rfl)(h1:1<=X.t0:=by first|assumption|exact X2 1) :
  PE X (.Call (.Attribute o m apos) [] [] pos) (oy C m sp hh E ta wO):=by
 intro Δ s σ H Q R h;refine M0 (pl:=pl) (zo (I Δ s σ H _ R h) λu Y S=>?_) ht;obtain⟨x,H1,B,U,a,dx,fs,ex,V,l,q⟩:=S;subst ex;obtain rfl:u=RS a:=U;refine lT B V c D l ?_;exact W.callWith_K0 (first:=[.ref a]) B.kIn D.kp (lV (h1:=h1) (us:=[.ref a]) (vs:=[.ref a]) F J0 L M O B (.cons rfl .nil) q)
structure Mk(K:W.Frag)(C f:Addr):Prop where
 makes:Kw K C=true
 init:QO K (.ref C) "__init__"=some (some (.ref f))
 fn:W.isFn K (.ref f)=true
 kp:P7 K (.ref C)=true
theorem gH{Q:VK}(I:Mk X.K C f)(F:Ag X.prog X.w X.K X.mg X.base CX k f fd ps sp)(M:Ak (k+1) X.A)(O:Binds X.K fd ps ds)(R:Af hh ds)(S:uE CX X E)(G:Inv X Δ σ H s)(r:Af vs us)(h:∀x dx,H x=none->H dx=none->dx≠x->sp (.ref x::(vs++hh)) (c' (c' H dx (.own x)) x (.ins C dx [])) (λv H2=>v=.non/\Q (.ref x) H2) E)(h1:1<=X.t0:=by first|assumption|exact X2 1) :
  Rj (model X.prog X.w) X.A (call (.ref C) us) (EP X Δ σ Q) X.xe s:=by
 have J0:=h (s.heap.objs.size+1) s.heap.objs.size (G.hok.fresh (PF _)) (G.hok.fresh (X2 _)) (RE (Q5 _));have B:=Inv.made (C:=C) G;have L:Af (V.ref (s.heap.objs.size+1)::(vs++hh)) (RS (s.heap.objs.size+1)::(us++ds)):=.cons rfl (r.append R);have U:(RS (s.heap.objs.size+1)::us++ds).length=ps.length:=by
  have e:=L.length;rw[F.len _ _ _ _ J0] at e;exact e.symm
 refine K4 (Yn (f:=f) G.kIn I.makes I.init (beq_iff_eq.mp I.fn) (O3 (codeAny_toks_of B.tk (F.run _ X.stack _ _ ⟨RS (s.heap.objs.size+1)::us,[]⟩ (RS (s.heap.objs.size+1)::(us++ds)) _ _ E (M.make C us [])
  ((B.env0 h1).make C us []) (O _ (RS (s.heap.objs.size+1)::us) B.kIn U) L J0)) λr s' ⟨ht,D⟩=>?_))
 cases r with
 |error e=>exact S Δ σ _ _ e s' B D
 |ok W=>
  cases W with
  |ret u=>
   obtain⟨v,H',Y,Z,aa,ab⟩:=B.after D ht;subst aa;exact⟨Z,⟨V.ref (s.heap.objs.size+1),H',Y,J,ab⟩⟩
  |next=>exact Q0 D
  |brk=>exact Q0 D
  |cont=>exact Q0 D
theorem gI(D:Mk X.K C f)(F:Ag X.prog X.w X.K X.mg X.base CX k f fd ps sp)(I:Ak (k+1) X.A)(J0:Gl X x)(L:X.mg x=some (.ref C))(M:Binds X.K fd ps ds)(O:Af hh ds)(R:uE CX X E)(S:PA X (e::es) t)(U:(x==("__debug__":Str))=false:=by decide)(V:T2 (e::es) X.env=(false,eval e X.env)::T2 es X.env:=by rfl)(Y:(QS pos (T2 es X.env)).any (·.1)=false:=by rfl)(h1:1<=X.t0:=by first|assumption|exact X2 1) :
  PE X (.Call (.Name x p) (e::es) [] pos) (gG C sp hh E t):=by
 intro Δ s σ H Q B h;refine QL (oj B J0 L ?_ U);refine Jn (h₀:=X.base) B.ok.mod.kin D.kp (zo (S pos Δ s σ H _ B h) λus aa Z=>?_) V Y;obtain⟨vs,H1,G,r,q⟩:=Z;refine⟨G.kIn,?_⟩;exact gH (h1:=h1) D F I M O R G r q
theorem YB(D:Mk X.K C f)(F:Ag X.prog X.w X.K X.mg X.base CX k f fd ps sp)(G:Ak (k+1) X.A)(I:Gl X x)(J0:X.mg x=some (.ref C))(L:Binds X.K fd ps ds)(M:Af hh ds)(O:uE CX X E)(R:(x==("__debug__":Str))=false:=by decide)(h1:1<=X.t0:=by first|assumption|exact X2 1):PE X (.Call (.Name x p) [] [] pos) (gG C sp hh E wO):=by
 intro Δ s σ H Q B h;refine QL (oj B I J0 ?_ R);exact W.callWith_K0 B.kIn D.kp (gH (h1:=h1) (us:=[]) D F G L M O B .nil h)
end
section
variable {f:Addr}{ks:List Str}{E:XK}{x:Str}{p kpos:Pos}{e o:R8}{kws:List Mb}{t tk:TA}{nm:Option Str}
variable {g:List X3->List X3->List X3}{gV:List V->List V->List V}
end
structure zK(N P:List Str)(sc:Scope):Prop where
 kind:sc.kind=.function
 co:sc.isCoroutine=false
 gen:sc.isGenerator=false
 nd:N.Nodup
 pre:N.take P.length=P
 par:∀x∈P,sc.names.lookup x=some .local∨sc.names.lookup x=some .cell
 nofree:∀y∈sc.names,y.2≠.free
theorem gJ{kindOf:Str->Option O4}{x:Str}:∀ {B:List (Str×X3)}{m:Str->Option X3},(∀v,(x,v)∉B)->J2 kindOf B m x=m x
 |[],_,_=>rfl
 |(n,v)::r,m,h=>by
  unfold J2;rw[gJ λw hw=>h w (T7 _ hw)];split
  .have:x≠n:=by rintro rfl;exact h v W8
   simp[this]
  .rfl
theorem gK{kindOf:Str->Option O4}{x:Str}:∀ {B:List (Str×X3)}{m:Str->Option X3},(∀v,(x,v)∉B)->J3 kindOf B m x=m x
 |[],_,_=>rfl
 |(n,v)::r,m,h=>by
  unfold J3;rw[gK λw hw=>h w (T7 _ hw)];split
  .rfl
  .have:x≠n:=by rintro rfl;exact h v W8
   simp[this]
theorem gL{kindOf:Str->Option O4}{x:Str}{v:X3}:∀ {P:List Str}{vs:List X3}{i:Nat}{m:Str->Option X3},P.Nodup->P[i]?=some x->vs[i]?=some v->kindOf x=some .local ->
  J2 kindOf (P.zip vs) m x=some v
 |[],_,_,_,_,h,_,_=>by simp at h
 |_::_,[],_,_,_,_,h,_=>by simp at h
 |p::P,w::vs,0,m,B,h1,h2,D=>by
  simp at h1 h2;subst h1;subst h2;show J2 kindOf ((p,w)::P.zip vs) m p=_;unfold J2;rw[gJ λv F=>(Q4.mp B).1 (M3 F).1,Qxb D];simp
 |p::P,w::vs,i+1,m,B,h1,h2,D=>by
  show J2 kindOf ((p,w)::P.zip vs) m x=_;unfold J2;exact gL (i:=i) (Q4.mp B).2 (by simpa using h1) (by simpa using h2) D
theorem gM{kindOf:Str->Option O4}{x:Str}{v:X3}:∀ {P:List Str}{vs:List X3}{i:Nat}{m:Str->Option X3},P.Nodup->P[i]?=some x->vs[i]?=some v->kindOf x≠some .local ->
  J3 kindOf (P.zip vs) m x=some v
 |[],_,_,_,_,h,_,_=>by simp at h
 |_::_,[],_,_,_,_,h,_=>by simp at h
 |p::P,w::vs,0,m,B,h1,h2,D=>by
  simp at h1 h2;subst h1;subst h2;show J3 kindOf ((p,w)::P.zip vs) m p=_;unfold J3;rw[gK λv F=>(Q4.mp B).1 (M3 F).1,Qxa D];simp
 |p::P,w::vs,i+1,m,B,h1,h2,D=>by
  show J3 kindOf ((p,w)::P.zip vs) m x=_;unfold J3;exact gM (i:=i) (Q4.mp B).2 (by simpa using h1) (by simpa using h2) D
noncomputable def start(N:List Str)(vs:List V):St:=vs.map some++R3 (N.length-vs.length) none
noncomputable def zH(CX:wP)(P:U2)(w:Rz)(K:W.Frag)(mg:Str->Option X3)(base:Heap)(N:List Str)(B:Str)(scope:Scope)(f:Addr)(D:X3)(A:QG)(outer:List Env)(s:X9)(H:Hp)(E:XK):Cx where
 prog:=P
 w:=w
 K:=K
 mg:=mg
 base:=base
 A:=A.deeper (Nw B scope s.heap.objs.size f D)
 N:=N
 s₀:=s
 H₀:=H
 env:=Nw B scope s.heap.objs.size f D
 outer:=outer
 stack:=Nw B scope s.heap.objs.size f D::outer
 ex:=[]
 calm:=true
 fn:=λ_=>true
 pn:=[]
 xe:=λe s'=>Rj (model P w) (A.deeper (Nw B scope s.heap.objs.size f D)) (leaving (Nw B scope s.heap.objs.size f D) e) (λ_ F=>CX outer H s E e F) (λG F=>CX outer H s E G F) s'
 t0:=1
theorem gN{sc:Scope}{x:Str}(h:sc.names.lookup x=some .cell):∃c,(IE n sc.names []).lookup x=some c:=by
 have q:=JC sc.names n [] (.inl h);exact Mm.mp q
theorem YC{I:Nat}{F:Str}{f:Addr}{J0:X9}{E:XK}(S:zK N ps scope)(U:A.handled=none)(B:ox I P w K mg base A outer s H)(Y:vs.length=ps.length)(r:Af vs us)(x:InCallC s s.heap.objs.size (J2 (Nw F scope s.heap.objs.size f G).kindOf (ps.zip us) λ_=>none) (IE (s.heap.objs.size+1) scope.names []) (J3 (Nw F scope s.heap.objs.size f G).kindOf (ps.zip us) λ_=>none) J0)(ht:I<=J0.toks) :
  Inv { zH CX P w K mg base N F scope f G A outer s H E with t0:=I } [] (start N vs) H J0:=by
 have ab:ps.length<=N.length:=by have:=congrArg Np S.pre;rw[QQ] at this;omega
 obtain⟨h1,tk,rfl,M⟩:=x.done;have L:∀b:Addr,b∉(zH CX P w K mg base N F scope f G A outer s H E).ex:=λb z=>absurd (show b∈([]:List Addr) from z) (by simp);refine⟨⟨B.mod,S.kind,J,J,X2 _,λy z c h1 h2=>?_,λy hy=>?_,λy c _ h=>?_,λ_=>U,QG.frames_deeper B.frames,.inr ⟨J,J⟩,λb z=>absurd z (L b),B.bs,B.bsz,λb _ _=>L b,λb z=>absurd z (L b),B.funs,B.frf⟩,
  J,B.bare,Un.kept M,⟨_,x.toInCall.ns,λi y v h1 h2 ac=>?_⟩,λy c h=>⟨_,x.cell y c h⟩,B.hok.fresh (X2 _),λy c h=>?_,λp D=>absurd (show p∈([]:List (Addr×Obj)) from D) (by simp),B.hok.kept M,?_,ht⟩
 .exact name_of_addr x.apart (Pn h1) (Pn h2)
 .have hy:scope.names.lookup y=some .cell∨scope.names.lookup y=some .free:=hy;rcases hy with hy|hy
  .exact gN hy
  .exact absurd rfl (S.nofree _ (Pn hy))
 .exact RL (x.above y c (Pn h))
 .have hi:i<vs.length:=by
   unfold start at h2;by_cases hi:i<vs.length
   .exact hi
   .rw[Qp (by simpa using hi)] at h2;rw[List.getElem?_replicate] at h2;split at h2<;>cases h2
  have Z:vs[i]?=some v:=by
   unfold start at h2;rw[Qr (by simpa using hi),RF] at h2;cases e:vs[i]? with
   |none=>rw[e] at h2;cases h2
   |some a=>rw[e] at h2;cases h2;rfl
  obtain⟨u,O,aa⟩:=r.get Z;have D:ps[i]?=some y:=by
   rw[←S.pre,OD (zU hi (RH Y))];exact h1
  have R:ps.Nodup:=by rw[←S.pre];exact S.nd.sublist (List.take_sublist _ _)
  refine⟨u,aa,?_⟩;rcases S.par y (Ph D) with k|k
  .exact .inl ⟨k,gL R D O k⟩
  .obtain⟨c,e⟩:=gN (n:=s.heap.objs.size+1) k;refine .inr ⟨.inl k,c,e,?_⟩;have q:=x.cell y c e;rw[gM R D O (by show scope.names.lookup y≠_;rw[k];decide)] at q;exact q
 .exact B.hok.fresh (RL (x.above y c (Pn h)))
 .unfold start;show _=N.length;rw[X4,X5,Oa];omega
theorem gO(G:Nat){CX:wP}{P:U2}{w:Rz}{K:W.Frag}{mg:Str->Option X3}{base:Heap}{k:Nat}{f:Addr}{name B:Str}{O:Arguments}{I:List Stmt}{scope:Scope}{R kV doc pm g4 ct oc:X3}{an od:Option Addr}{hj:Array (Option X3)}{N ps:List Str}{sp:Sp}(ac:K.lookup f=some ⟨oc,od,.func (W.fnOf name B O I scope R kV doc pm an g4 ct),hj⟩)(ad:MA K g4 B=true)(S:zK N ps scope)(U:∀vs H Q E,sp vs H Q E->vs.length=ps.length)(ae:∀(A:QG) (outer:List Env) (s:X9) (H:Hp) (vs:List V) (Q:VK) (E:XK),Ak k (A.deeper (Nw B scope s.heap.objs.size f g4))->sp vs H Q E ->
   ∃t,Bf { zH CX P w K mg base N B scope f g4 A outer s H E with t0:=G } I t/\t { nx:=λ_ H'=>Q .non H',rt:=Q } (start N vs) H) :
  uD G P w K mg base CX (k+1) f (W.fnOf name B O I scope R kV doc pm an g4 ct) ps sp:=by
 refine⟨U,λA outer s H args us vs Q E L D af r Y=>?_⟩;have ag:=U _ _ _ _ Y;have Z:K.In s.heap:=D.mod.kin.keeps λb o e=>(D.bs b o e).1;have ah:s.heap.NoLimit:=D.mod.nolimit.keeps λb o e=>(D.bs b o e).1;have ai:∀y∈ps.zip us,scope.names.lookup y.1=some .local∨(scope.names.lookup y.1=some .cell/\((IE (s.heap.objs.size+1) scope.names []).lookup y.1).isSome=true):=λ⟨n,v⟩ aj=>by
  rcases S.par n (M3 aj).1 with q|q
  .exact .inl q
  .exact .inr ⟨q,JC _ _ _ (.inl q)⟩
 refine codeAny_call_function L.depth (Z _ _ ac) rfl S.co S.gen rfl (W.codeRec_of Z ad) (af _ _ _ _ ?_);refine R7 (n:=G) D.tk (wpAny_newFunctionEnv_cells S.kind ai λenv ak aa x al=>?_);subst ak;refine⟨ah.keeps x.toInCall.keep,codeAny_func ?_⟩;obtain⟨t,ht,am⟩:=ae A outer s H vs Q E (L.deeper _) Y;have ao:Inv { zH CX P w K mg base N B scope f g4 A outer s H E with t0:=G } [] (start N vs) H aa:=YC S L.hd D ag r x al;refine OK (ht [] aa (start N vs) H _ ao am) (λap s' F=>?_) λe s' F=>F;have ab:∀ {σ':St} {H':Hp} {v:V} {u:X3},Inv { zH CX P w K mg base N B scope f g4 A outer s H E with t0:=G } [] σ' H' s'->RelV v u->Q v H'->CE outer P w H s Q u s':=
  λ{σ' H' v u} J0 M q=>⟨v,H',J0.os,J0.bare,J0.base,J0.hok,M,q⟩
 cases ap with
 |ret u=>
  obtain⟨v,σ',H',J0,M,q⟩:=F;exact ab J0 M q
 |next=>
  obtain⟨σ',H',J0,q⟩:=F;exact ab (v:=V.non) (u:=PZ) J0 rfl q
 |brk=>
  obtain⟨_,_,_,q⟩:=F;exact Q0 q
 |cont=>
  obtain⟨_,_,_,q⟩:=F;exact Q0 q
theorem gP{k:Nat}{f:Addr}{name B:Str}{F:Arguments}{D:List Stmt}{kV doc pm g4 ct oc:X3}{an od:Option Addr}{hj:Array (Option X3)}{sp:Sp}(I:K.lookup f=some ⟨oc,od,.func (W.fnOf name B F D scope G kV doc pm an g4 ct),hj⟩)(J0:MA K g4 B=true)(S:zK N ps scope)(L:∀vs H Q E,sp vs H Q E->vs.length=ps.length)(M:∀(A:QG) (outer:List Env) (s:X9) (H:Hp) (vs:List V) (Q:VK) (E:XK),Ak k (A.deeper (Nw B scope s.heap.objs.size f g4))->sp vs H Q E ->
   ∃t,Bf (zH CX P w K mg base N B scope f g4 A outer s H E) D t/\t { nx:=λ_ H'=>Q .non H',rt:=Q } (start N vs) H) :
  Ag P w K mg base CX (k+1) f (W.fnOf name B F D scope G kV doc pm an g4 ct) ps sp:=gO 1 I J0 S L M
section
variable {x:Str}{p:Pos}{e:R8}{t:TA}{id T:String}{r:List V->Hp->VK->Prop}
noncomputable def tO(r:List V->Hp->VK->Prop)(t:TA):TE:=λσ H Q=>t σ H λvs H1=>r vs H1 Q
theorem zT(D:xY X (.builtin id) r)(F:Gl X x)(G:X.mg x=none)(I:Qq x=some (.builtin id))(J0:PA X (e::es) t)(L:x≠"__name__":=by decide)(M:(x==("__debug__":Str))=false:=by decide)(O:T2 (e::es) X.env=(false,eval e X.env)::T2 es X.env:=by rfl)(R:(QS pos (T2 es X.env)).any (·.1)=false:=by rfl):PE X (.Call (.Name x p) (e::es) [] pos) (tO r t):=by
 intro Δ s σ H Q B h;refine QL (wz B F G I ?_ L M);refine Nh (zo (J0 pos Δ s σ H _ B h) λus S U=>?_) O R;obtain⟨vs,H1,V,W,q1⟩:=U;exact D Δ S σ H1 vs us Q V W q1
theorem vc(D:xY X (.type T) r)(F:Gl X x)(G:X.mg x=none)(I:Qq x=some (.type T))(J0:PA X (e::es) t)(L:x≠"__name__":=by decide)(M:(x==("__debug__":Str))=false:=by decide)(O:T2 (e::es) X.env=(false,eval e X.env)::T2 es X.env:=by rfl)(R:(QS pos (T2 es X.env)).any (·.1)=false:=by rfl):PE X (.Call (.Name x p) (e::es) [] pos) (tO r t):=by
 intro Δ s σ H Q B h;refine QL (wz B F G I ?_ L M);refine QF (zo (J0 pos Δ s σ H _ B h) λus S U=>?_) O R;obtain⟨vs,H1,V,W,q1⟩:=U;exact D Δ S σ H1 vs us Q V W q1
end
end L2
namespace HT
open PySem PyProof.Rows
section
open PySem.SeqAt
open PySem.AutoSeq1 (wpAny_loadPart')
open PySem.MeetsSeq PySem.MeetsSeq2 PySem.MeetsSeq3
end
section
variable {prog:U2}{w:Rz}{A:QG}{E:X3->X9->Prop}{s:X9}
theorem cat_tup{t b:Addr}{vs B:List X3}{Q:X3->X9->Prop}(ht:IZ s.heap t vs.toArray)(U:IZ s.heap b B.toArray)(G:vs≠[])(h1:B=[]->Q (.ref t) s)(h2:B≠[]->Q (.ref s.heap.objs.size) { s with heap:=s.heap.push { cls:=.type "tuple",data:=.seq (vs++B).toArray } })(hsz:vs.length+B.length<=sizeLine):Rj (model prog w) A (P6 .Add (.ref t) (.ref b)) Q E s:=by
 obtain⟨⟨cls,dd,data,I⟩,D,J0,n,L⟩:=id ht;obtain⟨⟨V,M,data2,O⟩,F,R,n2,S⟩:=id U;simp only at J0 L R S;subst J0 L R S;have e:vs.toArray++B.toArray=(vs++B).toArray:=by simp
 by_cases hw:B=[]
 .exact Jo ⟨_,D,J⟩ ⟨_,F,J⟩ MB KQ O5 OS (OE _ _)
   (tuple_addW1 t b vs.toArray B.toArray n n2 dd M I O (by simpa using G) (by simp[hw])) ⟨D,F,h1 hw⟩
 .refine Jo ⟨_,D,J⟩ ⟨_,F,J⟩ MB KQ O5 OS (OE _ _)
   (tuple_addW2 t b vs.toArray B.toArray n n2 dd M I O (by simpa using G) (by simpa using hw) (by rw[T4,T4];exact hsz)) ⟨D,F,?_⟩
  rw[e];exact h2 hw
noncomputable def sIx(n d:Nat):Option Int->Nat
 |none=>d
 |some v=>if v<0 then (v+(n:Int)).toNat else min v.toNat n
theorem sIx_none(n d:Nat):sIx n d none=d:=rfl
theorem sIx_nat(n d k:Nat):sIx n d (some (k:Int))=min k n:=by
 show (if (k:Int)<0 then ((k:Int)+(n:Int)).toNat else min (k:Int).toNat n)=min k n;rw[Qxa (by omega),Jp]
theorem sIx_le(n d:Nat)(D:d<=n)(o:Option Int):sIx n d o<=n:=by
 cases o with
 |none=>exact D
 |some v=>
  show (if v<0 then (v+(n:Int)).toNat else min v.toNat n)<=n;by_cases B:v<0
  .rw[Qxb B];omega
  .rw[Qxa B];exact Nat.min_le_right _ _
end
end HT
namespace L2
open PySem PySem.Spec PyProof.Rows
variable {B:Type}{xs:List V}{us:List X3}{j n:Nat}{i:Int}{Δ:List (Addr×Obj)}{σ:St}{H:Hp}{s:X9}
noncomputable abbrev TO:=St->Hp->(Option Int->Hp->Prop)->Prop
noncomputable def PO(X:Cx)(e:Option R8)(t:TO):Prop:=
 ∀(Δ:List (Addr×Obj)) (s:X9) (σ:St) (H:Hp) (Q:Option Int->Hp->Prop),Inv X Δ σ H s->t σ H Q ->
  Rj (model X.prog X.w) X.A (evalPart e X.env) (λu s'=>∃o H',Inv X Δ σ H' s'/\IsPart u o/\Q o H') X.xe s
noncomputable def YD:TO:=λ_ H Q=>Q none H
noncomputable def lX(t:TE):TO:=λσ H Q=>t σ H λx H1=>∃i,x=.int i/\Q (some i) H1
theorem YE{B:List Int}:∀ {us:List X3},Af (B.map V.int) us->Kx us B:=by
 induction B with
 |nil=>intro us r;rw[NH] at r;cases r;exact .nil
 |cons n B D=>
  intro us r;rw[RD] at r;cases r with
  |cons F G=>
   obtain⟨t,e⟩:=F;subst e;exact .cons n t (D G)
variable {X:Cx}{e:R8}{pos:Pos}
section
variable {te:TE}{lo hi:Option R8}{tl th:TO}{p2:Pos}
theorem vd:PO X none YD:=by
 intro Δ s σ H Q B h;rw[KR];exact S3 ⟨none,H,B,.none,h⟩
theorem xz(h:PE X e te):PO X (some e) (lX te):=by
 intro Δ s σ H Q B hw;rw[evalPart_some];refine zo (h Δ s σ H _ B hw) λu I D=>?_;obtain⟨x,H1,F,G,q1⟩:=D;obtain⟨i,rfl,q⟩:=q1;obtain⟨t,rfl⟩:=G;exact⟨some i,H1,F,.int i t,q⟩
noncomputable def lY(X:Cx)(r:V->Option Int->Option Int->Hp->VK->Prop):Prop:=
 ∀(Δ:List (Addr×Obj)) (s:X9) (σ:St) (H:Hp) (x:V) (v B D:X3) (lo hi:Option Int) (F:Addr) (Q:VK),Inv X Δ σ H s->RelV x v->s.heap.IsSliceOf F B D .none->IsPart B lo->IsPart D hi->r x lo hi H Q ->
  ∃T id,typeLookup (.type T) "__getitem__"=pure (some (.builtin id))/\s.TypeIs v T/\Rj (model X.prog X.w) X.A (Ky v (.ref F)) (EP X Δ σ Q) X.xe s
noncomputable def YF(r:V->Option Int->Option Int->Hp->VK->Prop)(te:TE)(tl th:TO):TE:=λσ H Q=>te σ H λx H1=>tl σ H1 λl H2=>th σ H2 λu B=>r x l u B Q
theorem x0{r:V->Option Int->Option Int->Hp->VK->Prop}(J0:lY X r)(L:PE X e te)(M:PO X lo tl)(O:PO X hi th):PE X (.Subscript e (.Slice lo hi none p2) pos) (YF r te tl th):=by
 intro Δ s σ H Q R h;refine MR (zo (L Δ s σ H _ R h) λv S G=>?_);obtain⟨x,H1,U,W,q1⟩:=G;refine wpAny_Slice (zo (M Δ S σ H1 _ U q1) λD Y G=>?_);obtain⟨l,H2,Z,pl,aa⟩:=G;refine zo (O Δ Y σ H2 _ Z aa) λF B ab=>?_;obtain⟨u,I,ac,ad,ae⟩:=ab;rw[KR];refine S3 ?_;have af:Inv X Δ σ I { B with heap:=B.heap.push { cls:=.type "slice",data:=.fields #[D,F,.none] } }:=ac.kept (t':=B.toks) λb ai q=>W0 _ q;obtain⟨T,id,ag,ht,ah⟩:=J0 Δ { B with heap:=B.heap.push { cls:=.type "slice",data:=.fields #[D,F,.none] } } σ I x v D F l u B.heap.objs.size Q af W (K5 ..) pl ad ae;show Rj (model X.prog X.w) X.A (Mn e (.Slice lo hi none p2) v (.ref B.heap.objs.size)) (EP X Δ σ Q) X.xe { B with heap:=B.heap.push { cls:=.type "slice",data:=.fields #[D,F,.none] } };exact tail_any (ops:=[.ref B.heap.objs.size,v]) ht ag ah (by with_unfolding_all rfl)
noncomputable def xh(xs:List V)(lo hi:Option Int):List V:=(xs.drop (HT.sIx xs.length 0 lo)).take (HT.sIx xs.length xs.length hi-HT.sIx xs.length 0 lo)
theorem YG(xs:List V)(lo hi:Option Int):(xh xs lo hi).length<=xs.length:=by
 unfold xh;rw[QQ,Qw];exact bU
noncomputable def YH(K:W.Frag):R2:=λx y H Q=>∃a b xs ys,x=.ref a/\y=.ref b/\Ah K H a xs/\Ah K H b ys/\xs≠[]/\xs.length+ys.length<=sizeLine /\
 (ys=[]->Q (.ref a) H)/\(ys≠[]->∀p,H p=none->Q (.ref p) (c' H p (.tup (xs++ys))))
theorem Af.nil_iff(r:Af xs us):us=[]↔xs=[]:=by
 cases r with
 |nil=>simp
 |cons _ _=>simp
theorem YI:yt X (P6 .Add) (YH X.K):=by
 intro Δ s σ H x y v u Q B I J0 h;obtain⟨a,b,xs,ys,rfl,rfl,L,M,O,G,q1,R⟩:=h;cases I;cases J0;obtain⟨its,F,S,_⟩:=B.tuple L;obtain⟨U,D,p2,_⟩:=B.tuple M;refine HT.cat_tup S p2 (λz=>O (F.nil_iff.mp z)) (λz=>⟨.ref a,H,B,J,q1 (D.nil_iff.mp z)⟩) (λz=>?_) (by rw[←F.length,←D.length];exact G);refine⟨.ref s.heap.objs.size,_,B.laid (t':=s.toks) (o:=.tup (xs++ys)) (λb V q=>W0 _ q) (X2 _) ?_,J,R (λw=>z (D.nil_iff.mpr w)) _ (B.hok.fresh (X2 _))⟩;exact⟨by rw[X4];exact G,_,F.append D,IZ.new _ _⟩
end
noncomputable def xA(n:Nat)(i:Int):Option Nat:=if 0<=i then (if i<n then some i.toNat else none) else if -(n:Int)<=i then some (i+n).toNat else none
noncomputable def xi{B:Type}(xs:List B)(i:Int):Option B:=(xA xs.length i).bind λj=>xs[j]?
theorem gQ(h:xA n i=some j):IF i n=some j/\j<n/\-(n:Int)<=i/\i<n:=by
 unfold xA at h;by_cases B:0<=i
 .rw[Qxb B] at h;by_cases h1:i<n
  .rw[Qxb h1] at h;have e:i.toNat=j:=R4 h;exact⟨by rw[JQ B h1,e],by omega,by omega,h1⟩
  .rw[Qxa h1] at h;cases h
 .rw[Qxa B] at h;by_cases h1:-(n:Int)<=i
  .rw[Qxb h1] at h;have e:(i+n).toNat=j:=R4 h;exact⟨by rw[Jq (by exact rN B) h1,e],by omega,h1,by omega⟩
  .rw[Qxa h1] at h;cases h
theorem lZ{B:Type}{xs:List B}{v:B}(h:xi xs i=some v):∃j,IF i xs.length=some j/\xs[j]?=some v/\j<xs.length/\-(xs.length:Int)<=i/\i<xs.length:=by
 unfold xi at h;cases e:xA xs.length i with
 |none=>rw[e] at h;cases h
 |some j=>
  rw[e] at h;obtain⟨h1,h2,D,F⟩:=gQ e;exact⟨j,h1,h,h2,D,F⟩
theorem zy{B:Type}{xs:List B}{v:B}(h:xs[j]?=some v):xi xs (j:Int)=some v:=by
 have D:j<xs.length:=(W5.mp h).1;have e:xA xs.length (j:Int)=some j:=by
  unfold xA;rw[Qxb (RC _),Qxb (wx D)];simp
 unfold xi;rw[e];exact h
theorem YJ(xs:List B)(v:B):xi (xs++[v]) (-1)=some v:=by
 have D:(xs++[v]).length=xs.length+1:=by simp
 have e:xA (xs++[v]).length (-1)=some xs.length:=by
  unfold xA;rw[D,Qxa (by decide),Qxb (by omega)];congr 1;omega
 unfold xi;rw[e];show (xs++[v])[xs.length]?=some v;simp
noncomputable def YK(b:R8):Prop:=∀o i,subscripted b false o i=operate [o,i] (Ky o i)
noncomputable def BM(X:Cx)(r:R2):Prop:=
 ∀(value B:R8) (Δ:List (Addr×Obj)) (s:X9) (σ:St) (H:Hp) (x y:V) (v u:X3) (Q:VK),Inv X Δ σ H s->RelV x v->RelV y u->r x y H Q ->
  subscripted B false v u=operate [v,u] (Ky v u)->Rj (model X.prog X.w) X.A (Mn value B v u) (EP X Δ σ Q) X.xe s
noncomputable def uF(X:Cx)(id:String)(r:V->List V->Hp->VK->Prop):Prop:=
 ∀(Δ:List (Addr×Obj)) (s:X9) (σ:St) (H:Hp) (x:V) (xs:List V) (v:X3) (us:List X3) (Q:VK),Inv X Δ σ H s->RelV x v->Af xs us->r x xs H Q ->
  Rj (model X.prog X.w) X.A (call (.builtin id) (v::us)) (EP X Δ σ Q) X.xe s
section
variable {a b:R8}{ta tb:TE}
theorem BM.or{r B:R2}(h:BM X r)(h':BM X B):BM X (λx y H Q=>r x y H Q∨B x y H Q):=by
 intro value D Δ s σ H x y v u Q F G I q J0;rcases q with q|q
 .exact h value D Δ s σ H x y v u Q F G I q J0
 .exact h' value D Δ s σ H x y v u Q F G I q J0
theorem zx{r:R2}(B:BM X r)(D:PE X a ta)(F:PE X b tb)(G:YK b):PE X (.Subscript a b pos) (tK r ta tb):=by
 intro Δ s σ H Q I h;exact MR (lN D F I h λv u J0 x y H2 L M O q=>B a b Δ J0 σ H2 x y v u Q L M O q (G _ _))
noncomputable def l7(K:W.Frag):R2:=λx y H Q=>∃p xs i v,x=.ref p/\y=.int i/\Ad K H p xs/\xi xs i=some v/\Q v H
noncomputable def l8(K:W.Frag):R2:=λx y H Q=>∃p xs i v,x=.ref p/\y=.int i/\Ah K H p xs/\xi xs i=some v/\Q v H
noncomputable def gR:R2:=λx y H Q=>∃z i c,x=.str z/\y=.int i/\z.length<=sizeLine/\xi z.cps.toList i=some c/\Q (.str ⟨#[c]⟩) H
theorem Ae:BM X (l7 X.K):=by
 intro value aa Δ s σ H x y v u Q F S U h G;obtain⟨p,xs,i,z,rfl,rfl,V,W,q⟩:=h;cases S;obtain⟨t,rfl⟩:=U;obtain⟨its,r,pl,I⟩:=F.list V;obtain⟨j,h1,h2,ab,J0,L⟩:=lZ W;obtain⟨w,M,Y⟩:=r.get h2;have Z:=r.length;have O:=v0;have R:EP X Δ σ Q w s:=⟨z,H,F,Y,q⟩;by_cases B:0<=i
 .have D:i.toNat=j:=by
   rw[JQ B L] at h1;exact R4 h1
  exact item_listR pl.isList B (by exact lz I L O) (by rw[D];simpa using M) R G
 .have D:(i+(its.toArray.size:Int)).toNat=j:=by
   rw[Jq (by exact rN B) J0] at h1;rw[T4,←Z];exact R4 h1
  exact O6 (x:=w) pl.isList.typeIs Mc.lookup
   (wpAny_getItem_list_neg (Q:=λr s'=>r=w/\EP X Δ σ Q r s') pl.isList (by exact rN B) (by rw[T4]<;>omega) (by exact lA I J0 O) (by rw[D];simpa using M) ⟨J,R⟩) G
theorem Ai:BM X (l8 X.K):=by
 intro value Y Δ s σ H x y v u Q B G I h J0;obtain⟨p,xs,i,z,rfl,rfl,L,M,q⟩:=h;cases G;obtain⟨t,rfl⟩:=I;obtain⟨its,r,pl,D⟩:=B.tuple L;obtain⟨j,h1,h2,Z,O,R⟩:=lZ M;obtain⟨w,S,U⟩:=r.get h2;have V:=r.length;have F:=v0;have W:EP X Δ σ Q w s:=⟨z,H,B,U,q⟩;exact O6 (x:=w) pl.typeIs K6.lookup
  (getItem_tuple (j:=j) (Q:=λr s'=>r=w/\EP X Δ σ Q r s') pl (by exact lA D O F) (by exact lz D R F) (by rw[T4,←V];exact h1) (by simpa using S) ⟨J,W⟩) J0
theorem rZ:BM X gR:=by
 intro value S Δ s σ H x y v u Q B D F h G;obtain⟨z,i,c,rfl,rfl,U,I,q⟩:=h;obtain⟨t,rfl⟩:=D;obtain⟨t',rfl⟩:=F;obtain⟨j,h1,h2,V,J0,L⟩:=lZ I;have M:z.cps.toList.length=z.length:=by simp[J4]
 rw[M] at h1 J0 L;have W:=v0;exact tail_any (ON s z t) slot_str_getitem.lookup (getItem_str (c:=c) (by
  have O:decide (i < -(2 ^ 63:Int))=false:=decide_eq_false (by omega);have R:decide (i ≥ 2 ^ 63)=false:=decide_eq_false (by omega);rw[O,R,Iu]) (by rw[h1];simpa using h2) ⟨.str ⟨#[c]⟩,H,B.tok _,⟨_,J⟩,q⟩) G
noncomputable def gS(K:W.Frag):R2:=λx y H Q=>l7 K x y H Q∨l8 K x y H Q∨gR x y H Q
theorem YL:BM X (gS X.K):=Ae.or (Ai.or rZ)
theorem YM(its:List X3)(n j:Nat)(u:X3):MS (·.setIfInBounds j u) { cls:=.type "list",data:=.seq its.toArray n }={ cls:=.type "list",data:=.seq (its.set j u).toArray n }:=by
 simp[MS]
theorem Inv.lst{Δ:List (Addr×Obj)}{σ:St}{H:Hp}{s:X9}{p:Addr}{xs:List V}(B:Inv X Δ σ H s)(h:H p=some (.lst xs)) :
  ∃(its:List X3) (n:Nat),Af xs its/\s.heap.get? p=some { cls:=.type "list",data:=.seq its.toArray n }/\xs.length<=sizeLine:=by
 obtain⟨z,its,n,r,e⟩:=B.hok p _ h;exact⟨its,n,r,e,z⟩
theorem Inv.lstUpd{p:Addr}{xs ys:List V}{its its':List X3}{n B:Nat}{f:Obj->Obj}(F:Inv X Δ σ H s)(h:H p=some (.lst xs))(G:s.heap.get? p=some { cls:=.type "list",data:=.seq its.toArray n })(D:f { cls:=.type "list",data:=.seq its.toArray n }={ cls:=.type "list",data:=.seq its'.toArray B })(r:Af ys its')(I:ys.length<=sizeLine)(t:Nat)(ht:X.t0<=t:=by first|assumption|exact Inv.tk (by assumption)|(have q:=Inv.tk (by assumption);omega)) :
  Inv X Δ σ (c' H p (.lst ys)) { s with heap:=s.heap.update p f,toks:=t }:=by
 have e:(s.heap.update p f).get? p=some { cls:=.type "list",data:=.seq its'.toArray B }:=by
  rw[Heap.get?_update_self f G (by rw[D]<;>rfl),D]
 refine F.write (x:=p) (e:=p) (by rw[h];trivial) (.inl J) (λb u J0 q=>(MT _ _ (Q3 J0)).trans q) ⟨_,e⟩ ?_;exact⟨I,its',B,r,e⟩
noncomputable def YN:V->V->V->Hp->(Hp->Prop)->Prop:=λo i v H Q=>∃p xs k j,o=.ref p/\i=.int k/\H p=some (.lst xs)/\xA xs.length k=some j/\Q (c' H p (.lst (xs.set j v)))
theorem l9:on X YN:=by
 intro Δ s σ H o i v aa ab u Q M U V Y h;obtain⟨p,xs,k,j,rfl,rfl,O,Z,q⟩:=h;cases U;obtain⟨t,rfl⟩:=V;obtain⟨its,n,r,D,F⟩:=M.lst O;obtain⟨h1,h2,G,I⟩:=gQ Z;have J0:=r.length;have R:=v0;have S:Inv X Δ σ (c' H p (.lst (xs.set j v))) { s with heap:=s.heap.update p (MS (·.setIfInBounds j u)) }:=
  M.lstUpd O D (YM its n j u) (r.set Y j) (by rw[List.length_set];exact F) s.toks
 by_cases B:0<=k
 .have L:k.toNat=j:=by
   rw[JQ B I] at h1;exact R4 h1
  exact W.ki_setAt D B (by exact lz F I R) (by rw[T4,←J0];exact I) (by rw[L];exact⟨_,S,q⟩)
 .have L:(k+(its.toArray.size:Int)).toNat=j:=by
   rw[Jq (by exact rN B) G] at h1;rw[T4,←J0];exact R4 h1
  exact W.ki_setBack D (by exact rN B) (by rw[T4,←J0];exact G) (by exact lA F G R) (by rw[L];exact⟨_,S,q⟩)
theorem YO(lo hi:Option Int)(n:Nat):(OT lo hi none n).1=((HT.sIx n 0 lo:Nat):Int)/\(OT lo hi none n).2.1=((HT.sIx n n hi:Nat):Int)/\(OT lo hi none n).2.2=1:=by
 refine⟨?_,?_,J⟩
 .cases lo with
  |none=>simp[OT,HT.sIx]
  |some i=>
   simp only[OT,HT.sIx,JD,show (1:Int)>0 by decide,if_true];by_cases h:i<0
   .simp only[h,if_true]<;>exact lw h
   .simp only[h,if_false]<;>exact lq
 .cases hi with
  |none=>simp[OT,HT.sIx]
  |some i=>
   simp only[OT,HT.sIx,JD,show (1:Int)>0 by decide,if_true];by_cases h:i<0
   .simp only[h,if_true]<;>exact lw h
   .simp only[h,if_false]<;>exact lq
theorem YQ(its:List X3)(lo hi:Option Int):slicePick its.toArray lo hi none=((its.drop (HT.sIx its.length 0 lo)).take (HT.sIx its.length its.length hi-HT.sIx its.length 0 lo)).toArray:=by
 obtain⟨h1,h2,B⟩:=YO lo hi its.toArray.size;unfold slicePick;rw[h1,h2,B];simp only[sliceRange_one,pick_run,T4]<;>rfl
noncomputable def YR(K:W.Frag):V->Option Int->Option Int->Hp->VK->Prop:=λx lo hi H Q=>∃a xs,x=.ref a/\Ad K H a xs/\∀p,H p=none->Q (.ref p) (c' H p (.lst (xh xs lo hi)))
theorem tP:lY X (YR X.K):=by
 intro Δ s σ H x v M O lo hi R Q B G I pl J0 h;obtain⟨a,xs,rfl,L,q⟩:=h;cases G;obtain⟨its,r,ht,D⟩:=B.list L;have F:=r.length;refine⟨"list",_,Mc.lookup,ht.isList.typeIs,?_⟩;refine Mo ht.isList I pl J0 .none (by simp) ?_ (by rw[T4]<;>exact xq (RH F) D);rw[YQ,←F];refine⟨.ref s.heap.objs.size,_,B.laid (t':=s.toks) (o:=.lst (xh xs lo hi)) (λb S q=>W0 _ q) (X2 _) ?_,J,q _ (B.hok.fresh (X2 _))⟩;exact⟨S5 (YG xs lo hi) D,_,0,(r.drop (HT.sIx xs.length 0 lo)).take (HT.sIx xs.length xs.length hi-HT.sIx xs.length 0 lo),Ru _ J⟩
noncomputable def uG:V->Bool
 |.non=>true
 |.bl _=>true
 |.int _=>true
 |.str _=>true
 |_=>false
noncomputable def uH:V->V->Bool
 |.non,.non=>true
 |.bl a,.bl b=>a==b
 |.bl a,.int b=>(if a then 1 else 0)==b
 |.int a,.bl b=>a==(if b then 1 else 0)
 |.int a,.int b=>a==b
 |.str a,.str b=>a==b
 |_,_=>false
theorem YS{A:QG}{y x:V}{u v:X3}(D:RelV y u)(B:RelV x v)(G:uG y=true)(F:uG x=true):K7 A s u v (uH y x):=by
 cases y with
 |non=>
  cases D;cases x with
  |non=>cases B;exact Pz _
  |bl b=>cases B;exact K7.none_bool b
  |int b=>obtain⟨t,rfl⟩:=B;exact K7.none_int b t
  |str b=>obtain⟨t,rfl⟩:=B;exact K7.none_str b t
  |_=>exact absurd (show false=true from F) Rb
 |bl a=>
  cases D;cases x with
  |non=>cases B;exact K7.bool_none a
  |bl b=>cases B;exact K7.bool_bool a b
  |int b=>obtain⟨t,rfl⟩:=B;exact K7.bool_int a b t
  |str b=>obtain⟨t,rfl⟩:=B;exact K7.bool_str a b t
  |_=>exact absurd (show false=true from F) Rb
 |int a=>
  obtain⟨t',rfl⟩:=D;cases x with
  |non=>cases B;exact K7.int_none a t'
  |bl b=>cases B;exact K7.int_bool a t' b
  |int b=>obtain⟨t,rfl⟩:=B;exact NQ a t' b t
  |str b=>obtain⟨t,rfl⟩:=B;exact KW a t' b t
  |_=>exact absurd (show false=true from F) Rb
 |str a=>
  obtain⟨t',rfl⟩:=D;cases x with
  |non=>cases B;exact K7.str_none a t'
  |bl b=>cases B;exact K7.str_bool a t' b
  |int b=>obtain⟨t,rfl⟩:=B;exact KY a t' b t
  |str b=>obtain⟨t,rfl⟩:=B;exact NR a t' b t
  |_=>exact absurd (show false=true from F) Rb
 |_=>exact absurd (show false=true from G) Rb
noncomputable def v5(x:V)(u:X3):Bool:=match u with
 |.none=>uH .non x
 |.bool b=>uH (.bl b) x
 |.int i _=>uH (.int i) x
 |.str z _=>uH (.str z) x
 |_=>false
theorem gT{x y:V}{u:X3}(r:RelV y u)(f:uG y=true):v5 x u=uH y x:=by
 cases y with
 |non=>cases r;rfl
 |bl b=>cases r;rfl
 |int i=>obtain⟨t,rfl⟩:=r;rfl
 |str z=>obtain⟨t,rfl⟩:=r;rfl
 |_=>exact absurd (show false=true from f) Rb
theorem ka{x:V}:∀ {xs:List V}{us:List X3},Af xs us->xs.all uG=true->us.any (v5 x)=xs.any λy=>uH y x
 |_,_,.nil,_=>rfl
 |y::xs,u::us,.cons r t,f=>by
  rw[Nl,R0] at f;rw[Nm,Nm,gT r f.1,ka t f.2]
theorem kc{A:QG}{s:X9}{x:V}{v:X3}(B:RelV x v)(D:uG x=true):∀ {xs:List V}{us:List X3},Af xs us->xs.all uG=true->∀u∈us,K7 A s u v (v5 x u)
 |_,_,.nil,_=>λu hu=>by cases hu
 |y::xs,u::us,.cons r t,f=>λF hu=>by
  rw[Nl,R0] at f;rcases S7.mp hu with rfl|hu
  .rw[gT r f.1];exact YS r B f.1 D
  .exact kc B D t f.2 F hu
noncomputable def oz(x:V)(xs:List V):Bool:=xs.any λy=>uH y x
noncomputable def gU(K:W.Frag)(B:Bool):R2:=λx y H Q=>∃p xs,y=.ref p/\(Ad K H p xs∨Ah K H p xs)/\uG x=true/\xs.all uG=true/\Q (.bl (if B then !oz x xs else oz x xs)) H
theorem YT:yt X (Qv .In) (gU X.K false):=by
 intro Δ s σ H x y v u Q B D G h;obtain⟨p,xs,rfl,hq,F,fs,q⟩:=h;cases G;rcases hq with hq|hq
 .obtain⟨its,r,pl,I⟩:=B.list hq;refine SeqAt.in_listAt (v5 x) pl.isList (λw hw=>kc D F r fs w (by simpa using hw)) ⟨.bl _,H,B,J,?_⟩;rw[show its.toArray.any (v5 x)=its.any (v5 x) by simp,ka r fs];exact q
 .obtain⟨its,r,pl,I⟩:=B.tuple hq;refine SeqAt.in_tupleAt (v5 x) pl (λw hw=>kc D F r fs w (by simpa using hw)) ⟨.bl _,H,B,J,?_⟩;rw[show its.toArray.any (v5 x)=its.any (v5 x) by simp,ka r fs];exact q
theorem xB:xY X (.builtin "len") (λxs H Q=>∃p ys,xs=[.ref p]/\(Ad X.K H p ys∨Ah X.K H p ys)/\Q (.int ys.length) H):=by
 intro Δ s σ H xs us Q B r h;obtain⟨p,ys,rfl,hq,q⟩:=h;obtain⟨u,rfl,G⟩:=wD r;cases G;have J0:=v0;rcases hq with hq|hq
 .obtain⟨its,D,pl,I⟩:=B.list hq;have F:=D.length;exact Calls.call_len_list pl.isList (by simp only[T4]<;>omega) ⟨.int ys.length,H,B.tok _,⟨s.toks+1,by rw[T4,F]⟩,q⟩
 .obtain⟨its,D,pl,I⟩:=B.tuple hq;have F:=D.length;exact len_tuple pl (by simp only[T4]<;>omega) ⟨.int ys.length,H,B.tok _,⟨s.toks+1,by rw[T4,F]⟩,q⟩
theorem yL:xY X (.builtin "len") (λxs H Q=>∃z,xs=[.str z]/\z.length<=sizeLine/\Q (.int z.length) H):=by
 intro Δ s σ H xs us Q B r h;obtain⟨z,rfl,D,q⟩:=h;obtain⟨u,rfl,t,rfl⟩:=wD r;have F:=v0;exact len_str (by exact i7 D F) ⟨.int z.length,H,B.tok _,⟨_,J⟩,q⟩
theorem oA:xY X (.type "list") (λxs H Q=>∃p ys,xs=[.ref p]/\(Ad X.K H p ys∨Ah X.K H p ys)/\∀l,H l=none->Q (.ref l) (c' H l (.lst ys))):=by
 intro Δ s σ H xs us Q I r h;obtain⟨p,ys,rfl,hq,q⟩:=h;obtain⟨u,rfl,S⟩:=wD r;cases S;have R:∀(its:List X3),Af ys its->ys.length<=sizeLine->∀(h':Heap) (B:Nat),(∀b o',s.heap.get? b=some o'->h'.get? b=some o') ->
   h'.get? s.heap.objs.size=some { cls:=.type "list",dict:=none,data:=.seq its.toArray B,slots:=#[] }->EP X Δ σ Q (.ref s.heap.objs.size) { s with heap:=h' }:=λits D F h' B G e=>
  ⟨.ref s.heap.objs.size,_,I.laid (t':=s.toks) G (X2 _) (show Al X.prog X.w _ h' _ (.lst ys) from ⟨F,its,B,D,e⟩),J,q _ (I.hok.fresh (X2 _))⟩
 rcases hq with hq|hq
 .obtain⟨its,D,pl,F⟩:=I.list hq;have J0:=D.length;obtain⟨o,L,M,n,O⟩:=pl.isList;exact call_list_seq p (.inl J) L M O (λh' B G e=>R its D F h' B G e) (by simp only[T4]<;>exact xq (RH J0) F)
 .obtain⟨its,D,pl,F⟩:=I.tuple hq;have J0:=D.length;obtain⟨o,L,M,n,O⟩:=pl;exact call_list_seq p (.inr J) L M O (λh' B G e=>R its D F h' B G e) (by simp only[T4]<;>exact xq (RH J0) F)
theorem oB:xY X (.type "tuple") (λxs H Q=>∃p ys,xs=[.ref p]/\((Ad X.K H p ys/\∀l,H l=none->Q (.ref l) (c' H l (.tup ys)))∨(Ah X.K H p ys/\Q (.ref p) H))):=by
 intro Δ s σ H xs us Q B r h;obtain⟨p,ys,rfl,h⟩:=h;obtain⟨u,rfl,J0⟩:=wD r;cases J0;rcases h with⟨D,q⟩|⟨D,q⟩
 .obtain⟨its,F,pl,G⟩:=B.list D;have L:=F.length;refine call_tuple_list pl.isList (λh' M=>?_) (by simp only[T4]<;>exact xq (RH L) G);have I:Inv X Δ σ H { s with heap:=h' }:=B.kept (t':=s.toks) M;have O:Inv X Δ σ (c' H h'.objs.size (.tup ys)) { s with heap:=h'.push { cls:=.type "tuple",data:=.seq its.toArray } }:=
   I.laid (t':=s.toks) (λb o e=>W0 _ e) (X2 _) (show Al X.prog X.w _ _ _ (.tup ys) from ⟨G,its,F,IZ.new _ _⟩)
  exact⟨.ref h'.objs.size,_,O,J,q _ (I.hok.fresh (X2 _))⟩
 .obtain⟨its,F,pl,G⟩:=B.tuple D;exact call_tuple_same pl ⟨.ref p,H,B,J,q⟩
noncomputable def kd(K:W.Frag)(T:String)(x:V)(H:Hp):Prop:=match x with
 |.str _=>T="str"
 |.int _=>T="int"
 |.ref p=>(T="list"/\∃xs,Ad K H p xs)∨(T="tuple"/\∃o,K.lookup p=some o/\o.cls=.type "tuple"/\o.dict=none) ∨
   (T="dict"/\((∃a',H p=some (.dK a'))∨∃a',H p=some (.dT a')))∨(T="set"/\∃S n,H p=some (.set S n))
 |_=>False
theorem ke{T:String}{x:V}{v:X3}(D:Inv X Δ σ H s)(r:RelV x v)(ty:kd X.K T x H) :
  s.TypeIs v T/\∀a,v=.ref a->∃I,s.heap.get? a=some I/\I.dict=none:=by
 cases x with
 |str z=>
  obtain⟨t,rfl⟩:=r;cases (show T="str" from ty);exact⟨ON s z t,λ_ e=>nomatch e⟩
 |int i=>
  obtain⟨t,rfl⟩:=r;cases (show T="int" from ty);exact⟨J5 s i t,λ_ e=>nomatch e⟩
 |ref p=>
  cases r;rcases ty with⟨rfl,xs,J0⟩|⟨rfl,o,B,L,F⟩|⟨rfl,B⟩|⟨rfl,S,n,B⟩
  .obtain⟨its,_,pl,_⟩:=D.list J0;refine⟨pl.isList.typeIs,λa e=>?_⟩;cases e;obtain⟨o,n,e,c,F,_⟩:=pl;exact⟨o,e,F⟩
  .refine⟨⟨o,D.kIn p o B,L⟩,λa e=>?_⟩;cases e;exact⟨o,D.kIn _ o B,F⟩
  .have z:∃o,s.heap.get? p=some o/\o.ExactDict:=by
    rcases B with⟨a',B⟩|⟨a',B⟩
    .obtain⟨_,_,_,_,o,_,_,e,ex,_⟩:=D.hok p _ B;exact⟨o,e,ex⟩
    .obtain⟨_,_,_,_,o,_,_,e,ex,_⟩:=D.hok p _ B;exact⟨o,e,ex⟩
   obtain⟨o,e,ex⟩:=z;refine⟨⟨o,e,ex.1⟩,λa G=>?_⟩;cases G;exact⟨o,e,ex.2.1⟩
  .obtain⟨o,_,_,_,e,ex,_⟩:=D.hok p _ B;refine⟨⟨o,e,ex.1⟩,λa G=>?_⟩;cases G;exact⟨o,e,ex.2.1⟩
 |_=>exact Q0 ty
noncomputable def YU(K:W.Frag)(T:String)(r:V->List V->Hp->VK->Prop)(to:TE):TE:=λσ H Q=>to σ H λx H1=>kd K T x H1/\r x [] H1 Q
noncomputable def gW(K:W.Frag)(T:String)(r:V->List V->Hp->VK->Prop)(to:TE)(t:TA):TE:=λσ H Q=>to σ H λx H1=>kd K T x H1/\t σ H1 λxs H2=>r x xs H2 Q
variable {o:R8}{es:List R8}{to:TE}{t:TA}{name:Str}{apos g6:Pos}{T id:String}{r:V->List V->Hp->VK->Prop}
theorem tQ(F:J6 T)(slot:Slot T name id)(G:typeOf (.builtin id)=pure (.type "method_descriptor"))(I:uF X id r)(J0:PE X o to)(L:PN o name X.env (eval o X.env)=eval o X.env:=by rfl)(M:(apos.endLine==g6.line)=true:=by rfl):PE X (.Call (.Attribute o name apos) [] [] g6) (YU X.K T r to):=by
 intro Δ s σ H Q O h;refine wpAny_Call_method0_late L M (zo (J0 Δ s σ H _ O h) λv R S=>?_);obtain⟨x,H1,B,D,ty,q1⟩:=S;obtain⟨h1,h2⟩:=ke B D ty;exact⟨T,id,F,slot,G,h1,h2,P0 J (PySem.evalArgs_none (I Δ R σ H1 x [] v [] Q B D .nil q1))⟩
theorem yW(I:J6 T)(slot:Slot T name id)(J0:typeOf (.builtin id)=pure (.type "method_descriptor"))(L:uF X id r)(M:PE X o to)(O:PA X (e::es) t)(R:PN o name X.env (eval o X.env)=eval o X.env:=by rfl)(S:((QS g6 (T2 (e::es) X.env)).all (λx=>!x.1)&&(O2 g6 (PH [] X.env)).all (λx=>x.1.isSome)
   && decide ((e::es).length+([]:List Mb).length+(if ([]:List Mb).isEmpty then 0 else 1)<30))=true:=by rfl)(U:(apos.endLine==g6.line)=true:=by rfl)(V:T2 (e::es) X.env=(false,eval e X.env)::T2 es X.env:=by rfl)(W:(QS g6 (T2 es X.env)).any (·.1)=false:=by rfl) :
  PE X (.Call (.Attribute o name apos) (e::es) [] g6) (gW X.K T r to t):=by
 intro Δ s σ H Q Y h;refine MU R S U rfl (zo (M Δ s σ H _ Y h) λv Z B=>?_);obtain⟨x,H1,D,F,ty,q1⟩:=B;obtain⟨h1,h2⟩:=ke D F ty;refine⟨T,id,I,slot,J0,h1,h2,?_⟩;have G:=O g6 Δ Z σ H1 _ D q1;rw[V] at G ⊢;refine P0 (by show (false || (QS g6 (T2 es X.env)).any (·.1))=false;rw[W]<;>rfl) (Nq ?_);refine zo G λus aa B=>?_;obtain⟨vs,H2,ab,ac,ad⟩:=B;exact L Δ aa σ H2 x vs v us Q ab F ac ad
end
noncomputable def r9(X:Cx)(id:String)(r:V->List V->Hp->VK->Prop):Prop:=
 ∀(Δ:List (Addr×Obj)) (s:X9) (σ:St) (H:Hp) (x:V) (xs:List V) (v:X3) (us:List X3) (Q:VK),Inv X Δ σ H s->RelV x v->Af xs us->r x xs H Q ->
  Rj (model X.prog X.w) X.A (call (.builtin id) (v::us)) (EP X Δ σ Q) X.xe s
theorem Af.unc{x:V}(h:Af (x::xs) us):∃u r,us=u::r/\RelV x u/\Af xs r:=by
 cases h with
 |cons r q=>exact⟨_,_,J,r,q⟩
theorem Af.emp(h:Af [] us):us=[]:=by
 cases h;rfl
theorem Af.one{x:V}(h:Af [x] us):∃u,us=[u]/\RelV x u:=by
 obtain⟨u,r,e,h1,h2⟩:=h.unc;exact⟨u,by rw[e,h2.emp],h1⟩
theorem Af.two{x y:V}(h:Af [x,y] us):∃u v,us=[u,v]/\RelV x u/\RelV y v:=by
 obtain⟨u,r,e,h1,h2⟩:=h.unc;obtain⟨v,B,D⟩:=h2.one;exact⟨u,v,by rw[e,B],h1,D⟩
theorem Af.zero:∀ {us:List X3},Af [] us->us=[]
 |_,.nil=>rfl
theorem Af.dropLast{xs:List V}{us:List X3}(h:Af xs us):Af xs.dropLast us.dropLast:=by
 induction h with
 |nil=>exact .nil
 |cons r t B=>
  cases t with
  |nil=>exact .nil
  |cons q t'=>exact .cons r B
theorem Af.reverse{xs:List V}{us:List X3}(h:Af xs us):Af xs.reverse us.reverse:=by
 induction h with
 |nil=>exact .nil
 |cons r t B=>rw[O7,O7];exact Af.append B (.cons r .nil)
theorem Af.rep{xs:List V}{us:List X3}(h:Af xs us):∀k:Nat,Af (R3 k xs).flatten (R3 k us).flatten
 |0=>.nil
 |k+1=>by
  rw[Po,Po,Og,Og];exact Af.append h (Af.rep h k)
theorem YV(l:List B):l.eraseIdx (l.length-1)=l.dropLast:=by
 induction l with
 |nil=>rfl
 |cons a r D=>
  cases r with
  |nil=>rfl
  |cons b r=>
   have e:(a::b::r).length-1=((b::r).length-1)+1:=by
    have h1:(a::b::r).length=r.length+2:=rfl;have h2:(b::r).length=r.length+1:=rfl;exact h2
   rw[e,List.eraseIdx_cons_succ,D]
   all_goals rfl
theorem gX(its:List X3):∀(k:Nat) (B:List X3),
  J7 (λD F=>D++F) B.toArray (R3 k its.toArray)=(B++(R3 k its).flatten).toArray
 |0,B=>by simp
 |k+1,B=>by
  have e:B.toArray++its.toArray=(B++its).toArray:=by simp
  have G:(B++its)++(R3 k its).flatten=B++(R3 (k+1) its).flatten:=by
   rw[Po,Og,Q8]
  rw[←G,←gX its k (B++its),←e,Po,Nx]
section
variable {l b:Addr}{ys zs:List V}
theorem Inv.lset{its its':List X3}{n:Nat}{f:Array X3->Array X3}{t':Nat}(B:Inv X Δ σ H s)(D:H l=some (.lst xs))(e:s.heap.get? l=some { cls:=.type "list",data:=.seq its.toArray n })(F:f its.toArray=its'.toArray)(G:Af ys its')(I:ys.length<=sizeLine)(ht:X.t0<=t':=by first|assumption|exact Inv.tk (by assumption)|(have q:=Inv.tk (by assumption);omega)) :
  Inv X Δ σ (c' H l (.lst ys)) { s with heap:=s.heap.update l (MS f),toks:=t' }:=by
 have q:=PySem.IsL.update e f;rw[F] at q;refine B.write (x:=l) (e:=l) (by rw[D];exact trivial) (.inl J) (λM u J0 L=>(MT s.heap (MS f) (Q3 J0)).trans L) ⟨_,q⟩ ?_;exact⟨I,its',_,G,q⟩
theorem Inv.lnew{its:List X3}{t':Nat}(B:Inv X Δ σ H s)(D:Af ys its)(F:ys.length<=sizeLine)(ht:X.t0<=t':=by first|assumption|exact Inv.tk (by assumption)|(have q:=Inv.tk (by assumption);omega)) :
  Inv X Δ σ (c' H s.heap.objs.size (.lst ys)) { s with heap:=s.heap.push { cls:=.type "list",data:=.seq its.toArray },toks:=t' }:=
 B.laid (λ_ _ q=>W0 _ q) (X2 _) ⟨F,its,0,D,Ru _ J⟩
theorem Inv.fresh(B:Inv X Δ σ H s):H s.heap.objs.size=none:=B.hok.fresh (X2 _)
theorem Inv.lstM(B:Inv X Δ σ H s)(D:H l=some (.lst xs)):xs.length<=sizeLine/\∃(its:List X3) (n:Nat),Af xs its/\xs.length=its.length/\s.heap.get? l=some { cls:=.type "list",data:=.seq its.toArray n }:=by
 obtain⟨z,its,n,r,e⟩:=B.hok l _ D;exact⟨z,its,n,r,r.length,e⟩
theorem gY(h:n<=sizeLine):PP n=false:=by
 unfold PP;exact decide_eq_false (Qt.2 h)
end
noncomputable def YW:V->List V->Hp->VK->Prop:=λx vs H Q=>∃l xs y,x=.ref l/\vs=[y]/\H l=some (.lst xs)/\xs.length<sizeLine/\Q .non (c' H l (.lst (xs++[y])))
theorem xC:r9 X "list.append" YW:=by
 intro Δ s σ H x vs v us Q B I J0 h;obtain⟨l,xs,y,rfl,rfl,D,G,q⟩:=h;cases I;obtain⟨u,rfl,L⟩:=J0.one;obtain⟨z,its,n,r,M,e⟩:=B.lstM D;refine P1 F.slot_list_append ⟨_,e,J⟩ F.entry_list_append (F.args_list_append_2 _ _) (PySem.list_append l its.toArray n u (by rw[T4];exact xq (RH M) (RL G))) ⟨e,?_⟩;refine⟨.non,_,B.lset (its':=its++[u]) D e (by simp) (r.append (.cons L .nil)) ?_,J,q⟩;rw[X4,Pc];exact G
noncomputable def YX:V->List V->Hp->VK->Prop:=λx vs H Q=>∃l b xs zs,x=.ref l/\vs=[.ref b]/\H l=some (.lst xs)/\H b=some (.lst zs)/\xs.length+zs.length<=sizeLine/\Q .non (c' H l (.lst (xs++zs)))
theorem gZ:r9 X "list.extend" YX:=by
 intro Δ s σ H x vs v us Q D L M h;obtain⟨l,b,xs,zs,rfl,rfl,G,O,I,q⟩:=h;cases L;obtain⟨u,rfl,R⟩:=M.one;cases R;obtain⟨z,its,n,r,J0,e⟩:=D.lstM G;obtain⟨Y,B,n2,S,U,V⟩:=D.lstM O;have hsz:its.toArray.size+B.toArray.size<=sizeLine:=by rw[T4,T4];exact lD I J0 U
 have W:¬(!its.toArray.isEmpty&&PP (its.toArray.size+B.toArray.size))=true:=by
  rw[gY hsz,Op];exact Rb
 refine P1 F.slot_list_extend ⟨_,e,J⟩ F.entry_list_extend (F.args_list_extend_2 _ _)
  (AutoSeq1.list_extend_list_list_0 l its.toArray n b B.toArray n2 W (by rw[T4];exact xq (RH J0) z) (R9 hsz)) ⟨e,V,?_⟩
 refine⟨.non,_,D.lset (its':=its++B) G e (by simp) (r.append S) ?_,J,q⟩;rw[X4];exact I
noncomputable def YY:V->List V->Hp->VK->Prop:=λx vs H Q=>∃l xs y,x=.ref l/\vs=[]/\H l=some (.lst xs)/\xs[xs.length-1]?=some y/\Q y (c' H l (.lst xs.dropLast))
theorem oC:r9 X "list.pop" YY:=by
 intro Δ s σ H x vs v us Q B I J0 h;obtain⟨l,xs,y,rfl,rfl,D,L,q⟩:=h;cases I;have M:=J0.zero;subst M;obtain⟨z,its,n,r,G,e⟩:=B.lstM D;obtain⟨u,O,R⟩:=r.get L;have S:its.toArray[its.toArray.size-1]?=some u:=by
  show its.toArray[its.length-1]?=some u;rw[←Kc,←G];exact O
 refine P1 F.slot_list_pop ⟨_,e,J⟩ F.entry_list_pop (F.args_list_pop_1 _) (MeetsSeq.list_pop_last l its.toArray n u S (by rw[T4];exact xq (RH G) z)) ⟨e,?_⟩;refine⟨y,_,B.lset (its':=its.dropLast) D e ?_ r.dropLast ?_,R,q⟩
 .show its.toArray.eraseIdxIfInBounds (its.toArray.size-1)=its.dropLast.toArray;rw[T4,List.eraseIdxIfInBounds_toArray,YV]
 .rw[Oq];exact aT z
noncomputable def YZ:V->List V->Hp->VK->Prop:=λx vs H Q=>∃l xs,x=.ref l/\vs=[]/\H l=some (.lst xs)/\Q .non (c' H l (.lst xs.reverse))
theorem Y0:r9 X "list.reverse" YZ:=by
 intro Δ s σ H x vs v us Q B G I h;obtain⟨l,xs,rfl,rfl,D,q⟩:=h;cases G;have J0:=I.zero;subst J0;obtain⟨z,its,n,r,L,e⟩:=B.lstM D;refine P1 F.slot_list_reverse ⟨_,e,J⟩ F.entry_list_reverse (F.args_list_reverse_1 _) (AutoSeq1.list_reverse_list_0 l its.toArray n (by rw[T4];exact xq (RH L) z)) ⟨e,?_⟩;refine⟨.non,_,B.lset (its':=its.reverse) D e (by simp) r.reverse ?_,J,q⟩;rw[NE];exact z
noncomputable def Y1:V->List V->Hp->VK->Prop:=λx vs H Q=>∃l xs,x=.ref l/\vs=[]/\H l=some (.lst xs)/\Q .non (c' H l (.lst []))
theorem fb:r9 X "list.clear" Y1:=by
 intro Δ s σ H x vs v us Q B G I h;obtain⟨l,xs,rfl,rfl,D,q⟩:=h;cases G;have J0:=I.zero;subst J0;obtain⟨z,its,n,r,L,e⟩:=B.lstM D;refine P1 F.slot_list_clear ⟨_,e,J⟩ F.entry_list_clear (F.args_list_clear_1 _) (AutoSeq1.list_clear_list_0 l its.toArray n (by rw[T4];exact xq (RH L) z)) ⟨e,?_⟩;exact⟨.non,_,B.lset (its':=[]) (ys:=[]) D e rfl .nil (X7 _),J,q⟩
noncomputable def Y2:R2:=λx y H Q=>∃l b xs zs,x=.ref l/\y=.ref b/\H l=some (.lst xs)/\H b=some (.lst zs)/\xs.length+zs.length<=sizeLine/\∀p,H p=none->Q (.ref p) (c' H p (.lst (xs++zs)))
theorem vP:yt X (P6 .Add) Y2:=by
 intro Δ s σ H x y v u Q B G I h;obtain⟨l,b,xs,zs,rfl,rfl,J0,L,D,q⟩:=h;cases G;cases I;obtain⟨z,its,n,r,M,e⟩:=B.lstM J0;obtain⟨V,F,n2,O,R,S⟩:=B.lstM L;refine PySem.P.add_list e S ?_ (by rw[T4,T4];exact lD D M R);have U:its.toArray++F.toArray=(its++F).toArray:=by simp
 rw[U];exact⟨.ref _,_,B.lnew (t':=s.toks) (r.append O) (by rw[X4];exact D),J,q _ B.fresh⟩
noncomputable def Y3:R2:=λx y H Q=>∃l k xs,x=.ref l/\y=.int k/\H l=some (.lst xs)/\-(2 ^ 63)<=k/\k<2 ^ 63/\xs.length*k.toNat<=sizeLine /\
 ∀p,H p=none->Q (.ref p) (c' H p (.lst (R3 k.toNat xs).flatten))
theorem Y4(xs:List B)(k:Nat):(R3 k xs).flatten.length=k*xs.length:=by
 induction k with
 |zero=>simp
 |succ k D=>rw[Po,Og,X4,D,IK,IL]
theorem Y5:yt X (P6 .Mult) Y3:=by
 intro Δ s σ H x y v u Q B J0 L h;obtain⟨l,k,xs,rfl,rfl,M,h1,h2,I,q⟩:=h;cases J0;obtain⟨t,rfl⟩:=L;obtain⟨z,its,n,r,O,e⟩:=B.lstM M;have R:its.toArray.size*k.toNat<=sizeLine:=by rw[T4,←O];exact I
 have S:¬its.toArray.size*k.toNat>(2 ^ 63-1) / 8:=by
  have:(sizeLine:Nat)<=(2 ^ 63-1) / 8:=by decide
  omega
 have V:¬(!Builtin.List.listFitsIndex k)=true:=by
  rw[fitsIndex_both h1 h2];exact Rb
 have W:¬PP (its.toArray.size*k.toNat)=true:=by
  rw[gY R];exact Rb
 have Y:J7 (λD G=>D++G) #[] (R3 (if its.toArray.isEmpty=true then 0 else k.toNat) its.toArray)=(R3 k.toNat its).flatten.toArray:=by
  have Z:∀m:Nat,J7 (λD G=>D++G) #[] (R3 m its.toArray)=(R3 m its).flatten.toArray:=λm=>by
   have:=gX its m [];rw[M4] at this;exact this
  rw[Z];cases its with
  |nil=>simp
  |cons a aa=>rw[Qxa (by simp)]
 refine wpAny_binaryOp_repeat_ref (T:="list") (U:="int") (by decide) ⟨_,e,J⟩ (λs'=>J5 s' k t) noFill_list_mul F.fills_int_mul JU repeat_list F.slot_int_index.lookup
  (P1 JU (J5 s k t) F.entry_int_rmul (F.args_int_rmul_2 _ _) (int___rmul___int_list k t l its.toArray n)
   ⟨e,J,⟨_,e,J⟩,P1 F.slot_list_mul ⟨_,e,J⟩ F.entry_list_mul (F.args_list_mul_2 _ _) (AutoListH.list___mul___list_int_3 l its.toArray n k t V S W) ⟨e,?_⟩⟩)
 rw[Y];exact⟨.ref _,_,B.lnew (t':=s.toks) (r.rep k.toNat) (by rw[Y4,Nat.mul_comm];exact I),J,q _ B.fresh⟩
section
variable {prog:U2}{w:Rz}{A:QG}{E:X3->X9->Prop}
end
end L2
namespace Att
open PySem PySem.W PySem.Calls PyProof.Rows
variable {h:Heap}{l:OpenLaw}{n:Nat}
theorem Y6{P:Params}:∀(B:List Int) (vs:List X3),WellAll P h vs (B.map WData.int)->Kx vs B:=by
 intro B;induction B with
 |nil=>
  intro vs w;rw[NH] at w;cases w;exact .nil
 |cons n B D=>
  intro vs w;rw[RD] at w;cases w with
  |cons a b=>
   cases a;exact .cons _ _ (D _ b)
theorem Y7(L:l.most=some n){P:Params}{h:Heap}{args:List WData}{G:List X3}(I:l.row.toRowW.claim.pre args=true)(M:WellAll P h G args) :
  ∃a vs B,G=[RS a]/\args=[WData.list (B.map WData.int)]/\h.get? a=some { cls:=.type "list",data:=.seq vs.toArray }/\Kx vs B/\B.length<=n:=by
 have O:WShape.hasAll [] args [.list .int]=true:=(pre_splitW I).1;have J0:l.pre.holds [] { args:=args }=true:=(pre_splitW I).2;obtain⟨d,r,rfl,h1,h2⟩:=hasAllW_cons O;obtain rfl:=hasAllW_nil h2;obtain⟨xs,rfl,R⟩:=hasW_list h1;obtain⟨B,rfl⟩:=items_int R;have S:B.length<=n:=by
  unfold OpenLaw.pre at J0;have D:(WTm.not (.lt (.lit (.int (n:Int))) (.len (.arg 0)))).holds [] { args:=[.list (B.map .int)] }=true:=by
   have D:=(holds_andW J0).1;rw[L] at D;exact D
  have F:=condW_of D (w_not (w_lt w_lit (w_len_list (w_arg J))));rw[X5] at F;refine Nat.le_of_not_lt λq=>?_;have q':(n:Int)<((B.length:Nat):Int):=by omega
  first
   |(rw[Qxd q'] at F;exact absurd F (by decide))
   |(simp at F;omega)
 cases M with
 |cons U V=>
  cases V;cases U with
  |list W Y=>exact⟨_,_,B,J,J,W,Y6 B _ Y,S⟩
theorem Y8(l:OpenLaw)(args:List WData):l.row.toRowW.claim.post args (.bool true) args=true:=
 postW_of (r:=l.row.toRowW) (X:=(true==true))
  (show I6 [] (.bool true) .bool=true by first|rfl|decide|simp[I6,WShape.arms,WShape.armsAll])
  (show (WTm.eq .res (.lit (.bool true))).value [] { args:=args,res:=some (.bool true),after:=args }=some (.bool (true==true)) from w_eq_bool (w_res J) w_lit) rfl
theorem attach_call{q:U2}{L:List Str}{M:(Str->Option X3)->Heap->Prop}{O:Rz->Heap->Prop}{d:DefRec}(S:l.most=some n)(U:d.params.defaults=[])(call:∀(w:Rz) (s₀ B:X9) (mg J0:Str->Option X3) (D:Addr) (o:Obj) (pm F doc:X3) (a:Addr) (vs:List X3) (I:List Int),
   Ground q L [] M w s₀ mg J0 B.heap->O w B.heap ->
   B.heap.get? D=some o->o.data=.func (docDef d.name d.params d.body d.scope pm F doc)->B.heap.CodeRec F d.name->mg d.name=some (.ref D) ->
   B.heap.get? a=some { cls:=.type "list",data:=.seq vs.toArray }->Kx vs I->I.length<=n->B.gens=#[] ->
   O0 (model l.prog w) Kz (.call (.ref D) ⟨[.ref a],[]⟩) (λr s'=>r=.ok (.ret (.bool true))/\OldK B.heap s'.heap/\s'.os=B.os/\N6 s'.gens) B) :
  WalkO q L M O l.row.toRowW d [] (λf vs=>J8 f vs):=by
 intro w s₀ B mg J0 G V D o pm F doc W kV Y Z aa R ab ac args am ao ad ap aq ae ar;obtain rfl:W=.none:=Dflts.none R U;obtain rfl:kV=.none:=Dflts.noKw R;obtain⟨a,vs,I,rfl,rfl,af,ag,ah⟩:=Y7 S ad ae;refine enter_call (O3 (call w s₀ B mg J0 D o pm F doc a vs I G V Y (fd_plain Z) aa ab af ag ah ac) λr s' ai=>?_);obtain⟨rfl,h2,aj,ak⟩:=ai;exact⟨.inl ⟨.bool true,.bool true,[],J,λ_=>rfl,.bool true,Y8 l _,λ_=>⟨I7,λ_ al=>(nomatch al)⟩⟩,h2,aj,ak⟩
section
variable {prog:U2}{w:Rz}{A:QG}{E:X3->X9->Prop}{s:X9}{K:Frag}
noncomputable def noObjs(h:Heap):Heap:={ h with objs:=#[] }
theorem noObjs_get(h:Heap)(b:Addr):(noObjs h).get? b=none:=by
 cases e:(noObjs h).get? b with
 |none=>rfl
 |some o=>exact absurd (S6 e) (QJ _)
noncomputable def ledger(h:Heap)(B d:Addr):List (Addr×Obj):=(RO h.objs.size).filterMap λa=>if a=B∨a=d then none else (h.get? a).map λo=>(a,o)
theorem mem_ledger{D d a:Addr}{o:Obj}:(a,o)∈ledger h D d↔a≠D/\a≠d/\h.get? a=some o:=by
 unfold ledger;rw[OM];constructor
 .rintro⟨b,_,e⟩;split at e
  .cases e
  .rename_i F;obtain⟨o',B,G⟩:=P2.mp e;cases G;exact⟨λq=>F (.inl q),λq=>F (.inr q),B⟩
 .rintro⟨n1,n2,B⟩;refine⟨a,Pu.mpr (S6 B),?_⟩;rw[Qxa (show ¬(a=D∨a=d) from λq=>q.elim n1 n2),B]<;>rfl
theorem fr_all{B:Addr}{m:Str->Option X3}(n:h.Ns B m):Fr (noObjs h) B h m:=
 ⟨n,λb o e=>(by rw[noObjs_get] at e;cases e),X7 _⟩
end
end Att
namespace L2
open PySem PySem.Spec PyProof.Rows
variable {X:Cx}{st:Stmt}{a f l p:Addr}{fd:FuncData}{ps xs:List Str}{H H' H0 H1 H2:Hp}{O:St}{te:TE}{w:Rz}{P:U2}{its:List X3}{o:HO}{K:W.Frag}{J0:It}{g:TG}{tt:TT}{Qe:St->Hp->Prop}{cur:List V}{n:Nat}{item:Nat->V}
theorem fc:∀ {vs:List X3}{B:List Int},Kx vs B->Af (B.map V.int) vs
 |_,_,.nil=>.nil
 |_,_,.cons n t h=>.cons ⟨t,J⟩ (fc h)
noncomputable def xj(s:Stmt)(j:Nat):Stmt:=match s with
 |.ClassDef _ _ _ B _ _ _ _ _ _ _=>B.getD j (.Pass ⟨0,0,0,0⟩)
 |_=>.Pass ⟨0,0,0,0⟩
noncomputable def vQ(s:Stmt):Arguments:=match s with
 |.FunctionDef _ a _ _ _ _ _ _ _ _=>a
 |_=>{ posonlyargs:=[],args:=[],vararg:=none,kwonlyargs:=[],kw_defaults:=[],kwarg:=none,defaults:=[] }
noncomputable def wF(s:Stmt):List Stmt:=match s with
 |.FunctionDef _ _ b _ _ _ _ _ _ _=>b
 |_=>[]
noncomputable def zq(s:Stmt):Scope:=match s with
 |.FunctionDef _ _ _ _ _ _ sc _ _ _=>sc
 |_=>{ kind:=.function,names:=[],isGenerator:=false,isCoroutine:=false }
noncomputable abbrev zD:wP:=λ_ _ _ _ _ _=>False
noncomputable abbrev E0:XK:=λ_ _ _=>False
theorem uI:uE zD X E0:=λ_ _ _ _ _ _ _ h=>h.elim
structure Ao(K:W.Frag)(x qual:Str)(st:Stmt)(f:Addr)(fd:FuncData):Prop where
 ex:∃(oc:X3) (od:Option Addr) (kV doc pm:X3) (an:Option Addr) (g4 ct:X3) (hj:Array (Option X3)),
  fd=W.fnOf x qual (vQ st) (wF st) (zq st) .none kV doc pm an g4 ct/\K.lookup f=some ⟨oc,od,.func fd,hj⟩/\MA K g4 qual=true
 kp:P7 K (.ref f)=true
section
variable {mg:Str->Option X3}{base:Heap}
theorem Ao.ok{x B:Str}{N:List Str}{k:Nat}{sp:Sp}(F:Ao K x B st f fd)(S:zK N ps (zq st))(D:∀vs H Q E,sp vs H Q E->vs.length=ps.length)(G:∀(g4:X3) (A:QG) (outer:List Env) (s:X9) (H:Hp) (vs:List V) (Q:VK) (E:XK),Ak k (A.deeper (Nw B (zq st) s.heap.objs.size f g4))->sp vs H Q E ->
   ∃t,Bf (zH zD P w K mg base N B (zq st) f g4 A outer s H E).nox (wF st) t/\t { nx:=λ_ H'=>Q .non H',rt:=Q } (start N vs) H):Ag P w K mg base zD (k+1) f fd ps sp:=by
 obtain⟨oc,od,kV,doc,pm,an,g4,ct,hj,rfl,I,J0⟩:=F.ex;refine gP I J0 S D λA outer s H vs Q E L M=>?_;obtain⟨t,h,q⟩:=G g4 A outer s H vs Q E L M;exact⟨t,h.nox,q⟩
theorem Ao.binds{x B:Str}(F:Ao K x B st f fd)(h:∀(kV doc pm:X3) (an:Option Addr) (g4 ct:X3) (us:List X3),us.length=ps.length->PJ (W.fnOf x B (vQ st) (wF st) (zq st) .none kV doc pm an g4 ct) ⟨us,[]⟩=pure (ps.zip us)):Binds K fd ps []:=by
 obtain⟨oc,od,kV,doc,pm,an,g4,ct,hj,rfl,D,G⟩:=F.ex;exact .all (h kV doc pm an g4 ct)
theorem kg{x B:Str}{oc:X3}{od an:Option Addr}{hj:Array (Option X3)}{kV doc pm g4 ct:X3}(l:K.lookup f=some ⟨oc,od,.func (W.fnOf x B (vQ st) (wF st) (zq st) .none kV doc pm an g4 ct),hj⟩)(c:MA K g4 B=true)(k:P7 K (.ref f)=true):Ao K x B st f (W.fnOf x B (vQ st) (wF st) (zq st) .none kV doc pm an g4 ct):=⟨⟨oc,od,kV,doc,pm,an,g4,ct,hj,J,l,c⟩,k⟩
end
theorem pv(i:Nat){x:Str}{pos:Pos}(B:X.N[i]?=some x:=by rfl)(D:xL X.env.scope x:=by first|exact Or.inl rfl|exact Or.inr (Or.inl J)|exact Or.inr (Or.inr J))(F:(x==("__debug__":Str))=false:=by decide)(G:(x==("__classdict__":Str))=false:=by decide):PE X (.Name x pos) (wY i):=ZD B D F G
theorem yi{A B:Prop}(h:B):if false=true then A else B:=by
 rw[Qxa Rb];exact h
theorem yS{A B:Prop}(h:A):if true=true then A else B:=by
 rw[Qxb rfl];exact h
theorem yc{c A B:Prop} [Decidable c] (h1:c->A) (h2:¬c->B):if c then A else B:=by
 by_cases h:c
 .rw[Qxb h];exact h1 h
 .rw[Qxa h];exact h2 h
noncomputable def Aa(H H':Hp):Prop:=∀b o,H b=some o->H' b=some o
theorem Aa.refl(H:Hp):Aa H H:=λ_ _ h=>h
theorem Aa.trans(a:Aa H H1)(b:Aa H1 H2):Aa H H2:=λc o h=>b c o (a c o h)
theorem Aa.free(e:Aa H H'){l:Addr}(h:H' l=I3):H l=I3:=by
 cases q:H l with
 |none=>rfl
 |some o=>
  rw[e l o q] at h;cases h
theorem kh(env:Env):∀(names:List (Str×O4)) (B:List (Str×Addr)),(∀x∈names,x.2=.free->∃c,env.cells.lookup x.1=some c) ->
  (∀x c,B.lookup x=some c->env.cells.lookup x=some c) ->
  ∃cl:List (Str×Addr),(forIn names B (λ(x:Str×O4) r=>(if (x.2==.free)=true then cellOf env x.1 >>= λa=>pure (Ny ((x.1,a)::r)) else pure (Ny r):Sem (ForInStep (List (Str×Addr))))))=pure cl /\
   (∀x c,cl.lookup x=some c->env.cells.lookup x=some c)/\(∀x c,B.lookup x=some c->∃d,cl.lookup x=some d)/\(∀x∈names,x.2=.free->∃c,cl.lookup x.1=some c)
 |[],B,_,h2=>⟨B,J,h2,λx c e=>⟨c,e⟩,λx hx=>by simp at hx⟩
 |(n,k)::r,B,h1,h2=>by
  rw[List.forIn_cons];by_cases I:k=.free
  .subst I;obtain⟨c,J0⟩:=h1 (n,.free) W8 rfl;obtain⟨cl,e,L,D,M⟩:=kh env r ((n,c)::B) (λx hx=>h1 x (T7 _ hx)) (λx d e=>by
    rw[QC] at e;cases F:x==n with
    |true=>
     rw[F] at e;have O:x=n:=by simpa using F
     cases e;rw[O];exact J0
    |false=>rw[F] at e;exact h2 x d e)
   have R:cellOf env n=pure c:=by unfold cellOf;simp only at J0;rw[J0]
   refine⟨cl,?_,L,λx d e=>?_,λx hx G=>?_⟩
   .simp only[beq_self_eq_true,if_true,R,pure_bind];exact e
   .by_cases hx:x=n
    .subst hx;exact D x c (by simp[QC])
    .exact D x d (by rw[QC];have:(x==n)=false:=(by simpa using hx);rw[this];exact e)
   .rcases S7.mp hx with rfl|hx
    .exact D n c (by simp[QC])
    .exact M x hx G
  .obtain⟨cl,e,L,D,M⟩:=kh env r B (λx hx=>h1 x (T7 _ hx)) h2;have F:(k==OF)=false:=by simpa using I
   refine⟨cl,?_,L,D,λx hx G=>?_⟩
   .simp only[F,QW,if_false,pure_bind];exact e
   .rcases S7.mp hx with rfl|hx
    .exact absurd G I
    .exact M x hx G
theorem fe(env:Env)(sc:Scope)(h1:∀x∈sc.names,x.2=.free->∃c,env.cells.lookup x.1=some c) :
  ∃cl:List (Str×Addr),K8 sc env=pure cl/\(∀x c,cl.lookup x=some c->env.cells.lookup x=some c)/\(∀x∈sc.names,x.2=.free->∃c,cl.lookup x.1=some c):=by
 obtain⟨cl,e,B,_,D⟩:=kh env sc.names [] h1 (λx c e=>by simp at e);refine⟨cl,?_,B,D⟩;unfold K8;simp only[bind_pure];exact e
noncomputable def Cx.blk(X:Cx)(sc:Scope)(cl:List (Str×Addr))(N':List Str)(B:X9)(D:Hp)(ex:List Addr):Cx:=
 { X with N:=N',s₀:=B,H₀:=D,env:=compEnvC sc cl B.heap.objs.size X.env,outer:=X.stack,stack:=X.stack,ex:=ex,fn:=λ_=>false,pn:=[],xe:=λ_ _=>False }
structure qa(X:Cx)(sc:Scope):Prop where
 kind:sc.kind=.function
 names:∀x∈sc.names,x.2=.local->sc.names.lookup x.1=some .local
 nocell:∀x∈sc.names,x.2≠.cell
 free:∀x∈sc.names,x.2=.free->X.env.kindOf x.1=some .cell
theorem oE{names:List (Str×O4)}{x:Str}{k:O4}(h:names.lookup x=some k):(x,k)∈names:=Pn h
theorem oF{env:Env}:∀ {names:List (Str×O4)}{x:Str}{k:O4},
  (names.map λ(n,k)=>if (k==OF&&env.scope.kind==.function&&env.kindOf n==some .cell) then (n,KS) else (n,k)).lookup x=some k ->
  names.lookup x=some k∨(k=.cell/\names.lookup x=some .free)
 |[],_,_,h=>by simp at h
 |(n,D)::r,x,k,h=>by
  have F:=@oF env r x k;change PD x ((if (D==OF&&env.scope.kind==.function&&env.kindOf n==some .cell)=true then (n,KS) else (n,D))::_)=_ at h;cases hx:x==n with
  |true=>
   by_cases B:(D==OF&&env.scope.kind==.function&&env.kindOf n==some .cell)=true
   .rw[Qxb B] at h;simp only[QC,hx] at h;have G:D=.free:=by simp only[R0,beq_iff_eq] at B;exact B.1.1
    cases h;exact .inr ⟨J,by simp only[QC,hx,G]⟩
   .rw[Qxa B] at h;simp only[QC,hx] at h;cases h;exact .inl (by simp only[QC,hx])
  |false=>
   have h':PD x (r.map λ(n,k)=>if (k==OF&&env.scope.kind==.function&&env.kindOf n==some .cell) then (n,KS) else (n,k))=some k:=by
    by_cases B:(D==OF&&env.scope.kind==.function&&env.kindOf n==some .cell)=true
    .rw[Qxb B] at h;simp only[QC,hx] at h;exact h
    .rw[Qxa B] at h;simp only[QC,hx] at h;exact h
   simp only[QC,hx];exact F h'
variable {s:X9}{sc:Scope}{N':List Str}
section
variable {Δ:List (Addr×Obj)}{σ σ':St}{cl:List (Str×Addr)}{fp:List Addr}
theorem Y9(D:Inv X Δ σ H s)(B:qa X sc)(F:∀x c,cl.lookup x=some c->X.env.cells.lookup x=some c)(S:∀x∈sc.names,x.2=.free->∃c,cl.lookup x.1=some c)(I:∀b∈fp,xN X Δ H b/\b<s.heap.objs.size)(Z:σ'.length=N'.length)(aa:∀(i:Nat) (x:Str) (v:V),N'[i]?=some x->σ'[i]?=some (some v)->xL (relabel sc X.env) x->∃j:Nat,X.N[j]?=some x/\σ[j]?=some (some v)/\xL X.env.scope x/\sc.names.lookup x=some .free){h':Heap}{tk:Nat}(ab:h'.Ns s.heap.objs.size (λ_=>none))(ac:Pr s.heap.objs.size (s.heap.push { cls:=.type "dict",data:=.dict #[] }) h')(ht:X.t0<=tk) :
  Inv (X.blk sc cl N' s H fp) [] σ' H { s with heap:=h',toks:=tk }:=by
 have M:∀b u,s.heap.get? b=some u->h'.get? b=some u:=λb u e=>(ac.2 b (RE (S6 e))).trans (W0 _ e);have au:∀x c,cl.lookup x=some c->c<s.heap.objs.size:=λx c e=>by
  obtain⟨v,q⟩:=D.cell x c (F x c e);exact q.lt
 have ad:∀x c,cl.lookup x=some c->∃v,h'.IsCell c v:=λx c e=>by
  obtain⟨v,o,J0,L⟩:=D.cell x c (F x c e);exact⟨v,o,M _ _ J0,L⟩
 refine⟨⟨D.ok.mod,B.kind,D.ok.glob,D.ok.blt,X2 _,λx y c J0 L=>D.ok.inj x y c (F x c J0) (F y c L),λx ae=>?_,λx c z=>(by cases z),D.ok.hd,D.ok.frames,.inl J,λb G=>⟨RE (I b G).2,λx c e=>(I b G).1.2.2.2.2.1 x c (F x c e)⟩,
  D.bs,?_,λb o e G=>?_,λb G af=>?_,D.stack,D.stkFree⟩,J,D.bare,Un.kept M,⟨_,ab,λi x v J0 L U=>?_⟩,ad,D.hok.fresh (X2 _),λx c e=>D.freeC x c (F x c e),λp ag=>absurd (show p∈([]:List (Addr×Obj)) from ag) (by simp),D.hok.kept M,Z,ht⟩
 .have ah:(relabel sc X.env).names.lookup x=some .cell∨(relabel sc X.env).names.lookup x=some .free:=ae;have:sc.names.lookup x=some .free:=by
   rcases ah with h|h
   .rcases oF h with h|⟨_,h⟩
    .exact absurd rfl (B.nocell _ (oE h))
    .exact h
   .rcases oF h with h|⟨O,h⟩
    .exact h
    .cases O
  exact S (x,.free) (oE this) rfl
 .exact S5 D.ok.bsz D.sz
 .have:=(I b G).1.2.2.2.1;rcases this with z|z
  .exact D.ok.noex b o e z
  .exact absurd (Rt (S6 e) (S5 D.ok.bsz z)) (Pe _)
 .have:=D.stkSub b af;rcases S7.mp this with z|z
  .exact(I b G).1.2.1 z
  .exact(I b G).1.2.2.1 z
 .obtain⟨j,ai,aj,ak,R⟩:=aa i x v J0 L U;obtain⟨m,av,al⟩:=D.loc;obtain⟨u,r,l⟩:=al j x v ai aj ak;refine⟨u,r,?_⟩;have am:=B.free (x,.free) (oE R) rfl;have ao:X.env.kindOf x=some .cell:=am;rcases l with⟨W,_⟩|⟨_,c,ap,aq⟩
  .rw[ao] at W;cases W
  .obtain⟨d,ar⟩:=S (x,.free) (oE R) rfl;have Y:cl.lookup x=some d:=ar;have:=F x d Y;rw[ap] at this;cases this;refine .inr ⟨?_,c,Y,?_⟩
   .rcases U with z|z|z
    .rcases oF z with h|⟨O,h⟩
     .rw[R] at h;cases h
     .cases O
    .exact .inl z
    .exact .inr z
   .obtain⟨o,q1,as⟩:=aq;exact⟨o,M _ _ q1,as⟩
theorem Xa{R:List (Addr×Obj)}{s':X9}{I:Heap}(S:Inv X Δ σ H s)(U:∀b∈fp,xN X Δ H b/\b<s.heap.objs.size)(J0:Inv (X.blk sc cl N' s H fp) R O H' s')(G:Pr s.heap.objs.size s'.heap I):Inv X Δ σ H' { s' with heap:=I }:=by
 have L:∀b o,s.heap.get? b=some o->b≠s.heap.objs.size:=λb o e=>RE (S6 e);have M:H' s.heap.objs.size=none:=J0.free;have B:Un (wX X.stack) fp H H' s.heap s'.heap:=J0.base;refine S.call' (ch:=fp) (s':={ s' with heap:=I }) J0.os J0.tk ⟨λb o e n D F=>?_,λb o e n D F=>?_,B.free,λb o e F=>?_,B.tups,B.frzs,B.tbls⟩ (λb o e=>?_) J0.bare λb D=>?_
 .exact(G.2 b (L b o e)).trans (B.keep b o e n D F)
 .obtain⟨V,q⟩:=B.slot b o e n D F;exact⟨V,(G.2 b (L b o e)).trans q⟩
 .obtain⟨o',q⟩:=B.there b o e F;exact⟨o',(G.2 b (L b o e)).trans q⟩
 .refine(J0.hok b o e).stay (λc ab hc q=>(G.2 c ?_).trans q) (λ_ q=>q) λ_ _ q=>q;rintro rfl;rcases hc with rfl|hc
  .rw[M] at e;cases e
  .rw[M] at hc;cases hc
 .obtain⟨ac,W,ad,Y,Z,aa⟩:=(U b D).1;exact⟨Y,W,Z,aa⟩
end
noncomputable abbrev TR:=St->Hp->(St->Hp->Prop)->Prop
noncomputable def PR(X:Cx)(rest:Sem Unit)(t:TR):Prop:=
 ∀(Δ:List (Addr×Obj)) (s:X9) (σ:St) (H:Hp) (N:St->Hp->Prop),Inv X Δ σ H s->t σ H N->Rj (model X.prog X.w) X.A rest (λ_ s'=>∃σ' H',Inv X Δ σ' H' s'/\N σ' H') X.xe s
noncomputable def sX(X:Cx)(ifs:List R8)(t:TT):Prop:=
 ∀(Δ:List (Addr×Obj)) (s:X9) (σ:St) (H:Hp) (Q:Bool->Hp->Prop),Inv X Δ σ H s->t σ H Q ->
  Rj (model X.prog X.w) X.A (forIn ifs true λc r=>if r=true then do let B ← JY c X.env (eval c X.env);pure (Ny B) else pure (Ny r)) (TP X Δ σ Q) X.xe s
noncomputable def ve:TT:=λ_ H Q=>Q true H
theorem wG:sX X [] ve:=λ_ _ _ H _ B h=>wpAny_tests_nil ⟨H,B,h⟩
theorem vt{c:R8}{t:TT}(h:PT X c t):sX X [c] t:=λΔ s σ H Q B q=>wpAny_tests_one (h Δ s σ H Q B q)
noncomputable def vw(J0:It)(g:TG)(tt:TT)(G:TR)(Qe:St->Hp->Prop)(σ:St)(H:Hp):Prop:=∃W:Nat->Nat->St->Hp->Prop,(∃m,W 0 m σ H)/\∀i m σ H,W i m σ H ->
 (J0.stop i H/\Qe σ H)∨(J0.go i H/\∃N:St->Hp->Prop,(∀σ' H',N σ' H'->∃D,D<m/\W (i+1) D σ' H')/\∀x H',J0.yld i H x H'->g x σ H' λB H2=>tt B H2 λb F=>if b=true then G B F N else N B F)
theorem Xb(ao:X.xe=λ_ _=>False)(ad:X.calm=true){e:R8}{d:Nat}{tg iter:R8}{ifs:List R8}{D:X3}{rest:Sem Unit}{g:TG}{tt:TT}{ae:TR}{J0:It}{fp:List Addr}{it:Addr}{U:Nat->Heap->Prop}(ap:compTurn e d (.ref it) D X.env=(do
   N7 iter.pos
   match ← II (.ref it) with
   |none=>pure (.done .next)
   |some v=>
    Nv tg (.ref it) v
    assign tg X.env v
    let mut O:=true
    for c in ifs do
     if O then O ← JY c X.env (eval c X.env)
    if O then rest
    again (.compLoop e d (.ref it) D X.env)))(aq:(Code.compLoop e d (.ref it) D X.env).quiet=true)(ar:X.A.under (.compLoop e d (.ref it) D X.env)=X.A)(as:(model X.prog X.w).den (.compLoop e d (.ref it) D X.env)=(compTurn e d (.ref it) D X.env).onRaise (λx=>do noteFrame x X.env;theTreesLotGoes x))(au:PG X tg g)(ht:sX X ifs tt)(av:PR X rest ae)(T:vN X.prog X.w X.K tg J0 fp it U){Δ:List (Addr×Obj)}{σ:St}{H:Hp}{s:X9}{Qe:St->Hp->Prop}{R:MP->X9->Prop}(aw:Inv X Δ σ H s)(st:U 0 s.heap)(af:∀b∈fp,xN X Δ H b)(h:vw J0 g tt ae Qe σ H)(ax:∀s' σ' H',Inv X Δ σ' H' s'->Qe σ' H'->R (.ok .next) s') :
  O0 (model X.prog X.w) X.A (.compLoop e d (.ref it) D X.env) R s:=by
 obtain⟨W,⟨ay,az⟩,turn⟩:=h;have Z:∀ {H':Hp},(∀b∈fp,H' b=none)->∀b∈fp,xN X Δ H' b:=λaA b B=>⟨aA b B,(af b B).2⟩;have I:∀ {aa:Type} {t:Sem aa} {Q:aa->X9->Prop} {s:X9} {E:X3->X9->Prop},Rj (model X.prog X.w) X.A t Q X.xe s->Rj (model X.prog X.w) X.A t Q E s:=λ{aa t Q s E} h=>
  OK h (λ_ _ x=>x) λ_ _ x=>by rw[ao] at x;exact x.elim
 refine codeAny_loop aq (λn s'=>∃i σ' H',Inv X Δ σ' H' s'/\U i s'.heap/\(∀b∈fp,H' b=none)/\W i n σ' H') (λn ag aB=>?_) ay ⟨0,σ,H,aw,st,λb B=>(af b B).1,az⟩;rw[ar,as];refine wpAny_noted ?_;rw[ap];obtain⟨i,V,ab,ah,ai,aj,aC⟩:=aB;refine W6 (KO (W6 ?_));rcases turn i n V ab aC with⟨stop,aD⟩|⟨go,N,aE,step⟩
 .refine I (zo (T.done X J J J ad i Δ ag V ab X.xe ah (Z aj) ai stop) λr aF ⟨ac,aG⟩=>?_);subst ac;exact S3 (ax _ _ _ aG aD)
 .refine I (zo (T.item X J J J ad i Δ ag V ab X.xe ah (Z aj) ai go) λr aF ⟨u,ac,aH⟩=>?_);subst ac;refine W6 (I (zo aH λ_ ak F=>?_));obtain⟨x,al,aI,aJ,aK,hr,aL⟩:=F;have aM:=aI.pinned (Z aL) (T.obj _ _ hr);refine W6 (I (zo (au _ ak V al x u _ aM aJ (step x al aK)) λ_ aN F=>?_));obtain⟨am,aO,aP,aQ⟩:=F;have again:∀ {S:St} {G:Hp} {L:X9},Inv X (Δ++sT fp ak.heap) S G L->N S G->∃m,m<n/\∃i σ' H',Inv X Δ σ' H' L/\U i L.heap/\(∀b∈fp,H' b=none)/\W i m σ' H':=λ{S G L} M aR=>by
   obtain⟨aS,aT,aU⟩:=aE S G aR;refine⟨aS,aT,i+1,S,G,M.unpinned,T.keep _ _ _ hr λb B o e=>(M.pin (b,o) (S2 _ (S2 _ (sU B e)))).1,λb B=>?_,aU⟩;obtain⟨o,e,dd⟩:=T.obj _ _ hr b B;exact(M.pin (b,o) (S2 _ (S2 _ (sU B e)))).2.1
  refine W6 (I (zo (ht _ aN am aO _ aP aQ) λO L F=>?_));obtain⟨G,M,Y⟩:=F;cases O with
  |false=>
   rw[Qxa (by simp)] at Y;exact S3 ⟨J,again M Y⟩
  |true=>
   rw[Qxb rfl] at Y;refine W6 (I (zo (av _ L am G _ M Y) λ_ aX F=>?_));obtain⟨aY,aZ,aV,aW⟩:=F;exact S3 ⟨J,again aV aW⟩
noncomputable def tR(p:Addr)(te:TE):TR:=λσ H N=>te σ H λv B=>∃ys,B p=some (.lst ys)/\ys.length<sizeLine/\N σ (c' B p (.lst (ys++[v])))
theorem Xc{elt:R8}(D:PE X elt te):PR X (do let _ ← call (.builtin "list.append") [.ref p,←eval elt X.env]) (tR p te):=by
 intro Δ s σ H N F h;refine W6 (zo (D Δ s σ H _ F h) λu G B=>?_);obtain⟨v,H1,I,J0,ys,L,M,q1⟩:=B;refine W6 (zo (xC Δ G σ H1 (.ref p) [v] _ [u] (λ_ H2=>N σ H2) I J (.cons J0 .nil) ⟨p,ys,v,J,J,L,M,q1⟩) λ_ S B=>?_);obtain⟨_,H2,O,_,R⟩:=B;exact S3 ⟨σ,H2,O,R⟩
noncomputable def wQ(σ:St):List (Option Nat)->St
 |[]=>[]
 |none::js=>none::wQ σ js
 |some j::js=>(σ[j]?).join::wQ σ js
noncomputable def Ax(X:Cx)(sc:Scope):List Str->List (Option Nat)->Prop
 |[],[]=>True
 |_::xs,none::js=>Ax X sc xs js
 |x::xs,some j::js=>X.N[j]?=some x/\xL X.env.scope x/\sc.names.lookup x=some .free/\Ax X sc xs js
 |_,_=>False
theorem Ax.len{X:Cx}{sc:Scope}{σ:St}:∀ {N':List Str}{js:List (Option Nat)},Ax X sc N' js->(wQ σ js).length=N'.length
 |[],[],_=>rfl
 |_::xs,none::js,h=>by simp only[wQ,RN];rw[Ax.len (N':=xs) (js:=js) h]
 |x::xs,some j::js,h=>by simp only[wQ,RN];rw[Ax.len (N':=xs) (js:=js) h.2.2.2]
 |[],_::_,h=>by cases h
 |_::_,[],h=>by cases h
theorem Ax.get{X:Cx}{sc:Scope}{σ:St}:∀ {N':List Str}{js:List (Option Nat)}{i:Nat}{x:Str}{v:V},Ax X sc N' js->N'[i]?=some x->(wQ σ js)[i]?=some (some v) ->
  ∃j:Nat,X.N[j]?=some x/\σ[j]?=some (some v)/\xL X.env.scope x/\sc.names.lookup x=some .free
 |[],[],i,x,v,_,h1,_=>by simp at h1
 |y::xs,none::js,0,x,v,h,h1,h2=>by simp[wQ] at h2
 |y::xs,none::js,i+1,x,v,h,h1,h2=>Ax.get (N':=xs) (js:=js) (i:=i) h (by simpa using h1) (by simpa [wQ] using h2)
 |y::xs,some j::js,0,x,v,h,h1,h2=>by
  have D:y=x:=by simpa using h1
  subst D;refine⟨j,h.1,?_,h.2.1,h.2.2.1⟩;have B:(σ[j]?).join=some v:=by simpa [wQ] using h2
  cases q:σ[j]? with
  |none=>rw[q] at B;cases B
  |some o=>rw[q] at B;exact congrArg some B
 |y::xs,some j::js,i+1,x,v,h,h1,h2=>Ax.get (N':=xs) (js:=js) (i:=i) h.2.2.2 (by simpa using h1) (by simpa [wQ] using h2)
 |[],_::_,_,_,_,h,_,_=>by cases h
 |_::_,[],_,_,_,h,_,_=>by cases h
noncomputable def ff(js:List (Option Nat))(wi:TI)(g:TG)(tt:TT)(te:TE):TE:=λσ H Q=>wi σ H λJ0 H1=>∀p,H1 p=none->vw J0 g tt (tR p te) (λ_ H'=>Q (.ref p) H') (wQ σ js) (c' H1 p (.lst []))
variable {tg:R8}{js:List (Option Nat)}
section
variable {elt iter:R8}{ifs:List R8}{pos:Pos}{wi:TI}
theorem fg(ad:X.calm=true)(B:qa X sc)(C:Ax X sc N' js){cl:List (Str×Addr)}(V:∀x c,cl.lookup x=some c->X.env.cells.lookup x=some c)(ae:∀x∈sc.names,x.2=.free->∃c,cl.lookup x.1=some c)(af:∀cl s H fp,PG (X.blk sc cl N' s H fp) tg g)(ht:∀cl s H fp,sX (X.blk sc cl N' s H fp) ifs tt)(ag:∀cl s H fp,PE (X.blk sc cl N' s H fp) elt te){Δ:List (Addr×Obj)}{σ:St}{H:Hp}{s:X9}{Qe:Addr->Hp->Prop}{it:Addr}{fp:List Addr}{L:Nat->Heap->Prop}{J0:It}{RR:X3->Addr->MP->X9->Prop}(W:Inv X Δ σ H s)(T:vN X.prog X.w X.K tg J0 fp it L)(st:L 0 s.heap)(ah:∀b∈fp,xN X Δ H b)(h:∀p,H p=none->vw J0 g tt (tR p te) (λ_ H'=>Qe p H') (wQ σ js) (c' H p (.lst [])))(ai:∀p C s' H',C≠p->(∀b o,s.heap.get? b=some o->b≠C)->H' C=none->(∃m,s'.heap.Ns C m)->Qe p H'->(∀G,Pr C s'.heap G->Inv X Δ σ H' { s' with heap:=G })->xN X Δ H' C->RR (.ref p) C (.ok .next) s') :
  Rj (model X.prog X.w) X.A (newList []) (λY aj=>Rj (model X.prog X.w) X.A (newFunctionEnv sc X.env.globals cl [] X.env.qual none .none (some X.env)) (λZ ak=>
   O0 (model X.prog X.w) X.A (.compStart (.ListComp elt [⟨tg,iter,ifs,0⟩] sc pos) 0 (.ref it) Y { Z with scope:=relabel sc X.env }) (RR Y Z.locals) ak) X.xe aj) X.xe s:=by
 refine Jr ?_;have I:=W.lnew (ys:=[]) (its:=[]) (t':=s.toks) .nil (by simp);generalize R:({ s with heap:=s.heap.push { cls:=.type "list",data:=.seq ([]:List X3).toArray },toks:=s.toks }:X9)=D at I;have S:H s.heap.objs.size=none:=W.fresh;have al:=h _ S;have U:∀b∈fp,xN X Δ (c' H s.heap.objs.size (.lst [])) b/\b<D.heap.objs.size:=λb F=>by
  obtain⟨am,ao⟩:=ah b F;obtain⟨o,e,_⟩:=T.obj _ _ st b F;have M:=S6 e;refine⟨⟨by rw[zh (RE M)];exact am,ao⟩,?_⟩;rw[←R];show b<(s.heap.push _).objs.size;rw[O1];exact PL M
 have hsz:D.heap.objs.size=s.heap.objs.size+1:=by rw[←R];exact O1 ..
 have ap:L 0 D.heap:=by rw[←R];exact T.keep _ _ _ st λb F o e=>W0 _ e
 refine Kk B.nocell (by intro y aq;simp at aq) (λh₁ ar aa=>?_) B.kind;have as:=Y9 (cl:=cl) (N':=N') (σ':=wQ σ js) (tk:=D.toks+([]:List (Str×X3)).length) (ht:=S5 I.tk (Ov _ _)) I B V ae U C.len (λi x v au av _=>C.get au av) (show h₁.Ns D.heap.objs.size (λ_=>none) from ar) (show Pr D.heap.objs.size (D.heap.push { cls:=.type "dict",data:=.dict #[] }) h₁ from aa);have ab:L 0 h₁:=T.keep _ _ _ ap λb F o e=>(aa.2 b (RE (S6 e))).trans (W0 _ e);have aw:∀b∈fp,xN (X.blk sc cl N' D (c' H s.heap.objs.size (.lst [])) fp) [] (c' H s.heap.objs.size (.lst [])) b:=λb F=>by
  obtain⟨⟨ax,ay,az,aE,aA,aF⟩,M⟩:=U b F;refine⟨ax,RE M,λz=>?_,.inl F,λx c e=>aA x c (V x c e),λp S=>absurd (show p∈([]:List (Addr×Obj)) from S) (by simp)⟩;rcases S7.mp (I.stkSub b z) with z|z
  .exact ay z
  .exact az z
 have ac:O0 (model X.prog X.w) X.A (.compLoop (.ListComp elt [⟨tg,iter,ifs,0⟩] sc pos) 0 (.ref it) (.ref s.heap.objs.size) (compEnvC sc cl D.heap.objs.size X.env)) (RR (.ref s.heap.objs.size) D.heap.objs.size) { D with heap:=h₁,toks:=D.toks+([]:List (Str×X3)).length }:=by
  refine Xb (X:=X.blk sc cl N' D (c' H s.heap.objs.size (.lst [])) fp) rfl ad (compTurn_list ..) rfl rfl rfl (af _ _ _ _) (ht _ _ _ _) (Xc (ag _ _ _ _)) T as ab aw al λs' σ' H' O q=>?_;have aB:∀G,Pr D.heap.objs.size s'.heap G->Inv X Δ σ H' { s' with heap:=G }:=λG aC=>Xa I U O aC;obtain⟨m,aD,_⟩:=O.loc;refine ai _ _ _ H' (by rw[hsz];exact Nat.succ_ne_self _) (λb o e=>?_) O.free ⟨m,aD⟩ q aB (I.fpOk (X2 _) O.free);rw[hsz];exact RE (PL (S6 e))
 exact codeAny_compStart_list ac (T.self _ 0 _ _ _ ab ac)
theorem xS(af:X.xe=λ_ _=>False)(F:X.calm=true)(B:qa X sc)(C:Ax X sc N' js)(hi:PI X tg iter wi)(G:∀cl s H fp,PG (X.blk sc cl N' s H fp) tg g)(ht:∀cl s H fp,sX (X.blk sc cl N' s H fp) ifs tt)(I:∀cl s H fp,PE (X.blk sc cl N' s H fp) elt te)(L:∀x,OY iter X.env x=pure x:=by intro _;rfl):PE X (.ListComp elt [⟨tg,iter,ifs,0⟩] sc pos) (ff js wi g tt te):=by
 intro Δ s σ H Q D h;obtain⟨cl,M,O,R⟩:=fe X.env sc λx S U=>D.ok.has x.1 (.inl (B.free x S U));rw[eval_ListComp];refine Mp (use:=none) rfl L M B.kind B.names (zo (hi Δ s σ H _ D h) λv ag h1=>zo h1 λah ai h2=>?_);obtain⟨it,fp,aj,J0,H2,e,V,T,W,Y,h2⟩:=h2;subst e;refine fg (Qe:=λp H'=>Q (.ref p) H') (RR:=λZ C=>compPost (model X.prog X.w) X.A X.xe none (EP X Δ σ Q) Z C) F B C O R G ht I V T W Y h2 ?_;intro p C s' H' ak al am aa q ab _;obtain⟨m,ac⟩:=aa;exact⟨m,ac,λad ae=>⟨.ref p,H',ab ad ae,J,q⟩⟩
noncomputable def Xd(i:Nat)(js:List (Option Nat))(wi:TI)(g:TG)(tt:TT)(te:TE):TS:=λD σ H=>ff js wi g tt te σ H λv H'=>D.nx (σ.set i (some v)) H'
theorem uJ{i:Nat}{y:Str}{F I:Pos}(aB:X.xe=λ_ _=>False)(R:X.calm=true)(S:X.N.Nodup)(U:X.N[i]?=some y)(G:uq X.env.scope y)(B:qa X sc)(C:Ax X sc N' js)(hi:PI X tg iter wi)(V:∀cl s H fp,PG (X.blk sc cl N' s H fp) tg g)(ht:∀cl s H fp,sX (X.blk sc cl N' s H fp) ifs tt)(W:∀cl s H fp,PE (X.blk sc cl N' s H fp) elt te)(Y:My (.ListComp elt [⟨tg,iter,ifs,0⟩] sc pos) (some (.Name y F)) I.line X.env=pure true:=by rfl)(Z:∀x,OY iter X.env x=pure x:=by intro _;rfl)(aa:X.fn y=true∨X.env.scope.names.lookup y=some .local:=by first|exact .inl rfl|exact .inr rfl|assumption):PS X (.Assign [.Name y F] (.ListComp elt [⟨tg,iter,ifs,0⟩] sc pos) I) (Xd i js wi g tt te):=by
 intro Δ s σ H D L h;obtain⟨cl,ab,ac,ad⟩:=fe X.env sc λx G ae=>L.ok.has x.1 (.inl (B.free x G ae));rw[exec_Assign_Name_used _ _ _ _ Y];refine W6 (KO (W6 ?_));show Rj _ X.A (do let _ ← comprehension (.ListComp elt [⟨tg,iter,ifs,0⟩] sc pos) sc X.env _ (newList []) false (eval iter X.env) (some (assign (.Name y F) X.env))) _ _ s;refine W6 (zo (Mp (use:=some (assign (.Name y F) X.env)) (Q:=λ_ s'=>SP X Δ D .next s') J Z ab B.kind B.names (zo (hi Δ s σ H _ L h) λv aC h1=>zo h1 λaD aE h2=>?_)) λ_ s' af=>S3 (S3 af));obtain⟨it,fp,aF,J0,H2,e,ag,T,ah,ai,h2⟩:=h2;subst e;refine fg (Qe:=λp H'=>D.nx (σ.set i (some (.ref p))) H') (RR:=λaj C=>compPost (model X.prog X.w) X.A X.xe (some (assign (.Name y F) X.env)) (λ_ s'=>SP X Δ D .next s') aj C) R B C ac ad V ht W ag T ah ai h2 ?_;intro p C s' H' aG aH aI ak q al am;obtain⟨m,ao⟩:=ak;have ap:Inv X Δ σ H' s':=al s'.heap (.refl ..);obtain⟨aq,M,aJ,ar,O,as⟩:=am;show Rj _ X.A (assign (.Name y F) X.env (.ref p)) _ _ s';refine Ji (gb (v:=.ref p) ap S U G J (λau av aw=>?_) aa);obtain⟨a,ax,ha⟩:=aw;have ay:C≠a:=by
  rcases ha with rfl|ha
  .exact M
  .exact λz=>O y a ha z.symm
 refine⟨m,ao.sameBut ax ay,λaK az=>⟨_,H',av.turned (t':=au.toks) (it:=C) (λb o aA e=>(az.2 b aA).trans e) aq M ar O as,q⟩⟩
end
variable {e:R8}
theorem fh:∀ {bs:List Bool}{us:List X3},Af (bs.map V.bl) us->us=bs.map Om
 |[],_,.nil=>rfl
 |b::bs,_,.cons r t=>by
  have e:=fh (bs:=bs) t;cases r;rw[e];rfl
theorem Xe{prog:U2}{A:QG}(bs:List Bool):TruthOf prog w A (λi v=>(bs.map Om).toArray[i]?=some v) (λi=>bs.getD i false):=by
 intro i v s Q E D F;have e:(bs.map Om)[i]?=some v:=by simpa using D
 rw[RF] at e;cases hb:bs[i]? with
 |none=>rw[hb] at e;cases e
 |some b=>
  rw[hb] at e;cases e;have:bs.getD i false=b:=by rw[XP,hb];rfl
  have B:Q (bs.getD i false) s:=F;rw[this] at B;exact Qk B
theorem Xf(bs:List Bool):(RO bs.length).any (λi=>bs.getD i false)=bs.any id:=by
 rw[QX,Qx,Qx];constructor
 .rintro⟨i,hi,h⟩;have hi:=Pu.mp hi;exact⟨bs[i],RT hi,by simpa [hi] using h⟩
 .rintro⟨b,B,h⟩;obtain⟨i,hi,rfl⟩:=Pj.mp B;exact⟨i,Pu.mpr hi,by simpa [hi] using h⟩
theorem Xg(D:X.calm=true):xY X (.builtin "any") (λxs H Q=>∃(p:Addr) (bs:List Bool),xs=[.ref p]/\Ad X.K H p (bs.map V.bl)/\Q (.bl (bs.any id)) H):=by
 intro Δ s σ H xs us Q B r h;obtain⟨p,bs,rfl,F,q⟩:=h;obtain⟨u,rfl,G⟩:=wD r;cases G;obtain⟨its,I,pl,R⟩:=B.list F;have e:=fh I;subst e;have J0:p<s.heap.objs.size:=by obtain⟨o,n,e,_⟩:=pl;exact S6 e
 refine R7 (n:=X.t0) B.tk ?_;refine call_any_walk (N9 pl.isList ⟨s.heap.objs.size,_,[s.heap.objs.size],_,_,_,λi=>bs.getD i false,J,Walks.list (A:=X.A.in1) (show X.A.in1.handled=none from B.ok.hd D) _ p (RE J0) (bs.map Om).toArray,⟨⟨_,Ru _ J,J,J⟩,?_⟩,Xe bs,λh' tk L=>?_⟩)
 .exact pl.isList.at λo e=>W0 _ e
 .have el:(bs.map Om).toArray.size=bs.length:=by simp
  rw[el,Xf];intro ht;refine⟨.bl _,H,B.kept (t':=tk) λb o e=>L b o ?_ (W0 _ e),J,q⟩;intro M;have O:b=s.heap.objs.size:=by simpa using M
  exact absurd (O ▸ S6 e) (Pe _)
noncomputable def xk(x y:Str)(k:Nat):Bool:=decide (k+y.length<=x.length)&&Md x y k
theorem fi:uF X "str.startswith" (λx vs H Q=>∃a b,x=.str a/\vs=[.str b]/\Q (.bl (xk a b 0)) H):=by
 intro Δ s σ H x vs v us Q B D G h;obtain⟨a,b,rfl,rfl,q⟩:=h;obtain⟨t,rfl⟩:=D;obtain⟨u,rfl,t',rfl⟩:=G.one;exact call_gives Kd (ON s a t) MV (F.args_str_startswith_2 _ _) (gives_str_startswith a b t t') ⟨.bl _,H,B,J,q⟩
theorem Xh:uF X "str.startswith" (λx vs H Q=>∃a b k,x=.str a/\vs=[.str b,.int (k:Nat)]/\Q (.bl (xk a b k)) H):=by
 intro Δ s σ H x vs v us Q B D G h;obtain⟨a,b,k,rfl,rfl,q⟩:=h;obtain⟨t,rfl⟩:=D;obtain⟨u,J0,rfl,⟨t',rfl⟩,⟨I,rfl⟩⟩:=G.two;refine call_gives Kd (ON s a t) MV (F.args_str_startswith_3 _ _ _) (gives_str_startswith_from a b k t t' I) ?_;have e:fromIndex a.length (k:Int)=k:=by unfold fromIndex;rw[Qxa (by exact bw)];exact rfl
 rw[e];exact⟨.bl _,H,B,J,q⟩
theorem Xi:xY X (.builtin "isinstance") (λxs H Q=>∃x n t b,xs=[x,.ty n]/\wE X.K H x t/\Jk X.K t (.type n)=some b/\Q (.bl b) H):=by
 intro Δ s σ H xs us Q B r h;obtain⟨x,n,t,b,rfl,ty,e,q⟩:=h;obtain⟨u,F,rfl,D,rt⟩:=lQ r;cases rt;exact R7 (n:=X.t0) B.tk (Yu B D ty e λtk ht=>⟨.bl b,H,B.tok tk ht,J,q⟩)
noncomputable def vR(B:List Str)(x:Str):List Str:=if x∈B then B else B++[x]
noncomputable def dd(xs:List Str):List Str:=xs.foldl vR []
theorem Xj(xs:List Str)(x:Str):dd (xs++[x])=vR (dd xs) x:=by unfold dd;rw[Js];rfl
theorem AR{B:List Str}{x k:Str}:k∈vR B x↔k∈B∨k=x:=by
 unfold vR;split
 .constructor
  .exact .inl
  .rintro(h|rfl)
   .exact h
   .assumption
 .simp
theorem Xk:∀ {B:List Str}{k:Str},k∈xs.foldl vR B↔k∈B∨k∈xs:=by
 induction xs with
 |nil=>intro B k;simp
 |cons x r D=>
  intro B k;rw[Nx,D,AR];simp only[S7];constructor
  .rintro((h|h)|h)
   .exact .inl h
   .exact .inr (.inl h)
   .exact .inr (.inr h)
  .rintro(h|h|h)
   .exact .inl (.inl h)
   .exact .inl (.inr h)
   .exact .inr h
theorem BV{k:Str}:k∈dd xs↔k∈xs:=by unfold dd;rw[Xk];simp
theorem fj(B:List Str)(x:Str):(vR B x).length=if x∈B then B.length else B.length+1:=by
 unfold vR;split<;>simp
theorem ki:∀(xs B:List Str),(xs.foldl vR B).length<=B.length+xs.length/\((xs.foldl vR B).length=B.length+xs.length↔(xs.Nodup/\∀x∈xs,x∉B))
 |[],B=>by simp
 |x::r,B=>by
  obtain⟨h1,h2⟩:=ki r (vR B x);rw[Nx];have G:=fj B x;simp only[RN];by_cases F:x∈B
  .rw[Qxb F] at G;refine⟨by omega,⟨λh=>by omega,λ⟨_,h⟩=>absurd F (h x W8)⟩⟩
  .rw[Qxa F] at G;refine⟨by omega,?_⟩;constructor
   .intro h;obtain⟨a,b⟩:=h2.mp (by omega);refine⟨Q4.mpr ⟨λD=>b x D (AR.mpr (.inr J)),a⟩,λy hy=>?_⟩;rcases S7.mp hy with rfl|hy
    .exact F
    .exact λD=>b y hy (AR.mpr (.inl D))
   .rintro⟨a,b⟩;obtain⟨I,J0⟩:=Q4.mp a;have:=h2.mpr ⟨J0,λy hy D=>by
     rcases AR.mp D with h|h
     .exact b y (T7 _ hy) h
     .exact I (h ▸ hy)⟩
    omega
theorem Xl(xs:List Str):(dd xs).length<=xs.length:=by have:=(ki xs []).1;simpa [dd] using this
theorem Xm(xs:List Str):(dd xs).length=xs.length↔xs.Nodup:=by
 have:=(ki xs []).2;simpa [dd] using this
noncomputable def oG(P:U2)(w:Rz)(p:Addr)(xs:List Str):HO:=.ext λh=>h.SetOf (strKind P w) p (λk=>decide (k∈xs)) (dd xs).length
theorem Xn{h:Heap}(B:h.SetOf (strKind P w) p (λk=>decide (k∈xs)) (dd xs).length):Al P w H h p (oG P w p xs):=by
 refine⟨B,?_,λh1 h2 q k=>?_⟩
 .obtain⟨o,_,_,_,e,_⟩:=B;exact⟨o,e⟩
 .obtain⟨o,es,ep,t,e,r⟩:=q;exact⟨o,es,ep,t,k o e,r⟩
theorem Xo(xs:List Str)(x:Str):(λk=>decide (k∈xs) || decide (k=x))=λk=>decide (k∈xs++[x]):=by
 funext k;rw[QX];simp
theorem Xp(xs:List Str)(x:Str):(if decide (x∈xs)=true then (dd xs).length else (dd xs).length+1)=(dd (xs++[x])).length:=by
 rw[Xj,fj];by_cases h:x∈xs
 .rw[Qxb (Qxd h),Qxb (BV.mpr h)]
 .rw[Qxa (by simp[h]),Qxa (λz=>h (BV.mp z))]
theorem Xq:xY X (.builtin "len") (λvs H Q=>∃p xs,vs=[.ref p]/\H p=some (oG X.prog X.w p xs)/\Q (.int (dd xs).length) H):=by
 intro Δ s σ H vs us Q B r h;obtain⟨p,xs,rfl,D,q⟩:=h;obtain⟨u,rfl,F⟩:=wD r;cases F;obtain⟨G,_,_⟩:=B.hok p _ D;obtain⟨o,es,ep,t,e,I,J0,_,_,L,M,O⟩:=(show s.heap.SetOf (strKind X.prog X.w) p (λk=>decide (k∈xs)) (dd xs).length from G);refine call_len_set e I J0 M (by unfold scanBound at L;omega) ?_;rw[O];exact⟨.int _,H,B.tok _,⟨_,J⟩,q⟩
theorem Xr{A:QG}{R:MP->X9->Prop}{D S:Addr}(ab:A.in1.handled=none)(ac:l≠D)(I:S≠D)(ad:S≠l)(ae:∀(i:Nat) v,its[i]?=some v->∃x t,xs[i]?=some x/\v=.str x t)(V:its.length=xs.length)(af:xs.length+1<scanBound) :
  ∀(k i:Nat) (s:X9),xs.length-i=k->i<=xs.length->s.heap.IsListIter D l i->s.heap.IsList l its.toArray->s.heap.SetOf (Q6 P w) S (λB=>decide (B∈xs.take i)) (dd (xs.take i)).length ->
   (∀h' tk,(∀b o,b≠S->b≠D->s.heap.get? b=some o->h'.get? b=some o)->h'.SetOf (Q6 P w) S (λB=>decide (B∈xs)) (dd xs).length->R (.ok (.ret .none)) { s with heap:=h',toks:=tk }) ->
   O0 (model P w) A (.builtin "set.update.loop" ⟨[.ref S,.ref D],[]⟩) R s:=by
 intro k;induction k with
 |zero=>
  intro i s J0 hi it F G L;have e:i=xs.length:=by omega
  subst e;refine Nz Oz ?_;rw[Nr Pp _];show Rj _ A.in1 (II (.ref D) >>= _) _ _ s;refine W6 (Kb ab it F (by simp[V]) λh' W=>?_);show Rj _ A.in1 (ret PZ) _ _ _;refine S3 (L h' s.toks (λb o _ h2 e=>W b o h2 e) ?_);rw[R1] at G;obtain⟨o,es,ep,t,M,rest⟩:=G;exact⟨o,es,ep,t,W S o I M,rest⟩
 |succ k ag=>
  intro i s J0 hi it F G L;have Y:i<xs.length:=by exact Zg J0
  have lt':i<its.length:=zU Y V;refine Nz Oz ?_;rw[Nr Pp _];show Rj _ A.in1 (II (.ref D) >>= _) _ _ s;refine W6 (MN it F (x:=its[i]) (by simp[lt']) λh' ah O=>?_);obtain⟨x,t,ai,aj⟩:=ae i its[i] (by simp[lt']);rw[aj];have ak:h'.SetOf (Q6 P w) S (λB=>decide (B∈xs.take i)) (dd (xs.take i)).length:=by
   obtain⟨o,es,ep,tb,M,rest⟩:=G;exact⟨o,es,ep,tb,(O.2 S I).trans M,rest⟩
  have al:h'.IsList l its.toArray:=F.extBut O.extBut ac;show Rj _ A.in1 (holding [Mx x t] (setAdd S (.str x t)) >>= _) _ _ { s with heap:=h' };refine W6 (OC ?_);unfold setAdd;refine OC ?_;have Z:(Q6 P w).is x (.str x t)=true:=by simp[Q6,KL]
  refine W6 ((Q6 P w).pyHash Z ?_);have am:(dd (xs.take i)).length+1<scanBound:=by
   have:=Xl (xs.take i);rw[QQ] at this;exact Zk af this
  refine wpAny_setAddHashed_of (knd:=Q6 P w) (s:={ s with heap:=h',toks:=s.toks+1 }) Z rfl ak am λh2 U ao=>?_;have ap:xs.take i++[x]=xs.take (i+1):=by rw[QK,ai];rfl
  have aq:h2.SetOf (Q6 P w) S (λB=>decide (B∈xs.take (i+1))) (dd (xs.take (i+1))).length:=by
   rw[←ap];exact SetOf_congr ao (λB=>congrFun (Xo (xs.take i) x) B) (Xp (xs.take i) x)
  refine S3 ⟨plainId_quiet Pp _,ag (i+1) _ (congrArg I4 J0) Y (ah.extBut U.extBut (Q3 I)) (al.extBut U.extBut (Q3 ad)) aq λar tk q as=>?_⟩;exact L ar tk (λb o h1 aa e=>q b o h1 aa ((U.2 b h1).trans ((O.2 b aa).trans e))) as
section
variable {prog:U2}{A:QG}{E:X3->X9->Prop}
theorem Xs{Q:X3->X9->Prop}(ac:A.handled=none)(ad:s.heap.IsList l its.toArray)(ae:∀(i:Nat) v,its[i]?=some v->∃x t,xs[i]?=some x/\v=.str x t)(af:its.length=xs.length)(ag:xs.length+1<scanBound)(h:∀(h':Heap) (tk:Nat),h'.SetOf (Q6 prog w) s.heap.objs.size (λD=>decide (D∈xs)) (dd xs).length ->
   (∀b o,s.heap.get? b=some o->h'.get? b=some o)->Q (.ref s.heap.objs.size) { s with heap:=h',toks:=tk }) :
  Rj (model prog w) A (call (.type "set") [.ref l]) Q E s:=by
 obtain⟨c,tl,av⟩:=P4.mro;have aw:=P4.made;have ax:=P4.sub;refine K4 (codeAny_of_tree ?_);show Rj _ _ (callAny (.type "set") _) _ _ _;refine S3 ⟨Code.quiet_builtin _ (by lia),Nz F.entry_type_call ?_⟩;rw[QG.under_plain (weight_type_call_type "set" [.ref l] []) rfl];have h1:=P4.notType;have h2:=P4.canCreate;have ay:=F.typeCall_set_1 (.ref l)
 repeat (any_goals (first|assumption|wp_step))
 refine O3 (code_set_new_1 (.ref l) (E:=E) (Q₁:=λobj M=>∃B:Bool,obj=.ref s.heap.objs.size/\M={ s with heap:=s.heap.push { cls:=.type "set",dict:=none,data:=.set #[] 0 (.fresh 0 0 B) } }) λB=>⟨B,J,J⟩) λr M G=>?_;cases r with
 |error e=>exact G
 |ok ah=>
  cases ah with
  |ret obj=>
   obtain⟨B,rfl,rfl⟩:=G;generalize I:s.heap.push { cls:=.type "set",dict:=none,data:=.set #[] 0 (.fresh 0 0 B) }=H1;have O:H1.get? s.heap.objs.size=some { cls:=.type "set",dict:=none,data:=.set #[] 0 (.fresh 0 0 B) }:=by rw[←I];exact Ru _ rfl
   have S:∀b o,s.heap.get? b=some o->H1.get? b=some o:=λb o e=>by rw[←I];exact W0 _ e
   have hsz:H1.objs.size=s.heap.objs.size+1:=by rw[←I];exact O1 ..
   have ai:X9.TypeIs { s with heap:=H1 } (.ref s.heap.objs.size) "set":=⟨_,O,J⟩;have az:=P4.init.lookup;have aA:=P4.init.bind (.ref s.heap.objs.size)
   repeat (any_goals (first|assumption|wp_step))
   refine O3 (codeAny_call_builtin (R:=wants (λr U=>r=.none/\∃h' tk,U={ s with heap:=h',toks:=tk } /\
     h'.SetOf (Q6 prog w) s.heap.objs.size (λD=>decide (D∈xs)) (dd xs).length/\(∀b o,s.heap.get? b=some o->h'.get? b=some o)) E) P4.init.plain F.entry_set_init (check_set_init_1 ai ?_)) λaj U J0=>?_
   .obtain⟨ak,V,W,al,Y⟩:=ad;obtain⟨aB,aC,aD,aE⟩:=ak;simp only at W Y;subst W;subst Y;have am:=S _ _ V;have aF:=F.sub_list_set;have aG:=F.sub_list_frozenset;have aH:(KZ "list"==KZ "dict")=false:=by decide
    have Z:H1.IsList l its.toArray:=⟨_,am,J,al,J⟩;unfold KA.«set.__init__» noKeywords JV;generalize ao:IJ=PI
    wp_walk
    subst ao;refine N9 Z ?_;refine W6 (wpAny_runValue ?_);have aa:l<s.heap.objs.size:=S6 V;have ap:A.in1.in1.in1.handled=none:=by simp[ac]
    refine Xr (P:=prog) (w:=w) (l:=l) (its:=its) (xs:=xs) ap (by rw[hsz];exact RE (PL aa)) (by rw[hsz];exact RE (Q5 _)) (IH aa) ae af ag xs.length 0 _ (J) (X7 _) ⟨_,Ru _ J,J,J⟩ (Z.push _) ?hS0 ?hR
    case hS0=>
     exact SetOf_congr ((setObjOf_fresh (knd:=Q6 prog w) B).setOf (W0 _ O) (by unfold scanBound;exact Qy _)) (λ_=>by simp) rfl
    case hR=>
     intro h' aq ar L;show Rj _ _ _ _ _ _;refine S3 ?_;show Rj _ _ (ret PZ) _ _ _;refine S3 ⟨J,h',aq,J,L,λb o e=>?_⟩;have ab:=S6 e;exact ar b o (RE ab) (by rw[hsz];exact RE (PL ab)) (W0 _ (S b o e))
   .cases aj with
    |error e=>exact J0
    |ok as=>
     cases as with
     |ret r=>
      obtain⟨rfl,h',tk,rfl,L,au⟩:=J0
      repeat (any_goals (first|assumption|wp_step))
      exact h _ _ L au
     |_=>exact J0.elim
  |_=>exact G.elim
end
theorem fm:∀ {xs:List Str}{us:List X3},Af (xs.map V.str) us->us.length=xs.length/\∀(i:Nat) v,us[i]?=some v->∃x t,xs[i]?=some x/\v=.str x t
 |[],_,.nil=>⟨J,λi v e=>by simp at e⟩
 |x::xs,_,.cons r t=>by
  obtain⟨h1,h2⟩:=fm (xs:=xs) t;obtain⟨tk,rfl⟩:=r;refine⟨by simp[h1],λi v e=>?_⟩;cases i with
  |zero=>simp at e;exact⟨x,tk,by simp,e.symm⟩
  |succ i=>simpa using h2 i v (by simpa using e)
theorem Xt(D:X.calm=true):xY X (.type "set") (λvs H Q=>∃p xs,vs=[.ref p]/\Ad X.K H p (xs.map V.str)/\xs.length+1<scanBound/\∀q,H q=none->Q (.ref q) (c' H q (oG X.prog X.w q xs))):=by
 intro Δ s σ H vs us Q B r h;obtain⟨p,xs,rfl,F,G,q⟩:=h;obtain⟨u,rfl,I⟩:=wD r;cases I;obtain⟨its,J0,pl,O⟩:=B.list F;obtain⟨h1,h2⟩:=fm J0;refine R7 (n:=X.t0) B.tk ?_;refine Xs (B.ok.hd D) pl.isList h2 h1 G λh' tk L M=>?_;intro ht;exact⟨.ref _,_,B.laid (t':=tk) M (X2 _) (Xn L),J,q _ B.fresh⟩
noncomputable def Ac(p:Addr)(H H':Hp):Prop:=∀b o,b≠p->H b=some o->H' b=some o
theorem Ac.refl:Ac p H H:=λ_ _ _ e=>e
theorem Ac.trans(a:Ac p H H1)(b:Ac p H1 H2):Ac p H H2:=λc o n e=>b c o n (a c o n e)
theorem Ac.c'(a:Ac p H H'):Ac p H (c' H' p o):=λc u n e=>by rw[zh n];exact a c u n e
theorem Aa.x(a:Aa H H'):Ac p H H':=λc o _ e=>a c o e
theorem Aa.new(h:H p=none):Aa H (c' H p o):=λb u e=>by rw[zh (zi e h)];exact e
structure uK(J0:It)(n:Nat)(item:Nat->V)(H0:Hp)(p:Addr):Prop where
 go:∀i H,i<n->Ac p H0 H->J0.go i H
 stop:∀H,Ac p H0 H->J0.stop n H
 yld:∀i H x H',i<n->Ac p H0 H->J0.yld i H x H'->H'=H/\x=item i
theorem tS{xs:List V}(h:H0 a=some (.tup xs))(B:a≠p):uK (sR K a) xs.length (λi=>xs.getD i .non) H0 p where
 go:=λi H hi k=>⟨xs,xs[i],Ah.of (k a _ B h),by simp[hi]⟩
 stop:=λH k=>⟨xs,Ah.of (k a _ B h),X2 _⟩
 yld:=λi H v H' hi k ⟨e,q⟩=>⟨e,by
  have:=q xs (Ah.of (k a _ B h));rw[XP,this];rfl⟩
theorem x8{xs:List V}(h:H0 a=some (.lst xs))(B:a≠p):uK (sQ K a) xs.length (λi=>xs.getD i .non) H0 p where
 go:=λi H hi k=>⟨xs,xs[i],Ad.of (k a _ B h),by simp[hi]⟩
 stop:=λH k=>⟨xs,Ad.of (k a _ B h),X2 _⟩
 yld:=λi H v H' hi k ⟨e,q⟩=>⟨e,by
  have:=q xs (Ad.of (k a _ B h));rw[XP,this];rfl⟩
noncomputable def yM(F:Nat->List V):Nat->List V
 |0=>[]
 |i+1=>yM F i++F i
theorem fq{M:TR}(F:Nat->List V)(P:St->Prop)(W:P O)(Y:H0 p=some (.lst cur))(L:uK J0 n item H0 p)(turn:∀i σ H (N:St->Hp->Prop),i<n->P σ->Ac p H0 H->H p=some (.lst (cur++yM F i))->(∀B I,P B->Ac p H I->I p=some (.lst (cur++yM F i++F i))->N B I) ->
   g (item i) σ H λB H2=>tt B H2 λb R=>if b=true then M B R N else N B R)(Z:∀σ H,P σ->Ac p H0 H->H p=some (.lst (cur++yM F n))->Qe σ H):vw J0 g tt M Qe O H0:=by
 refine⟨λi m σ H=>m=n-i/\i<=n/\P σ/\Ac p H0 H/\H p=some (.lst (cur++yM F i)),⟨n,J,X7 _,W,.refl,by simpa [yM] using Y⟩,?_⟩;rintro i m σ H ⟨rfl,hi,S,D,U⟩;by_cases G:i<n
 .refine .inr ⟨L.go i H G D,λσ' H'=>P σ'/\Ac p H0 H'/\H' p=some (.lst (cur++yM F (i+1))),λσ' H' ⟨a,b,c⟩=>⟨n-(i+1),by exact vK G,J,G,a,b,c⟩,λx H' y=>?_⟩;obtain⟨rfl,rfl⟩:=L.yld i H x H' G D y;refine turn i σ H' _ G S D U λB I aa ab ac=>⟨aa,D.trans ab,?_⟩;rw[ac];simp only[yM,Q8]
 .have e:i=n:=RU hi (Qt.1 G);subst e;exact .inl ⟨L.stop H D,Z σ H S D U⟩
theorem ft{F:Nat->List V}{k:Nat}(h:∀i,(F i).length<=k):∀n,(yM F n).length<=n*k
 |0=>by simp[yM]
 |n+1=>by
  have:=ft h n;have h2:=h n;simp only[yM,X4,IK];exact O8 this h2
theorem Xu{I:St}(f:Nat->Option V)(P:St->Prop)(S:P I)(U:H0 p=some (.lst cur))(hsz:cur.length+n<=100000)(W:uK J0 n item H0 p)(turn:∀i σ H (C:Option V->St->Hp->Prop),i<n->P σ->Ac p H0 H->(∀B D,P B->Aa H D->C (f i) B D) ->
   g (item i) σ H λB H2=>tt B H2 λb L=>if b=true then te B L λv D=>C (some v) B D else C none B L)(Y:∀σ H,P σ->Ac p H0 H->H p=some (.lst (cur++yM (λi=>(f i).toList) n))->Qe σ H):vw J0 g tt (tR p te) Qe I H0:=by
 refine fq (λi=>(f i).toList) P S U W (λi σ H N hi Z aa ab M=>?_) Y;refine turn i σ H (λo B D=>match o with
  |some v=>∃ys,D p=some (.lst ys)/\ys.length<sizeLine/\N B (c' D p (.lst (ys++[v])))
  |none=>N B D) hi Z aa λB D O G=>?_
 have R:=G p _ ab;cases e:f i with
 |none=>
  refine M B D O G.x ?_;rw[e];simpa using R
 |some v=>
  refine⟨_,R,?_,M B _ O (G.x.c') ?_⟩
  .have h1:=ft (F:=λi=>(f i).toList) (k:=1) (λi=>by show ((f i).toList).length<=1;cases f i<;>simp) i;have h2:(100000:Nat)<sizeLine:=by rw[Qo];decide
   rw[X4];omega
  .rw[zd,e];rfl
theorem vf{G:St}(f:Nat->Option V)(P:St->Prop)(O:P G)(I:H0 p=none)(hsz:n<=100000)(R:uK J0 n item (c' H0 p (.lst [])) p)(turn:∀i σ H (C:Option V->St->Hp->Prop),i<n->P σ->Aa H0 H->(∀B D,P B->Aa H D->C (f i) B D) ->
   g (item i) σ H λB H2=>tt B H2 λb L=>if b=true then te B L λv D=>C (some v) B D else C none B L)(S:∀σ H,Aa H0 H->H p=some (.lst (yM (λi=>(f i).toList) n))->Qe σ H):vw J0 g tt (tR p te) Qe G (c' H0 p (.lst [])):=by
 have U:Aa H0 (c' H0 p (.lst [])):=Aa.new I;have M:∀ {H},Ac p (c' H0 p (.lst [])) H->Aa H0 H:=λ{H} h b o e=>h b o (zi e I) (U b o e);refine Xu f P O zd (by simpa using hsz) R (λi σ H C hi W F Y=>turn i σ H C hi W (M F) Y) λσ H _ F Z=>S σ H (M F) (by simpa using Z)
theorem v7(f:Nat->V):∀n,yM (λi=>(some (f i)).toList) n=(RO n).map f
 |0=>rfl
 |n+1=>by
  have:=v7 f n;simp only[K9] at this;simp only[yM,M5,T5,this,K9,RD,NH]
end L2
namespace T1
open PySem L2
variable {X:Cx}
inductive D where
 |non|bl (b:Bool)|int (i:Int)|str (x:Str)|tup (xs:List D)|lst (xs:List D)
mutual
/-- the value v stands for d;z is an address apart (the law's bag) -/
inductive Aj(z:Addr)(H:Hp):V->D->Prop where
 |non:Aj z H .non .non
 |bl (b:Bool):Aj z H (.bl b) (.bl b)
 |int (i:Int):Aj z H (.int i) (.int i)
 |str (x:Str) (h:x.length<=1000):Aj z H (.str x) (.str x)
 |tup {a:Addr} {xs:List V} {ds:List D} (h:H a=some (.tup xs)) (B:a≠z) (r:Ab z H xs ds):Aj z H (.ref a) (.tup ds)
 |lst {a:Addr} {xs:List V} {ds:List D} (h:H a=some (.lst xs)) (B:a≠z) (r:Ab z H xs ds):Aj z H (.ref a) (.lst ds)
inductive Ab(z:Addr)(H:Hp):List V->List D->Prop where
 |nil:Ab z H [] []
 |cons {v:V} {d:D} {vs:List V} {ds:List D} (h:Aj z H v d) (t:Ab z H vs ds):Ab z H (v::vs) (d::ds)
end
mutual
theorem Aj.mono{z:Addr}{H H':Hp}(k:Ac z H H'):∀ {v:V}{d:D},Aj z H v d->Aj z H' v d
 |_,_,.non=>.non
 |_,_,.bl b=>.bl b
 |_,_,.int i=>.int i
 |_,_,.str x h=>.str x h
 |_,_,.tup h B r=>.tup (k _ _ B h) B (Ab.mono k r)
 |_,_,.lst h B r=>.lst (k _ _ B h) B (Ab.mono k r)
theorem Ab.mono{z:Addr}{H H':Hp}(k:Ac z H H'):∀ {vs:List V}{ds:List D},Ab z H vs ds->Ab z H' vs ds
 |_,_,.nil=>.nil
 |_,_,.cons h t=>.cons (Aj.mono k h) (Ab.mono k t)
end
theorem Ab.length{z:Addr}{H:Hp}:∀ {vs:List V}{ds:List D},Ab z H vs ds->vs.length=ds.length
 |_,_,.nil=>rfl
 |_,_,.cons _ t=>by simp[Ab.length t]
theorem Ab.get{z:Addr}{H:Hp}:∀ {vs:List V}{ds:List D}{i:Nat},Ab z H vs ds->i<ds.length->Aj z H (vs.getD i .non) (ds.getD i .non)
 |_,_,0,.cons h _,_=>h
 |_,_,i+1,.cons _ t,hi=>by
  have:=Ab.get (i:=i) t (by simpa using hi);simpa using this
noncomputable def D.ty:D->String
 |.non=>"NoneType"|.bl _=>"bool"|.int _=>"int"|.str _=>"str"|.tup _=>"tuple"|.lst _=>"list"
theorem Xv(K:W.Frag)(d:D):Jk K (.type d.ty) (.type "int")=some (match d with|.int _=>true|.bl _=>true|_=>false):=by cases d<;>rfl
theorem Xw(K:W.Frag)(d:D):Jk K (.type d.ty) (.type "bool")=some (match d with|.bl _=>true|_=>false):=by cases d<;>rfl
theorem b_len:Qq "len"=some (.builtin "len"):=by lia
theorem Xx:Qq "any"=some (.builtin "any"):=by lia
theorem qb:Qq "isinstance"=some (.builtin "isinstance"):=by lia
theorem Xy:Qq "min"=some (.builtin "min"):=by lia
theorem b_sorted:Qq "sorted"=some (.builtin "sorted"):=by lia
theorem oH:Qq "str"=some (.type "str"):=by lia
theorem oI:Qq "int"=some (.type "int"):=by lia
theorem km:Qq "bool"=some (.type "bool"):=by lia
theorem v8:Qq "tuple"=some (.type "tuple"):=by lia
theorem vS:Qq "list"=some (.type "list"):=by lia
theorem Xz:Qq "set"=some (.type "set"):=by lia
noncomputable def fu(S sc:Scope):Bool:=sc.names.all λx=>(x.2 != .local || sc.names.lookup x.1==some .local)&&x.2 != .cell&&(x.2 != .free || S.names.lookup x.1==some .cell)
theorem yZ{sc:Scope}(S:Scope)(h:fu S sc=true)(D:X.env.scope=S:=by rfl)(F:sc.kind=.function:=by rfl):qa X sc:=by
 unfold fu at h;rw[QR] at h;refine⟨F,λx B G=>?_,λx B I=>?_,λx B J0=>?_⟩
 .have:=h x B;rw[G] at this;simp at this;exact this
 .have:=h x B;rw[I] at this;simp at this
 .have:=h x B;rw[J0] at this;simp at this;show X.env.scope.names.lookup x.1=some .cell;rw[D];exact this
noncomputable def fw(K:W.Frag):List V->Hp->VK->Prop:=λxs H Q=>∃x n t b,xs=[x,.ty n]/\wE K H x t/\Jk K t (.type n)=some b/\Q (.bl b) H
theorem vT{a:R8}{ta:TE}{T:Str}{n:String}{B p2 pos:Pos}(F:X.mg "isinstance"=none)(G:X.mg T=none)(I:Qq T=some (.type n))(J0:PE X a ta)(L:Gl X "isinstance":=by rfl)(M:Gl X T:=by rfl)(D:T2 [a,.Name T p2] X.env=(false,eval a X.env)::T2 [.Name T p2] X.env:=by rfl)(O:(QS pos (T2 [.Name T p2] X.env)).any (·.1)=false:=by rfl)(R:T≠"__name__":=by decide)(S:(T==("__debug__":Str))=false:=by decide) :
  PE X (.Call (.Name "isinstance" B) [a,.Name T p2] [] pos) (tO (fw X.K) (xv ta (xv (tC (.ty n)) wO))):=
 zT (p:=B) (pos:=pos) (X:=X) Xi L F qb (zc J0 (zc (vX (v:=.ty n) (pos:=p2) M G I J R S) zf) D) (by decide) (by decide) D O
end T1
namespace L2
open PySem PySem.Spec PyProof.Rows
variable {te:TE}{tk:Nat}{X:Cx}
theorem kq{J0:It}{g:TG}{Qe:St->Hp->Prop}{G:St}{H0:Hp}{p:Addr}{n:Nat}{item:Nat->V}(f:Nat->V)(P:St->Prop)(L:P G)(M:H0 p=none)(hsz:n<=100000)(O:uK J0 n item (c' H0 p (.lst [])) p)(turn:∀i σ H (C:V->St->Hp->Prop),i<n->P σ->Aa H0 H->(∀B D,P B->Aa H D->C (f i) B D)->g (item i) σ H λB H2=>te B H2 λv D=>C v B D)(R:∀σ H,Aa H0 H->H p=some (.lst ((RO n).map f))->Qe σ H):vw J0 g ve (tR p te) Qe G (c' H0 p (.lst [])):=
 vf (λi=>some (f i)) P L M hsz O (λi σ H C hi S F U=>turn i σ H (λv B D=>C (some v) B D) hi S F U) λσ H F I=>R σ H F (by rw[v7] at I;exact I)
theorem range_map{B:Type} [Inhabited B] (xs:List B) (d:B) (f:B->V):(RO xs.length).map (λi=>f (xs.getD i d))=xs.map f:=by
 apply List.ext_getElem?;intro i;rw[RF,RF];by_cases h:i<xs.length
 .simp[h]
 .simp[h]
variable {s:X9}{H:Hp}
section
variable {sc:Scope}{cl:List (Str×Addr)}{N':List Str}{fp:List Addr}
theorem qc{es:List R8}{k:Nat}{t:uv}{pos:Pos}(n:Nat)(B:X.calm=true)(h:rQ (X.blk sc cl N' s H fp) es t)(D:(OL es (X.blk sc cl N' s H fp).env).length=n:=by rfl)(F:(OL es (X.blk sc cl N' s H fp).env).findIdx? (·.1)=none:=by rfl):PG (X.blk sc cl N' s H fp) (.Tuple es k pos) (gh X.K n t):=yR B h D F
theorem wg:BM (X.blk sc cl N' s H fp) (l8 X.K):=Ai
theorem XA:BM (X.blk sc cl N' s H fp) (l7 X.K):=Ae
theorem XB:yt (X.blk sc cl N' s H fp) (Qv .In) (gU X.K false):=YT
end
noncomputable def XC:R2:=λx y H Q=>∃p q xs,x=.ref p/\y=.ref q/\H p=some (.lst xs)/\H q=some (.lst [])/\Q (.bl (!xs.isEmpty)) H
noncomputable def XD:R2:=λx y H Q=>∃p q xs,x=.ref p/\y=.ref q/\H p=some (.lst xs)/\H q=some (.lst [])/\Q (.bl xs.isEmpty) H
theorem uN(D:X.A.units<cLine):yt X (Qv .NotEq) XC:=by
 intro Δ s σ H x y v u Q B G I h;obtain⟨p,q,xs,rfl,rfl,J0,L,k⟩:=h;cases G;cases I;obtain⟨its,M,pl,R⟩:=B.list (Ad.of J0);obtain⟨S,O,F,U⟩:=B.list (Ad.of L);cases O;show Rj _ _ (Me .NotEq _ _) _ _ _;cases M with
 |nil=>exact Ja (e:=λ_=>true) pl.isList F.isList rfl D (λj h1 _=>absurd h1 (by simp)) _ _ _ _ ⟨.bl _,H,B,J,k⟩
 |cons r t=>exact SeqAt.RcNeAt.lists_lengths pl.isList F.isList (by simp) D _ _ _ _ ⟨.bl _,H,B,J,k⟩
theorem kt(D:X.A.units<cLine):yt X (Qv .Eq) XD:=by
 intro Δ s σ H x y v u Q B G I h;obtain⟨p,q,xs,rfl,rfl,J0,L,k⟩:=h;cases G;cases I;obtain⟨its,M,pl,R⟩:=B.list (Ad.of J0);obtain⟨S,O,F,U⟩:=B.list (Ad.of L);cases O;show Rj _ _ (Me .Eq _ _) _ _ _;cases M with
 |nil=>exact MC (e:=λ_=>true) pl.isList F.isList rfl D (λj h1 _=>absurd h1 (by simp)) _ _ _ _ ⟨.bl _,H,B,J,k⟩
 |cons r t=>exact SeqAt.RcAt.lists_lengths pl.isList F.isList (by simp) D _ _ _ _ ⟨.bl _,H,B,J,k⟩
theorem PI.or{tg l:R8}{wi B:TI}(h:PI X tg l wi)(h':PI X tg l B):PI X tg l (λσ H R=>wi σ H R∨B σ H R):=by
 intro Δ s σ H R D q;rcases q with q|q
 .exact h Δ s σ H R D q
 .exact h' Δ s σ H R D q
section
variable {Δ:List (Addr×Obj)}{σ:St}{h':Heap}{m:Str->Option X3}
theorem fz(B:Addr):News (Att.noObjs s.heap) B s.heap (Att.ledger s.heap B B):=by
 rintro⟨a,o⟩ D;obtain⟨n1,_,e⟩:=Att.mem_ledger.mp D;exact⟨e,n1,Att.noObjs_get _ _⟩
theorem oJ{B:Addr}(N:News (Att.noObjs s.heap) B h' (Att.ledger s.heap B B)):∀b o,b≠B->s.heap.get? b=some o->h'.get? b=some o:=λb o D e=>(N (b,o) (Att.mem_ledger.mpr ⟨D,D,e⟩)).1
theorem Inv.lib(D:Inv X Δ σ H s)(I:s.heap.Ns X.env.locals m)(F:Fr (Att.noObjs s.heap) X.env.locals h' m)(N:News (Att.noObjs s.heap) X.env.locals h' (Att.ledger s.heap X.env.locals X.env.locals))(ht:X.t0<=tk:=by first|assumption|exact Inv.tk (by assumption)|(have q:=Inv.tk (by assumption);omega)):Inv X Δ σ H { s with heap:=h',toks:=tk }:=by
 have k:=oJ N;have G:∀b u,H b=some u->b≠X.env.locals:=λb u e z=>by rw[z,D.free] at e;cases e
 refine D.step (g':=s.gens) (d':=s.drawn) (ch:=[]) (λ_ z=>nomatch z) (λb o B _ _ e _=>k b o B e) (λb o B _ _ e _=>⟨o.slots,k b o B e⟩) (λ_ _ _ _ n=>n) (λb o _ e=>?_) (λ_ _ e=>e) (λ_ _ _ e=>e) (λb ps e=>⟨#[],by rw[e];simp⟩) (λJ0 L=>?_) (λb u e=>?_) D.bare
 .by_cases B:b=X.env.locals
  .obtain⟨o',_,_,M,_⟩:=F.ns;exact⟨o',by rw[B];exact M⟩
  .exact⟨o,k b o B e⟩
 .have:J0=m:=funext λx=>L.agree I x;rw[this];exact F.ns
 .refine(D.hok b u e).stay (λc v O q=>k c v ?_ q) (λ_ q=>q) λ_ _ q=>q;rcases O with z|z
  .rw[z];exact G b u e
  .exact G c _ z
theorem Inv.libNew{D:Addr}{G:Obj}{o:HO}(B:Inv X Δ σ H s)(U:s.heap.Ns X.env.locals m)(F:Fr (Att.noObjs s.heap) X.env.locals h' m)(N:News (Att.noObjs s.heap) X.env.locals h' ((D,G)::Att.ledger s.heap X.env.locals X.env.locals))(V:∀q∈Att.ledger s.heap X.env.locals X.env.locals,q.1<D)(W:Al X.prog X.w (c' H D o) h' D o)(ht:X.t0<=tk:=by first|assumption|exact Inv.tk (by assumption)|(have q:=Inv.tk (by assumption);omega)):H D=none/\Inv X Δ σ (c' H D o) { s with heap:=h',toks:=tk }:=by
 have N':News (Att.noObjs s.heap) X.env.locals h' (Att.ledger s.heap X.env.locals X.env.locals):=λp Y=>N p (T7 _ Y);have k:=oJ N';have L:D≠X.env.locals:=(N (D,G) W8).2.1;have M:∀o',s.heap.get? D≠some o':=λo' e=>absurd (V (D,o') (Att.mem_ledger.mpr ⟨L,L,e⟩)) (Pe _);have O:∀b u,H b=some u->b≠X.env.locals:=λb u e z=>by rw[z,B.free] at e;cases e
 have Z:∀b u,H b=some u->∃o',s.heap.get? b=some o':=λb u e=>by
  have ae:=(B.hok b u e).lt;cases u with
  |lst xs=>obtain⟨_,_,_,_,q⟩:=B.hok b _ e;exact⟨_,q⟩
  |tup xs=>obtain⟨_,_,_,G,q,_⟩:=B.hok b _ e;exact⟨G,q⟩
  |dK a'=>obtain⟨_,_,_,_,G,_,_,q,_⟩:=B.hok b _ e;exact⟨G,q⟩
  |dT a'=>obtain⟨_,_,_,_,G,_,_,q,_⟩:=B.hok b _ e;exact⟨G,q⟩
  |set S n=>obtain⟨G,_,_,_,q,_⟩:=B.hok b _ e;exact⟨G,q⟩
  |ins C dx fs=>obtain⟨_,_,_,q,_⟩:=B.hok b _ e;exact⟨_,q⟩
  |own y=>obtain⟨G,q⟩:=B.hok b _ e;exact⟨G,q⟩
  |xd fs=>obtain⟨_,⟨G,_,_,q,_⟩,_⟩:=B.hok b _ e;exact⟨G,q⟩
  |rng lo hi=>obtain⟨_,_,_,q⟩:=B.hok b _ e;exact⟨_,q⟩
  |frz G u=>obtain⟨q,_⟩:=B.hok b _ e;exact⟨_,q⟩
  |tbl ps=>exact⟨_,show s.heap.get? b=some _ from B.hok b _ e⟩
  |met f y=>exact⟨_,show s.heap.get? b=some _ from B.hok b _ e⟩
  |ext af=>obtain⟨_,q,_⟩:=B.hok b _ e;exact q
 have R:H D=none:=by
  cases e:H D with
  |none=>rfl
  |some u=>
   obtain⟨o',q⟩:=Z D u e;exact absurd q (M o')
 have J0:∀b u,H b=some u->b≠D:=λb u e=>zi e R;refine⟨R,B.step (g':=s.gens) (d':=s.drawn) (ch:=[]) (λ_ z=>nomatch z) (λb o I _ _ e _=>k b o I e) (λb o I _ _ e _=>⟨o.slots,k b o I e⟩) (λb o' _ e n=>?_) (λb o _ e=>?_) (λb xs e=>by rw[zh (J0 b _ e)];exact e) (λb _ _ e=>by rw[zh (J0 b _ e)];exact e) (λb ps e=>⟨#[],by rw[zh (J0 b _ e),e];simp⟩) (λaa ab=>?_) (λb u e=>?_) B.bare⟩
 .rw[zh (λz=>M o' (by rw[←z];exact e))];exact n
 .by_cases I:b=X.env.locals
  .obtain⟨o',_,_,ac,_⟩:=F.ns;exact⟨o',by rw[I];exact ac⟩
  .exact⟨o,k b o I e⟩
 .have:aa=m:=funext λx=>ab.agree U x;rw[this];exact F.ns
 .by_cases I:b=D
  .subst I;rw[zd] at e;cases e;exact W
  .rw[zh I] at e;refine(B.hok b u e).stay (λc v ad q=>k c v ?_ q) (λc q=>by rw[zh (J0 c _ q)];exact q) λc _ q=>by rw[zh (J0 c _ q)];exact q
   rcases ad with z|z
   .rw[z];exact O b u e
   .exact O c _ z
end
noncomputable def yw:X3->Str
 |.str x _=>x
 |_=>⟨#[]⟩
theorem qe:∀ {xs:List Str}{us:List X3},Af (xs.map V.str) us->us.map yw=xs/\∀u∈us,∃t,u=.str (yw u) t
 |[],_,.nil=>⟨J,λu hu=>nomatch hu⟩
 |x::r,_,.cons h t=>by
  obtain⟨B,rfl⟩:=h;obtain⟨e,q⟩:=qe t;refine⟨by rw[RD,e];rfl,λu hu=>?_⟩;rcases S7.mp hu with rfl|hu
  .exact⟨B,J⟩
  .exact q u hu
theorem fA:∀ {us:List X3},(∀u∈us,∃t,u=.str (yw u) t)->Af ((us.map yw).map V.str) us
 |[],_=>.nil
 |u::r,h=>.cons (h u W8) (fA λv B=>h v (T7 _ B))
theorem fB:∀its:List X3,(its.map λu=>((yw u).length:Int)).zip its=its.map λu=>(((yw u).length:Int),u)
 |[]=>rfl
 |a::r=>by rw[RD,Jb,RD,fB r]
noncomputable def ku(K:W.Frag)(b:Bool):List V->Hp->VK->Prop:=λvs H Q=>∃(l:Addr) (xs:List Str),vs=[.ref l]/\Ad K H l (xs.map V.str)/\xs.length<64/\(∀y∈xs,y.length<=sizeLine) /\
 ∀(p:Addr) (ys:List Str),H p=none->ys.Perm xs->ys.Pairwise (λa c=>if b then c.length<=a.length else a.length<=c.length)->Q (.ref p) (c' H p (.lst (ys.map V.str)))
theorem fC{Δ:List (Addr×Obj)}{σ:St}{H:Hp}{s:X9}{Q:VK}{vs:List V}{us:List X3}{J0:List (Str×X3)}{b:Bool}(L:Inv X Δ σ H s)(r:Af vs us)(h:ku X.K b vs H Q)(ac:∀l,argsOk "sorted" ⟨[.ref l],J0⟩)(ad:∀x,argsOk "list.sort" ⟨[.ref x],J0⟩)(ht:∀x,KA.«list.sort» ⟨[.ref x],J0⟩=ksk_tree x (.builtin "len") b):Rj (model X.prog X.w) X.A (call (.builtin "sorted") us J0) (EP X Δ σ Q) X.xe s:=by
 obtain⟨l,xs,rfl,ae,U,af,q⟩:=h;obtain⟨u,rfl,ag⟩:=wD r;cases ag;obtain⟨its,ah,pl,_⟩:=L.list ae;obtain⟨m,W,_⟩:=id L.loc;obtain⟨M,Y⟩:=qe ah;have ai:its.length=xs.length:=by rw[←M,X5]
 have aC:=v0;refine R7 (n:=X.t0) L.tk ?_;refine ksk_sorted (b:=b) (kz:=its.map λu=>((yw u).length:Int)) (f:=.builtin "len") (Att.fr_all W) (fz X.env.locals) pl.isList (by simp) (pW ai (R5 U)) (ac l) ad ht (λi v k Z aa h tk aD F N=>?_) (λD h' tk O c F N aj ak=>?_)
 .have B:=Ph Z;obtain⟨t,al⟩:=Y v B;have am:k=((yw v).length:Int):=by
   rw[RF,Z] at aa;exact(R4 aa).symm
  have aE:(yw v).length<=sizeLine:=af _ (by rw[←M];exact Qz B);rw[al,am];refine len_str (by omega) ?_;exact IM F N λp G=>G
 .obtain⟨ps,G,ao,ap⟩:=ak;have aq:(its.map λu=>((yw u).length:Int)).zip its=its.map λu=>(((yw u).length:Int),u):=by
   exact fB its
  rw[aq] at G;have B:∀p∈ps,p.1=((yw p.2).length:Int)/\p.2∈its:=λp R=>by
   obtain⟨u,S,rfl⟩:=S4.mp (G.mem_iff.mp R);exact⟨J,S⟩
  have ab:(ps.map λp=>yw p.2).Perm xs:=by
   have:=G.map λp=>yw p.2;rw[R6] at this;have ar:its.map ((λp:Int×X3=>yw p.2)∘λu=>(((yw u).length:Int),u))=xs:=by rw[←M];rfl
   rw[ar] at this;exact this
  have as:(ps.map λp=>yw p.2).Pairwise (λa c=>if b then c.length<=a.length else a.length<=c.length):=by
   rw[List.pairwise_map];refine ap.imp_of_mem λ{p q} h1 h2 I=>?_;have au:=(B p h1).1;have av:=(B q h2).1;rw[au,av] at I;cases b
   .simp at I ⊢;exact I
   .simp at I ⊢;exact I
  have aw:Af ((ps.map λp=>yw p.2).map V.str) O.toList:=by
   rw[ao];have:=fA (us:=ps.map Prod.snd) λu S=>by
    obtain⟨p,R,rfl⟩:=S4.mp S;exact Y _ (B p R).2
   have ax:(ps.map Prod.snd).map yw=ps.map λp=>yw p.2:=by rw[R6];rfl
   rw[ax] at this;exact this
  have ay:(ps.map λp=>yw p.2).length=xs.length:=ab.length_eq;have az:(64:Nat)<=sizeLine:=by rw[Qo];decide
  intro aF;obtain⟨aA,aB⟩:=L.libNew (tk:=tk) (o:=.lst ((ps.map λp=>yw p.2).map V.str)) W F N aj ⟨by rw[X5,ay];exact S5 (RL U) az,O.toList,c,aw,(N (D,seqObj "list" O c) W8).1⟩;exact⟨.ref D,_,aB,J,q D _ aA ab as⟩
theorem XE{e:R8}{p p2 F pos:Pos}(G:X.mg "sorted"=none)(I:X.mg "len"=none)(J0:PE X e te)(L:Gl X "sorted":=by rfl)(M:Gl X "len":=by rfl)(h1:T2 [e] X.env=(false,eval e X.env)::T2 [] X.env:=by rfl)(h2:QS pos (T2 [e] X.env)=(false,eval e X.env)::QS pos (T2 [] X.env):=by rfl)(O:(QS pos (T2 [e] X.env)).any (·.1)=false:=by rfl) :
  PE X (.Call (.Name "sorted" p) [e] [⟨some "key",.Name "len" p2,F⟩] pos) (tO (ku X.K false) (xv te wO)):=by
 intro Δ s σ H Q B h;refine QL (wz B L G T1.b_sorted ?_ (by decide) (by decide));refine JR (zo ((zc J0 zf h1) pos Δ s σ H _ B h) λus S R=>?_) h2 O;obtain⟨vs,H1,D,r,q⟩:=R;refine J9 (wz D M I T1.b_len (kws_nil ?_) (by decide) (by decide));exact fC D r q (λl=>ksk_s1 _ _) (λx=>ksk_l1 _ _) (λx=>ksk_t4 "len" x)
noncomputable def yC(z:Str)(lo hi:Option Int):Str:=⟨((z.cps.toList.drop (HT.sIx z.length 0 lo)).take (HT.sIx z.length z.length hi-HT.sIx z.length 0 lo)).toArray⟩
theorem fD(v:Int)(n d:Nat):max (0:Int) (min (if v<0 then v+(n:Int) else v) (n:Int))=((HT.sIx n d (some v):Nat):Int):=by
 show _=(((if v<0 then (v+(n:Int)).toNat else min v.toNat n):Nat):Int);by_cases B:v<0
 .rw[Qxb B,Qxb B];exact lw B
 .rw[Qxa B,Qxa B];exact lq
theorem XF(lo hi:Option Int)(n:Nat):Ps lo hi 1 n=(RO (HT.sIx n n hi-HT.sIx n 0 lo)).map λk=>HT.sIx n 0 lo+k:=by
 have B:∀a b:Nat,sliceRange (a:Int) (b:Int) 1=(RO (b-a)).map λk=>a+k:=λa b=>by
  unfold sliceRange;have e:((if (1:Int)>0 then (if (a:Int)<b then ((b:Int)-a+1-1) / 1 else 0) else (if (a:Int)>b then ((a:Int)-b-1-1) / (-1) else 0)):Int).toNat=b-a:=by
   rw[Qxb (by decide)];by_cases h:(a:Int)<b
   .rw[Qxb h,IN];exact af
   .rw[Qxa h];omega
  simp only[e];refine PQ λk _=>?_;exact aE
 have D:(match lo with|none=>(if (1:Int)>0 then (0:Int) else (n:Int)-1)|some i=>if (1:Int)>0 then max 0 (min (if i<0 then i+(n:Int) else i) (n:Int)) else max (-1) (min (if i<0 then i+(n:Int) else i) ((n:Int)-1)))=((HT.sIx n 0 lo:Nat):Int):=by
  cases lo with
  |none=>rfl
  |some v=>
   show (if (1:Int)>0 then _ else _)=_;rw[Qxb (by decide)];exact fD v n 0
 have F:(match hi with|none=>(if (1:Int)>0 then (n:Int) else -1)|some i=>if (1:Int)>0 then max 0 (min (if i<0 then i+(n:Int) else i) (n:Int)) else max (-1) (min (if i<0 then i+(n:Int) else i) ((n:Int)-1)))=((HT.sIx n n hi:Nat):Int):=by
  cases hi with
  |none=>rfl
  |some v=>
   show (if (1:Int)>0 then _ else _)=_;rw[Qxb (by decide)];exact fD v n n
 unfold Ps;refine Jt ?_ (B _ _);rw[←D,←F];cases lo<;>cases hi<;>rfl
theorem XG(z:Str)(lo hi:Option Int):Txt.slice z lo hi=yC z lo hi:=by
 have e:=XF lo hi z.length;have h2:=HT.sIx_le z.length z.length (X2 _) hi;have L:z.cps.toList.length=z.length:=by simp;rfl
 have G:(Ps lo hi 1 z.length).filterMap (z.cps[·]?)=(z.cps.toList.drop (HT.sIx z.length 0 lo)).take (HT.sIx z.length z.length hi-HT.sIx z.length 0 lo):=by
  rw[e];by_cases h:HT.sIx z.length 0 lo<=HT.sIx z.length z.length hi
  .have I:=StrLaws.picks z.cps.toList (HT.sIx z.length z.length hi-HT.sIx z.length 0 lo) (HT.sIx z.length 0 lo) (by omega);simpa using I
  .have:HT.sIx z.length z.length hi-HT.sIx z.length 0 lo=0:=by omega
   rw[this];simp
 unfold Txt.slice;split
 .rename_i hw;have D:(Ps lo hi 1 z.length).length=z.length:=by simpa using hw
  rw[e,X5,List.length_range] at D;unfold yC;rw[D];obtain⟨B⟩:=z;by_cases F:B.size=0
  .have:B=#[]:=Ni F;subst this;simp[J4]
  .have J0:HT.sIx (Str.mk B).length 0 lo=0:=by
    have:(Str.mk B).length=B.size:=rfl;exact aB h2 D F this
   rw[J0];have:(Str.mk B).length=B.toList.length:=by simp;rfl
   rw[this,Ot];show Str.mk B=⟨(B.toList.take B.toList.length).toArray⟩;rw[R1]
 .unfold yC;rw[G]
noncomputable def XH:V->Option Int->Option Int->Hp->VK->Prop:=λx lo hi H Q=>∃z,x=.str z/\z.length<=sizeLine/\Q (.str (yC z lo hi)) H
theorem v9:lY X XH:=by
 intro Δ s σ H x v J0 L lo hi M Q D O R pl G h;obtain⟨z,rfl,S,q⟩:=h;obtain⟨t,rfl⟩:=O;rw[←XG] at q;refine⟨"str",_,F.slot_str_getitem.lookup,ON _ _ _,?_⟩;have B:∀(l u:Option (Int×Tok)),l.map (·.1)=lo->u.map (·.1)=hi->J0=partValue l->L=partValue u->Rj (model X.prog X.w) X.A (Ky (.str z t) (.ref M)) (EP X Δ σ Q) X.xe s:=λl u U V W Y=>by
  subst U V W Y;obtain⟨o,Z,aa,ab⟩:=R;refine R7 (n:=X.t0) D.tk ?_;refine wpAny_getItem_str_slice (l:=l) (u:=u) (st:=none) ⟨o,Z,aa,ab⟩ rfl ?_;exact post_val_or_str ⟨S5 (Txt.slice_le z _ _) S,λt' k ht=>⟨.str _,H,D.tok _ ht,⟨_,J⟩,q⟩⟩
 cases pl with
 |none=>
  cases G with
  |none=>exact B none none rfl rfl rfl rfl
  |int j u=>exact B none (some (j,u)) rfl rfl rfl rfl
 |int i I=>
  cases G with
  |none=>exact B (some (i,I)) none rfl rfl rfl rfl
  |int j u=>exact B (some (i,I)) (some (j,u)) rfl rfl rfl rfl
noncomputable def XI(K:W.Frag)(te B:TE):TE:=λσ H Q=>te σ H λx H1=>B σ H1 λk H2=>∃a xs,x=.ref a/\k=.int (-1)/\Ad K H2 a xs/\∀p,H2 p=none->Q (.ref p) (c' H2 p (.lst xs.reverse))
theorem XJ{e st:R8}{D:TE}{p2 pos:Pos}(L:PE X e te)(M:PE X st D)(O:∀σ H (Q I:VK),D σ H Q->(∀v H',Q v H'->I v H')->D σ H I):PE X (.Subscript e (.Slice none none (some st) p2) pos) (XI X.K te D):=by
 intro Δ s σ H Q R h;refine MR (zo (L Δ s σ H _ R h) λv S U=>?_);obtain⟨x,H1,Y,Z,q1⟩:=U;refine wpAny_Slice ?_;rw[KR];refine S3 ?_;refine S3 ?_;have aa:PO X (some st) (lX D):=xz M;have ab:lX D σ H1 (λo H2=>∃i,o=some i/\∃a xs,x=.ref a/\V.int i=.int (-1)/\Ad X.K H2 a xs/\∀p,H2 p=none->Q (.ref p) (c' H2 p (.lst xs.reverse))):=O σ H1 _ _ q1 λk H2 ⟨a,xs,ac,ad,ae,af⟩=>⟨-1,ad,-1,J,a,xs,ac,J,ae,af⟩;refine zo (aa Δ S σ H1 (λo H2=>∃i,o=some i/\∃a xs,x=.ref a/\V.int i=.int (-1)/\Ad X.K H2 a xs/\∀p,H2 p=none->Q (.ref p) (c' H2 p (.lst xs.reverse))) Y ?_) λF B ⟨k,H2,ag,ah,ai⟩=>?_
 .exact ab
 .obtain⟨i,rfl,a,xs,rfl,aj,ak,q⟩:=ai;cases aj;cases Z;have G:Inv X Δ σ H2 { B with heap:=B.heap.push { cls:=.type "slice",data:=.fields #[.none,.none,F] } }:=ag.kept (t':=B.toks) λb al q=>W0 _ q;obtain⟨its,r,ht,J0⟩:=G.list ak;show Rj (model X.prog X.w) X.A (Mn e (.Slice none none (some st) p2) (.ref a) (.ref B.heap.objs.size)) (EP X Δ σ Q) X.xe { B with heap:=B.heap.push { cls:=.type "slice",data:=.fields #[.none,.none,F] } };refine tail_any (ops:=[.ref a,.ref B.heap.objs.size]) ht.isList.typeIs Mc.lookup ?_ (by with_unfolding_all rfl);refine Mo ht.isList (K5 ..) .none .none ah (by decide) ?_ (by rw[T4];have:=r.length;exact xq (RH this) J0);rw[W.krv_pick];refine⟨.ref _,_,G.laid (t':=B.toks) (o:=.lst xs.reverse) (λb al q=>W0 _ q) (X2 _) ?_,J,q _ (G.hok.fresh (X2 _))⟩;exact⟨by rw[NE];exact J0,_,0,r.reverse,by
   have:=Ru { B.heap.push { cls:=.type "slice",data:=.fields #[.none,.none,F] } with } (o:={ cls:=.type "list",data:=.seq its.toArray.toList.reverse.toArray }) rfl;exact this⟩
end L2
namespace T1
open PySem L2 PyProof.Rows
mutual
inductive ua:Nat->D->Prop where
 |non (k:Nat):ua k .non
 |bl (k:Nat) (b:Bool):ua k (.bl b)
 |int (k:Nat) (i:Int):ua k (.int i)
 |str (k:Nat) (x:Str):ua k (.str x)
 |tup {k:Nat} {ds:List D} (t:AZ k ds):ua (k+1) (.tup ds)
 |lst {k:Nat} {ds:List D} (t:AZ k ds):ua (k+1) (.lst ds)
inductive AZ:Nat->List D->Prop where
 |nil (k:Nat):AZ k []
 |cons {k:Nat} {d:D} {ds:List D} (h:ua k d) (t:AZ k ds):AZ k (d::ds)
end
theorem AZ.get{k:Nat}:∀ {ds:List D}{i:Nat},AZ k ds->i<ds.length->ua k (ds.getD i .non)
 |_,0,.cons h _,_=>h
 |_,i+1,.cons _ t,hi=>by
  have:=AZ.get (i:=i) t (by simpa using hi);simpa using this
theorem uO{xs:List V}{us:List X3}(r:Af xs us){j:Nat}(h:j<us.toArray.size):RelV (xs.getD j .non) us.toArray[j]:=by
 have D:=r.length;have h':j<xs.length:=by rw[D];simpa using h
 obtain⟨u,B,F⟩:=r.get (i:=j) (x:=xs.getD j .non) (by simp[h']);have:us.toArray[j]=u:=by
  have h2:j<us.length:=by simpa using h
  have e:us[j]?=some us[j]:=X1 h2;rw[e] at B;simpa using R4 B
 rw[this];exact F
section
variable {X:Cx}{Δ:List (Addr×Obj)}{σ:L2.St}{H:Hp}{s:X9}{z z':Addr}
theorem fE(ab:Inv X Δ σ H s):∀(k:Nat){d:D},ua k d->∀ {A:QG}{x y:V}{u v:X3},Ak k A->Aj z H x d->Aj z' H y d->RelV x u->RelV y v->K7 A s u v true:=by
 intro k;induction k with
 |zero=>
  intro d ac A x y u v M B F G I;cases ac with
  |non=>cases B;cases F;cases G;cases I;exact Pz _
  |bl _ b=>cases B;cases F;cases G;cases I;exact Pz _
  |int _ i=>cases B;cases F;obtain⟨t,rfl⟩:=G;obtain⟨t',rfl⟩:=I;have:=NQ (A:=A) (s:=s) i t i t';simpa using this
  |str _ x=>cases B;cases F;obtain⟨t,rfl⟩:=G;obtain⟨t',rfl⟩:=I;have:=NR (A:=A) (s:=s) x t x t';simpa using this
 |succ k ag=>
  intro d ac A x y u v M B F G I;cases ac with
  |non=>cases B;cases F;cases G;cases I;exact Pz _
  |bl _ b=>cases B;cases F;cases G;cases I;exact Pz _
  |int _ i=>cases B;cases F;obtain⟨t,rfl⟩:=G;obtain⟨t',rfl⟩:=I;have:=NQ (A:=A) (s:=s) i t i t';simpa using this
  |str _ x=>cases B;cases F;obtain⟨t,rfl⟩:=G;obtain⟨t',rfl⟩:=I;have:=NR (A:=A) (s:=s) x t x t';simpa using this
  |@tup _ ds t=>
   cases B with
   |@tup a xs _ ad _ O=>
    cases F with
    |@tup b ys _ ae _ R=>
     cases G;cases I;by_cases S:a=b
     .subst S;exact Pz _
     .obtain⟨its,q1,af,_⟩:=ab.tuple (Ah.of ad);obtain⟨U,W,p2,_⟩:=ab.tuple (Ah.of ae);have J0:=q1.length;have Y:=W.length;have L:=O.length;have Z:=R.length;have aa:=SeqAt.RcAt.tuples (e:=λ_=>true) af p2 M.units0 λj h1 h2=>ag (t.get (i:=j) (by rw[←L,J0];simpa using h1)) M.in1 (O.get (i:=j) (by rw[←L,J0];simpa using h1)) (R.get (i:=j) (by rw[←Z,Y];simpa using h2)) (uO q1 h1) (uO W h2);have e:((RO (min its.toArray.size U.toArray.size)).all (λ_=>true)&&its.toArray.size==U.toArray.size)=true:=by
       have:its.toArray.size=U.toArray.size:=by simp;exact pZ J0 Y L Z
       rw[this];simp
      rw[e] at aa;exact Jc S aa
  |@lst _ ds t=>
   cases B with
   |@lst a xs _ ad _ O=>
    cases F with
    |@lst b ys _ ae _ R=>
     cases G;cases I;by_cases S:a=b
     .subst S;exact Pz _
     .obtain⟨its,q1,af,_⟩:=ab.list (Ad.of ad);obtain⟨U,W,p2,_⟩:=ab.list (Ad.of ae);have J0:=q1.length;have Y:=W.length;have L:=O.length;have Z:=R.length;have hsz:its.toArray.size=U.toArray.size:=by simp;exact pZ J0 Y L Z
      have aa:=MC (e:=λ_=>true) af.isList p2.isList hsz M.units0 λj h1 h2=>ag (t.get (i:=j) (by rw[←L,J0];simpa using h1)) M.in1 (O.get (i:=j) (by rw[←L,J0];simpa using h1)) (R.get (i:=j) (by rw[←Z,Y];simpa using h2)) (uO q1 h1) (uO W h2);have e:(RO its.toArray.size).all (λ_=>true)=true:=by simp
      rw[e] at aa;exact Jc S aa
noncomputable def fF(b:Bool):R2:=λx y H Q=>∃z z' ds,Aj z H x (.lst ds)/\Aj z' H y (.lst ds)/\AZ 4 ds/\Q (.bl b) H
theorem XM(J0:Ak 5 X.A):yt X (Qv .NotEq) (fF false):=by
 intro Δ s σ H x y v u Q B R S h;obtain⟨z,z',ds,D,F,U,q⟩:=h;cases D with
 |@lst a xs _ V _ D=>
  cases F with
  |@lst b ys _ W _ F=>
   cases R;cases S;obtain⟨its,q1,Y,_⟩:=B.list (Ad.of V);obtain⟨Z,L,p2,_⟩:=B.list (Ad.of W);have G:=q1.length;have M:=L.length;have I:=D.length;have O:=F.length;have hsz:its.toArray.size=Z.toArray.size:=by simp;exact pZ G M I O
   show Rj _ _ (Me .NotEq _ _) _ _ _;refine Ja (e:=λ_=>true) Y.isList p2.isList hsz J0.units0 (λj h1 h2=>fE B 4 (U.get (i:=j) (by rw[←I,G];simpa using h1)) J0.in1 (D.get (i:=j) (by rw[←I,G];simpa using h1)) (F.get (i:=j) (by rw[←O,M];simpa using h2)) (uO q1 h1) (uO L h2)) _ _ _ _ ?_;have e:(!(RO its.toArray.size).all (λ_=>true))=false:=by simp
   rw[e];exact⟨.bl _,H,B,J,q⟩
end
end T1
namespace L2
open PySem PySem.Spec PyProof.Rows
variable {σ:St}{H:Hp}
noncomputable def wj:X3->Tok
 |.str _ t=>t
 |_=>0
theorem oK:∀ {us:List X3},(∀u∈us,∃t,u=.str (yw u) t)->us=KC (us.map λu=>(yw u,wj u))
 |[],_=>rfl
 |u::r,h=>by
  obtain⟨t,e⟩:=h u W8;have B:=oK λv D=>h v (T7 _ D);rw[RD];show u::r=.str (yw u) (wj u)::KC (r.map λu=>(yw u,wj u));rw[←B];congr 1;rw[e];rfl
noncomputable def fG(xs:List Str):Str:=xs.headD ⟨#[]⟩
theorem XN{X:Cx}:uF X "str.join" (λx vs H Q=>∃G l xs,x=.str G/\vs=[.ref l]/\Ad X.K H l (xs.map V.str)/\xs.length<=1/\G.length<=100/\(∀y∈xs,y.length<=1000)/\Q (.str (fG xs)) H):=by
 intro Δ s σ H x vs v us Q I J0 L h;obtain⟨G,l,xs,rfl,rfl,M,h1,O,R,q⟩:=h;obtain⟨t,rfl⟩:=J0;obtain⟨u,rfl,S⟩:=L.one;cases S;obtain⟨its,r,pl,_⟩:=I.list M;obtain⟨U,W⟩:=qe r;have Y:=oK W;have D:(its.map λu=>(yw u,wj u)).map (·.1)=xs:=by rw[R6,←U];rfl
 have Z:s.heap.IsList l (KC (its.map λu=>(yw u,wj u))).toArray:=by rw[←Y];exact pl.isList
 refine P1 M6 (ON s G t) MD (Mf _ _) (NF G t l (its.map λu=>(yw u,wj u)) ?_) ⟨Z,?_⟩
 .rw[D];exact JE (B:=1000) R (by have:xs.length*G.length<=1*100:=NS h1 O;omega)
 .generalize its.map (λu=>(yw u,wj u))=ps at D
  match ps,D with
  |[],D=>
   have:xs=[]:=by rw[←D];rfl
   subst this;show (Made.str _).post _ s;exact⟨by show (0:Nat)<=_;exact X7 _,⟨.str _,H,I.tok _,⟨_,J⟩,q⟩⟩
  |[p],D=>
   have:xs=[p.1]:=by rw[←D];rfl
   subst this;exact⟨.str _,H,I,⟨_,J⟩,q⟩
  |p::p2::aa,D=>
   exfalso;rw[←D] at h1;simp at h1
theorem zt{t u:TS}{D:xM}(h:∀U:St->Hp->Prop,(∀σ H,u D σ H->U σ H)->t { D with nx:=U } σ H):xH t u D σ H:=h (u D) λ_ _ q=>q
theorem yT{t:TS}{D:xM}(h:∀B:xM,(∀σ H,D.nx σ H->B.nx σ H)->(∀v H,D.rt v H->B.rt v H)->(∀σ H,D.bk σ H->B.bk σ H)->(∀σ H,D.ct σ H->B.ct σ H)->t B σ H):t D σ H:=h D (λ_ _ q=>q) (λ_ _ q=>q) (λ_ _ q=>q) λ_ _ q=>q
structure XO(G:Prop):Prop where
 out:G
theorem fH{c A G:Prop} [Decidable c] (h:c->XO G->A) (g:G):if c then A else G:=by
 by_cases q:c
 .rw[Qxb q];exact h q ⟨g⟩
 .rw[Qxa q];exact g
theorem qf{t u:TS}{D:xM}{J0:St->Hp->Prop}(h1:∀U:St->Hp->Prop,(∀σ H,J0 σ H->U σ H)->t { D with nx:=U } σ H)(h2:∀σ H,J0 σ H->u D σ H):xH t u D σ H:=h1 (u D) h2
end L2
namespace L2
open PySem PySem.Spec PySem.Calls PyProof.Rows
variable {a c q:Addr}{scope:Scope}{p2 p3 p4 p5 pos:Pos}{P:U2}{w:Rz}{H:Hp}{X:Cx}{K:W.Frag}
variable {prog:U2}{A:QG}{E:X3->X9->Prop}{s:X9}
theorem XQ{B:Addr}{D:Str}{M:Arguments}{pm O:X3}{R:Nat}{S:Pos}{mg U:Str->Option X3}{its:List X3}{x:Str}{t:Tok}{Q:X3->X9->Prop}(ab:s.heap.get? q=some (NL "<lambda>" D M (.Call (.Name "len" S) [.Subscript (.Name "fit" p2) (.Constant (.int 0) R p3) p4] [] p5) scope [] pm B O))(ac:s.heap.CodeRec (.ref B) D)(ad:PJ (I5 "<lambda>" D M (.Call (.Name "len" S) [.Subscript (.Name "fit" p2) (.Constant (.int 0) R p3) p4] [] p5) scope [] pm (.ref B) O) ⟨[.ref a],[]⟩=pure [(("fit":Str),RS a)])(ae:scope.isCoroutine=false)(af:scope.isGenerator=false)(J0:scope.kind=.function)(ag:∀y∈scope.names,y.2≠.cell)(V:scope.names.lookup ("fit":Str)=some .local)(ah:scope.names.lookup ("len":Str)=some .globalImplicit)(ai:s.heap.Ns Rw mg)(aj:mg "len"=none)(ak:s.heap.Ns NO U)(al:U "len"=some (.builtin "len"))(am:s.heap.NoLimit)(ao:A.depth<recursionLimit)(ht:IZ s.heap a its.toArray)(Y:its[0]?=some (.str x t))(aA:its.length<=sizeLine)(ap:x.length<=sizeLine)(h:∀h' tk t',(∀b o,s.heap.get? b=some o->h'.get? b=some o)->Q (.int x.length t') { s with heap:=h',toks:=tk }):Rj (model prog w) A (call (.ref q) [.ref a]) Q E s:=by
 have aq:=v0;refine K4 (W.kla_callFunE ao ab J ae af J ac ?_);rw[ad];refine S3 (Kk ag (λy ar=>?_) (λh₁ as Z=>⟨am.fresh _ Z,?_⟩) J0)
 .have:y=(("fit":Str),RS a):=by simpa using ar
  rw[this];exact V
 have I:∀b o,s.heap.get? b=some o->h₁.get? b=some o:=λb o e=>Z.extBut b o (RE (S6 e)) (W0 _ e);have au:([(("fit":Str),RS a)]:List (Str×X3)).reverse.lookup ("fit":Str)=some (.ref a):=by simp[PD]
 show O0 _ _ (.expr _ (W.envX D scope s.heap.objs.size q (.ref B) [])) _ _;refine W.kla_codeExpr ?_;refine QL (Oo J0 (by show scope.names.lookup _=_;exact ah) (Mj (ai.keeps I) aj (ak.keeps I) al ?_) (by decide));refine Nh ?_ rfl rfl;show Rj _ _ (spliced ((false,eval _ _)::QS p5 (T2 [] _))) _ _ _;refine Px (MR (K1 (Nn J0 (by show scope.names.lookup _=_;exact V) as au ?_) (by decide)));refine K2 ?_;have aa:IZ h₁ a its.toArray:=by
  obtain⟨av,e,r⟩:=ht;exact⟨av,I _ _ e,r⟩
 have aw:0<its.length:=by
  cases its with
  |nil=>cases Y
  |cons _ _=>simp
 have ax:IF 0 its.toArray.size=some 0:=by
  have:=JS (i:=0) (n:=its.toArray.size) (RC _) (by simpa using aw);simpa using this
 have ay:∀tk,Rj (model prog w) (A.deeper (W.envX D scope s.heap.objs.size q (.ref B) [])) (spliced (QS p5 (T2 [] (W.envX D scope s.heap.objs.size q (.ref B) [])))) (λvs az=>Rj (model prog w) (A.deeper (W.envX D scope s.heap.objs.size q (.ref B) [])) (call (.builtin "len") (.str x t::vs)) (λv s'=>(λ(r:MP) s'=>match r with|.ok (.ret v)=>Q v s'|.ok _=>False|.error e=>E e s') (.ok (.ret v)) s') (λG s'=>Rj (model prog w) (A.deeper (W.envX D scope s.heap.objs.size q (.ref B) [])) (leaving (W.envX D scope s.heap.objs.size q (.ref B) []) G) (λ_ F=>(λ(r:MP) s'=>match r with|.ok (.ret v)=>Q v s'|.ok _=>False|.error e=>E e s') (.error G) F) (λL F=>(λ(r:MP) s'=>match r with|.ok (.ret v)=>Q v s'|.ok _=>False|.error e=>E e s') (.error L) F) s') az)
   (λG s'=>Rj (model prog w) (A.deeper (W.envX D scope s.heap.objs.size q (.ref B) [])) (leaving (W.envX D scope s.heap.objs.size q (.ref B) []) G) (λ_ F=>(λ(r:MP) s'=>match r with|.ok (.ret v)=>Q v s'|.ok _=>False|.error e=>E e s') (.error G) F) (λL F=>(λ(r:MP) s'=>match r with|.ok (.ret v)=>Q v s'|.ok _=>False|.error e=>E e s') (.error L) F) s') { s with heap:=h₁,toks:=tk }:=λtk=>by
  refine Of (len_str (by exact i7 ap aq) ?_);exact h h₁ _ _ I
 exact O6 (x:=.str x t) aa.typeIs K6.lookup (getItem_tuple (j:=0) (Q:=λr s'=>r=.str x t/\_) aa (RC _) (RC _) ax (by simpa using Y) ⟨J,ay _⟩) rfl
noncomputable def ym(q:Addr)(H H':Hp):Prop:=∀b o,b≠q->H b=some o->H' b=some o
noncomputable def tT(c:Addr)(q:Str):HO:=.ext λh=>h.CodeRec (.ref c) q
noncomputable def LamT(P:Addr)(D cl:Nat)(q:Str)(H:Hp):Prop:=
 H P=some (.tbl #[])∨∃B,H P=some (.tbl #[Pw D,Pw cl,.ref B])/\H B=some (tT B q)
theorem LamT.tbl{P:Addr}{B cl:Nat}{q:Str}{H:Hp}(h:LamT P B cl q H):∃ps,H P=some (.tbl ps):=by
 rcases h with h|⟨D,h,_⟩
 .exact⟨_,h⟩
 .exact⟨_,h⟩
theorem XR{h:Heap}{q:Str}(D:h.CodeRec (.ref c) q):Al P w H h c (tT c q):=by
 refine⟨D,?_,λh1 h2 e k=>?_⟩
 .obtain⟨F,oc,vs,t,e,B,_⟩:=D;cases e;exact⟨oc,B⟩
 .obtain⟨F,oc,vs,t,e,B,r⟩:=e;cases e;exact⟨c,oc,vs,t,J,k _ B,r⟩
variable {Δ:List (Addr×Obj)}{σ:St}
theorem XS{P:Addr}{nm q:Str}{J0:Arguments}{L:R8}{ah:Nat}{aa:X3->X9->Prop}(D:Inv X Δ σ H s)(G:LamT P pos.line pos.col q H)(ab:K8 scope X.env=pure [])(ac:X.env.code=.ref c)(ai:OO X.K c P=true)(aj:X.base.BuiltinsAt X.mg P)(h:∀f B I s' H1,Inv X Δ σ H1 s'->ym P H H1->LamT P pos.line pos.col q H1->s'.heap.get? f=some (NL nm q J0 L scope [] ((X.mg "__name__").getD .none) B I)->s'.heap.CodeRec (.ref B) q->f≠X.env.locals->B≠X.env.locals->aa (.ref f) s') :
  Rj (model X.prog X.w) X.A (makeFunction nm q J0 (.expr L) scope X.env [] [] [] pos ah) aa E s:=by
 have C:=W.codeHd_of_K D.kIn ai;have U:=D.mod.glob.keeps D.bk;have F:=aj.keeps D.bk;have V:=D.lt;obtain⟨aw,ax,_⟩:=id D.loc;rcases G with G|⟨B,G,S⟩
 .have M:s.heap.get? P=some (Kl #[]):=D.hok P _ G;have ak:P<s.heap.objs.size:=S6 M;have al:Rw≠P:=λz=>by
   obtain⟨o,es,ep,e,hd,_⟩:=U;rw[z,M] at e;cases e;cases hd
  have am:X.env.locals≠P:=λz=>by rw[←z,D.free] at G;cases G
  refine R7 (n:=X.t0) D.tk ?_;refine W.kla_makeFunction (mg:=X.mg) ab D.ok.glob U ac C M trivial rfl al F λB I h' tk ad O ao Y ap R=>?_;have R:X.t0<=tk:=R;have lt1:∀b u,H b=some u->b<s.heap.objs.size:=λb u e=>(D.hok b u e).lt;have aq:∀b u,H b=some u->b≠B:=λb u e=>RE (Rt (lt1 b u e) O);have ar:B≠P:=(RE (Rt ak O)).symm;have k:∀b o,b≠P->s.heap.get? b=some o->(h'.push (NL nm q J0 L scope [] ((X.mg "__name__").getD .none) B I)).get? b=some o:=λb o F e=>W0 _ (ad b o F e);have ae:(h'.push (NL nm q J0 L scope [] ((X.mg "__name__").getD .none) B I)).get? P=some (Kl #[Pw pos.line,Pw pos.col,.ref B]):=W0 _ (by simpa using ap);have af:(h'.push (NL nm q J0 L scope [] ((X.mg "__name__").getD .none) B I)).CodeRec (.ref B) q:=by
   obtain⟨as,oc,vs,t,e,Z,r⟩:=Y;cases e;exact⟨B,oc,vs,t,J,W0 _ Z,r⟩
  have same:∀b u,b≠P->H b=some u->c' (c' H B (tT B q)) P (.tbl #[Pw pos.line,Pw pos.col,.ref B]) b=some u:=λb u F e=>by
   rw[zh F,zh (aq b u e)];exact e
  refine h h'.objs.size B I _ (c' (c' H B (tT B q)) P (.tbl #[Pw pos.line,Pw pos.col,.ref B])) (D.step (g':=s.gens) (d':=s.drawn) (ch:=[]) (λ_ z=>nomatch z) (λb o _ _ _ e n=>?_) (λb o _ _ _ e n=>⟨o.slots,?_⟩) (λb o _ e n=>?_) (λb o _ e=>?_) (λb xs e=>?_) (λb o u e=>?_) (λb ps e=>?_) (λay au=>?_) (λb u e=>?_) D.bare) (λb u F e=>same b u F e) (.inr ⟨B,zd,by rw[zh ar,zd]⟩) (Ru _ J) af ?_ ?_
  .exact k b o (zi G n).symm e
  .exact k b o (zi G n).symm e
  .rw[zh (zi G n).symm,zh (RE (Rt (S6 e) O))];exact n
  .by_cases F:b=P
   .exact⟨_,by rw[F];exact ae⟩
   .exact⟨o,k b o F e⟩
  .exact same b _ (zj e G) e
  .exact same b _ (zj e G) e
  .by_cases F:b=P
   .subst F;rw[G] at e;cases e;exact⟨#[Pw pos.line,Pw pos.col,.ref B],by rw[zd];simp⟩
   .exact⟨#[],by rw[same b _ F e];simp⟩
  .exact(au.extBut ad am).push _
  .by_cases F:b=P
   .subst F;rw[zd] at e;cases e;exact ae
   .rw[zh F] at e;by_cases ag:b=B
    .subst ag;rw[zd] at e;cases e;exact XR af
    .rw[zh ag] at e;refine(D.hok b u e).stay (λd v hd z=>k d v ?_ z) (λd z=>same d _ (zj z G) z) λd _ z=>same d _ (zj z G) z;rcases hd with hd|hd
     .rw[hd];exact F
     .exact zj hd G (by intro y;cases y)
  .exact(RE (Rt V (S5 O (RL ao)))).symm
  .exact(RE (Rt V O)).symm
 .have M:s.heap.get? P=some (Kl #[Pw pos.line,Pw pos.col,.ref B]):=D.hok P _ G;have Y:s.heap.CodeRec (.ref B) q:=(D.hok B _ S).1;refine R7 (n:=X.t0) D.tk ?_;refine W.kla_makeFunctionHit (mg:=X.mg) ab D.ok.glob U ac C M (by simp[TriplesOk,Pw]) (cv:=.ref B) (by simp[codeAmong,Pw]) F λI h' tk av hsz R=>?_;have R:X.t0<=tk:=R;have k:∀b o,s.heap.get? b=some o->(h'.push (NL nm q J0 L scope [] ((X.mg "__name__").getD .none) B I)).get? b=some o:=λb o e=>W0 _ (av b o e);refine h h'.objs.size B I _ H (D.kept k) (λ_ _ _ e=>e) (.inr ⟨B,G,S⟩) (Ru _ J) ?_ (RE (Rt V hsz)).symm (λz=>by rw[z,D.free] at S;cases S);obtain⟨as,oc,vs,t,e,Z,r⟩:=Y;cases e;exact⟨B,oc,vs,t,J,k _ _ Z,r⟩
noncomputable def XT(P:Addr)(B cl:Nat)(q:Str):List V->Hp->VK->Prop:=λvs H Q=>∃(l:Addr) (xs:List V) (ms:Nat->Str),vs=[.ref l]/\H l=some (.lst xs)/\0<xs.length/\(∀i,i<xs.length->∃a ys,xs[i]?=some (.ref a)/\H a=some (.tup (.str (ms i)::ys))/\(ms i).length<=1000)/\LamT P B cl q H /\
 ∀H1 i v,ym P H H1->LamT P B cl q H1->xs[i]?=some v->(∀j,j<xs.length->(ms j).length<=(ms i).length/\(j<i->(ms j).length<(ms i).length))->Q v H1
theorem XU{G:Addr}{R:Str}{ab:Arguments}{pm ac:X3}{ad:Nat}{ae:Pos}{l:Addr}{xs:List V}{ms:Nat->Str}{Q:VK}(B:Inv X Δ σ H s)(ak:X.calm=true)(al:X.A.in1.depth<recursionLimit)(am:X.mg "len"=none)(ao:s.heap.get? q=some (NL "<lambda>" R ab (.Call (.Name "len" ae) [.Subscript (.Name "fit" p2) (.Constant (.int 0) ad p3) p4] [] p5) scope [] pm G ac))(ap:s.heap.CodeRec (.ref G) R)(aq:q≠X.env.locals)(ar:G≠X.env.locals)(as:∀a,PJ (I5 "<lambda>" R ab (.Call (.Name "len" ae) [.Subscript (.Name "fit" p2) (.Constant (.int 0) ad p3) p4] [] p5) scope [] pm (.ref G) ac) ⟨[.ref a],[]⟩=pure [(("fit":Str),RS a)])(au:scope.isCoroutine=false)(av:scope.isGenerator=false)(aw:scope.kind=.function)(ax:∀y∈scope.names,y.2≠.cell)(ay:scope.names.lookup ("fit":Str)=some .local)(az:scope.names.lookup ("len":Str)=some .globalImplicit)(S:H l=some (.lst xs))(aA:0<xs.length)(af:∀i,i<xs.length->∃a ys,xs[i]?=some (.ref a)/\H a=some (.tup (.str (ms i)::ys))/\(ms i).length<=1000)(h:∀i v,xs[i]?=some v->(∀j,j<xs.length->(ms j).length<=(ms i).length/\(j<i->(ms j).length<(ms i).length))->Q v H) :
  Rj (model X.prog X.w) X.A (call (.builtin "max") [.ref l] [(YP "key",.ref q)]) (EP X Δ σ Q) E s:=by
 obtain⟨aR,its,aB,U,aC⟩:=B.hok l _ S;obtain⟨m,ag,_⟩:=id B.loc;have L:xs.length=its.length:=U.length;have aD:l≠X.env.locals:=λz=>by rw[z,B.free] at S;cases S
 have aS:(1000:Nat)<=sizeLine:=by rw[Qo];decide
 have aE:∀b o,X.base.get? b=some o->b≠X.env.locals:=λb o e=>RE (Rt (S6 e) (S5 B.ok.bsz B.ok.above));obtain⟨aT,aF,aG⟩:=B.mod.blt;refine R7 (n:=X.t0) B.tk ?_;refine kmk_max (vs:=its) (λi=>((ms i).length:Int)) (B.ok.hd ak) (Att.fr_all ag) (fz X.env.locals) (λh1 F N=>?_) (zU aA (RH L)) (λi v I h1 tk aU F N=>?_) (λi v h' aH I aI F N=>?_)
 .exact⟨_,oJ N _ _ aD aC,J,aB,J⟩
 .have hi:i<its.length:=(W5.mp I).1;obtain⟨a,ys,M,O,ah⟩:=af i (zU hi L);have Y:RelV (.ref a) v:=by
   have:=U.get M;obtain⟨u,J0,r⟩:=this;rw[I] at J0;cases J0;exact r
  cases Y;obtain⟨ai,aV,rt,ht⟩:=B.hok a _ O;have aJ:a≠X.env.locals:=λz=>by rw[z,B.free] at O;cases O
  have aK:News (Att.noObjs s.heap) X.env.locals h1 (Att.ledger s.heap X.env.locals X.env.locals):=λp D=>N p (RW _ D);have k:=oJ aK;have Z:∀b o,X.base.get? b=some o->h1.get? b=some o:=λb o e=>k b o (aE b o e) (B.bk b o e);cases rt with
  |cons aL rt=>
   rename_i u us;obtain⟨t0,aM⟩:=aL;subst aM;refine XQ (s:={ s with heap:=h1,toks:=tk }) (x:=ms i) (k q _ aq ao) ?_ (as a) au av aw ax ay az (B.mod.glob.keeps Z) am (aF.keeps Z) ((aG "len" (by decide)).trans J) (B.mod.nolimit.keeps Z) al (its:=.str (ms i) t0::us) ?_ rfl ?_ (zC ah) (λh2 aW aX aa=>?_)
   .obtain⟨aY,oc,vs,t,e,aN,r⟩:=ap;cases e;exact⟨G,oc,vs,t,J,k _ _ ar aN,r⟩
   .obtain⟨aO,aP,r⟩:=ht;exact⟨aO,k _ _ aJ aP,r⟩
   .have:=rt.length;simp at ai ⊢;exact pW (RH this) (R5 ai)
   .refine IM ⟨F.ns.keeps aa,λb o e=>aa b o (F.keep b o e),F.above⟩ (λp D=>⟨aa _ _ (N p D).1,(N p D).2⟩) λp D=>D
 .have hi:i<its.length:=(W5.mp I).1;obtain⟨a,ys,M,O,ah⟩:=af i (zU hi L);have Y:RelV (.ref a) v:=by
   obtain⟨u,J0,r⟩:=U.get M;rw[I] at J0;cases J0;exact r
  intro aj;have aj:X.t0<=aH:=aj;refine⟨.ref a,H,B.lib ag F N,Y,h i _ M λj aQ=>?_⟩;have:=aI j (zU aQ (RH L));exact⟨by exact Jg.1 this.1,λq=>by have:=this.2 q;exact Qs.1 this⟩
theorem XV{e:R8}{te:TE}{P:Addr}{B:Arguments}{J0:Nat}{p L p2 p3 p4 p5 D V pos:Pos}(Y:X.calm=true)(Z:X.A.in1.depth<recursionLimit)(aa:X.mg "max"=none)(ab:X.mg "len"=none)(ac:X.env.code=.ref c)(ad:OO X.K c P=true)(ae:X.base.BuiltinsAt X.mg P)(af:PE X e te)(ag:∀a F pm G,PJ (I5 "<lambda>" (X.env.qual++"<lambda>") B (.Call (.Name "len" L) [.Subscript (.Name "fit" p2) (.Constant (.int 0) J0 p3) p4] [] p5) scope [] pm (.ref F) G) ⟨[.ref a],[]⟩=pure [(("fit":Str),RS a)])(ah:Gl X "max":=by rfl)(ai:defaultsOf B X.env=([],[]):=by rfl)(aj:K8 scope X.env=pure []:=by rfl)(ak:scope.isCoroutine=false:=by rfl)(al:scope.isGenerator=false:=by rfl)(am:scope.kind=.function:=by rfl)(ao:∀y∈scope.names,y.2≠.cell:=by decide)(ap:scope.names.lookup ("fit":Str)=some .local:=by rfl)(aq:scope.names.lookup ("len":Str)=some .globalImplicit:=by rfl)(h1:T2 [e] X.env=(false,eval e X.env)::T2 [] X.env:=by rfl)(h2:QS pos (T2 [e] X.env)=(false,eval e X.env)::QS pos (T2 [] X.env):=by rfl)(ar:(QS pos (T2 [e] X.env)).any (·.1)=false:=by rfl) :
  PE X (.Call (.Name "max" p) [e] [⟨some "key",.Lambda B (.Call (.Name "len" L) [.Subscript (.Name "fit" p2) (.Constant (.int 0) J0 p3) p4] [] p5) scope D,V⟩] pos) (tO (XT P D.line D.col (X.env.qual++"<lambda>")) (xv te wO)):=by
 intro Δ s σ H Q M h;refine QL (wz M ah aa (u:=.builtin "max") rfl ?_ (by decide) (by decide));refine JR (zo ((zc af zf h1) pos Δ s σ H _ M h) λus aI as=>?_) h2 ar;obtain⟨vs,H1,au,r,q⟩:=as;obtain⟨l,xs,ms,rfl,O,av,aw,R,q⟩:=q;obtain⟨u,rfl,ax⟩:=wD r;cases ax;refine J9 (W.kla_eval ai (XS au R aj ac ad ae λf F G aJ H2 ay I az aA aB aC aD=>kws_nil ?_));obtain⟨ps,S⟩:=R.tbl;refine XU ay Y Z ab aA aB aC aD (λa=>ag a F _ G) ak al am ao ap aq (I _ _ (zj O S) O) av (λi hi=>?_) (λi v aE aF=>q H2 i v I az aE aF);obtain⟨a,ys,aG,U,aH⟩:=aw i hi;exact⟨a,ys,aG,I _ _ (zj U S) U,aH⟩
theorem Inv.turnedL{Δ:List (Addr×Obj)}{σ:St}{s:X9}{h':Heap}{t':Nat}{ch:List Addr}(D:Inv X Δ σ H s)(k:∀b o,b∉ch->s.heap.get? b=some o->h'.get? b=some o)(F:∀b∈ch,xN X Δ H b)(ht:X.t0<=t':=by first|assumption|exact Inv.tk (by assumption)|(have q:=Inv.tk (by assumption);omega)) :
  Inv X Δ σ H { s with heap:=h',toks:=t' }:=by
 have G:∀b u,H b=some u->b∉ch:=λb u e z=>by rw[(F b z).1] at e;cases e
 refine D.step (g':=s.gens) (d':=s.drawn) (ch:=ch) (λb I=>?_) (λb o _ _ B e _=>k b o B e) (λb o _ _ B e _=>⟨o.slots,k b o B e⟩) (λ_ _ _ _ n=>n)
  (λb o B e=>⟨o,k b o B e⟩) (λ_ _ e=>e) (λ_ _ _ e=>e) (λb ps e=>⟨#[],by rw[e];simp⟩) (λm J0=>?_) (λb u e=>?_) D.bare
 .obtain⟨_,L,_,h1,h2,M⟩:=F b I;exact⟨h1,L,h2,M⟩
 .obtain⟨o,es,ep,O,r⟩:=J0;exact⟨o,es,ep,k _ o (λz=>(F _ z).2.1 rfl) O,r⟩
 .refine(D.hok b u e).stay (λc v B q=>k c v ?_ q) (λ_ q=>q) λ_ _ q=>q;rcases B with z|z
  .rw[z];exact G b u e
  .exact G c _ z
noncomputable def kx(K:W.Frag)(a b:Addr):It:=
 ⟨λi H=>(∃xs x,Ad K H a xs/\xs[i]?=some x)/\∃ys y,Ad K H b ys/\ys[i]?=some y,
 λi H v H'=>∃p x y,v=.ref p/\H p=none/\H'=c' H p (.tup [x,y])/\(∀xs,Ad K H a xs->xs[i]?=some x)/\∀ys,Ad K H b ys->ys[i]?=some y,
 λi H=>(∃xs,Ad K H a xs)/\(∃ys,Ad K H b ys)/\((∃xs,Ad K H a xs/\xs.length<=i)∨∃ys,Ad K H b ys/\ys.length<=i)⟩
noncomputable def XW(z TI TO B D F G:Addr)(i:Nat)(h:Heap):Prop:=IsZip h z TI TO .none/\IsPair h TI (.ref B) (.ref D)/\(∃a b,IsPair h TO a b)/\h.IsListIter B F i/\h.IsListIter D G i
theorem XX{ax:List R8}{k:Nat}{z TI TO I J0 ad ae:Addr}(D:ZipApart z TI TO I J0 ad ae):vN P w K (.Tuple ax k pos) (kx K ad ae) [z,TI,TO,I,J0] z (XW z TI TO I J0 ad ae) where
 mem:=by simp
 obj:=λi h st b B=>by
  obtain⟨L,G,⟨a,aa,M⟩,⟨a0,ay,a1,az⟩,⟨a2,aA,a3,aB⟩⟩:=st;simp only[S7,QD,or_false] at B;rcases B with rfl|rfl|rfl|rfl|rfl
  .exact⟨_,L,λv q=>by cases q⟩
  .exact⟨_,G,λv q=>by cases q⟩
  .exact⟨_,M,λv q=>by cases q⟩
  .exact⟨_,ay,λv q=>by rw[az] at q;cases q⟩
  .exact⟨_,aA,λv q=>by rw[aB] at q;cases q⟩
 keep:=λi h h' st k=>by
  obtain⟨L,G,⟨a,aa,M⟩,h1,h2⟩:=st;exact⟨k z (by simp) _ L,k TI (by simp) _ G,⟨a,aa,k TO (by simp) _ M⟩,h1.at λo e=>k I (by simp) o e,h2.at λo e=>k J0 (by simp) o e⟩
 item:=by
  intro X af hw ag am i Δ s σ H E F ah st ai;subst af hw ag;obtain⟨⟨xs,x,V,ao⟩,ys,y,Y,ap⟩:=ai;obtain⟨L,G,⟨a,aa,M⟩,h1,h2⟩:=st;obtain⟨aq,aj,ak,aC⟩:=F.list V;obtain⟨ar,al,p2,aD⟩:=F.list Y;obtain⟨R,aE,aF⟩:=aj.get ao;obtain⟨S,aG,aH⟩:=al.get ap;refine wpAny_pyNext_zip_item D L G M h1 h2 ak.isList p2.isList (x:=R) (y:=S) (by simpa using aE) (by simpa using aG) λh' aI aJ aK aL aM a4 ab=>?_;refine⟨_,J,wpAny_letOwnedTupleGo_zip aI λas aN U=>?_⟩;have aO:H s.heap.objs.size=none:=F.hok.fresh (X2 _);have aP:Inv X Δ σ (c' H s.heap.objs.size (.tup [x,y])) { s with heap:=s.heap.push { cls:=.type "tuple",data:=.seq #[R,S] },toks:=s.toks }:=
   F.laid (λb o e=>W0 _ e) (X2 _) ⟨by simp only[RN,M7];rw[Qo];decide,[R,S],.cons aF (.cons aH .nil),⟨_,Ru _ J,J,_,J⟩⟩
  have Z:∀ {c o},s.heap.get? c=some o->c≠s.heap.objs.size:=λe=>RE (S6 e);have au:∀b∈[z,TI,TO,I,J0],b≠s.heap.objs.size:=λb B=>by
   simp only[S7,QD,or_false] at B;rcases B with rfl|rfl|rfl|rfl|rfl
   .exact Z L
   .exact Z G
   .exact Z M
   .obtain⟨_,e,_⟩:=h1;exact Z e
   .obtain⟨_,e,_⟩:=h2;exact Z e
  have av:∀b∈[z,TI,TO,I,J0],xN X Δ (c' H s.heap.objs.size (.tup [x,y])) b:=λb B=>by
   obtain⟨aQ,aR⟩:=ah b B;exact⟨by rw[zh (au b B)];exact aQ,aR⟩
  have aS:as.get? s.heap.objs.size=some { cls:=.type "tuple",data:=.seq #[R,S] }:=U.extBut _ _ (au z (by simp)).symm aM;have aT:=
   Inv.turnedL (h':=as) (t':=s.toks) (ch:=[z,TI,TO,I,J0]) aP (λb o B e=>by
    by_cases aw:b=s.heap.objs.size
    .subst aw;have ac:(s.heap.push { cls:=.type "tuple",data:=.seq #[R,S] }).get? s.heap.objs.size=some o:=e;rw[Ru _ rfl] at ac;cases ac;exact aS
    .have aU:s.heap.get? b=some o:=by
      have ac:(s.heap.push { cls:=.type "tuple",data:=.seq #[R,S] }).get? b=some o:=e
      rwa [Heap.get?_push_ne _ _ _ aw] at ac
     simp only[S7,QD,or_false,not_or] at B;exact U.extBut _ _ B.1 (ab b o B.1 B.2.2.1 B.2.2.2.1 B.2.2.2.2 aU)) av
  have aV:=U.extBut _ _ D.TIz (ab _ _ D.TIz D.TITO D.TIi1 D.TIi2 G);exact⟨.ref s.heap.objs.size,_,aT,J,⟨_,x,y,J,aO,J,λzs O=>by rw[F.list_inj O V];exact ao,λzs O=>by rw[F.list_inj O Y];exact ap⟩,
   ⟨aN,aV,⟨_,_,U.extBut _ _ D.TOz aJ⟩,aK.extBut U.extBut D.i1z,aL.extBut U.extBut D.i2z⟩,λb B=>(av b B).1⟩
 done:=by
  intro X af hw ag am i Δ s σ H E F ah st ai;subst af hw ag;obtain⟨L,G,⟨a,aa,M⟩,h1,h2⟩:=st;obtain⟨⟨xs,V⟩,⟨ys,Y⟩,aW⟩:=ai;obtain⟨aq,aj,ak,aC⟩:=F.list V;obtain⟨ar,al,p2,aD⟩:=F.list Y;have aX:=aj.length;have aY:=al.length;have aZ:aq.toArray[i]?=none∨ar.toArray[i]?=none:=by
   rcases aW with⟨zs,O,h⟩|⟨zs,O,h⟩
   .rw[F.list_inj O V] at h;exact .inl (by simp;exact xq (RH aX) h)
   .rw[F.list_inj O Y] at h;exact .inr (by simp;exact xq (RH aY) h)
  exact wpAny_pyNext_zip_end (F.ok.hd am) D L G M h1 h2 ak.isList p2.isList aZ λh' ab=>⟨J,F.turnedL (t':=s.toks) (ch:=[z,TI,TO,I,J0]) (λb o B e=>by
   simp only[S7,QD,or_false,not_or] at B;exact ab b o B.1 B.2.2.1 B.2.2.2.1 B.2.2.2.2 e) ah⟩
 self:=λ_ _ _ _ _ st h=>JF st.1 h
noncomputable def XY(K:W.Frag)(ta:TA):TI:=λσ H R=>ta σ H λvs H1=>∃B D,vs=[.ref B,.ref D]/\(∃xs,Ad K H1 B xs)/\(∃ys,Ad K H1 D ys)/\R (kx K B D) H1
theorem XZ{U:List R8}{k:Nat}{V:Pos}{a b:R8}{ta:TA}{p pos:Pos}(W:Gl X "zip")(Y:X.mg "zip"=none)(Z:PA X [a,b] ta)(aa:T2 [a,b] X.env=[(false,eval a X.env),(false,eval b X.env)]:=by rfl)(G:T2 [b] X.env=[(false,eval b X.env)]:=by rfl) :
  PI X (.Tuple U k V) (.Call (.Name "zip" p) [a,b] [] pos) (XY X.K ta):=by
 intro Δ s σ H R I h;refine Call_ (wz I W Y boot_zip (QF (zo (Z pos Δ s σ H _ I h) λus B ab=>?_) (by rw[aa,G]) (by rw[G];rfl)));obtain⟨vs,H1,D,ac,q1⟩:=ab;obtain⟨ad,ae,e,⟨xs,af⟩,⟨ys,ag⟩,q⟩:=q1;subst e;cases ac with
 |cons r F=>
  cases F with
  |cons ah F=>
   cases F;cases r;cases ah;obtain⟨aq,ar,J0,as⟩:=D.list af;obtain⟨au,av,p2,aw⟩:=D.list ag;have lt1:ad<B.heap.objs.size:=by obtain⟨_,e,_⟩:=J0.isList;exact S6 e
   have ai:ae<B.heap.objs.size:=by obtain⟨_,e,_⟩:=p2.isList;exact S6 e
   refine call_zip_2 J0.isList p2.isList λh' L aj ak al am hsz ao=>?_;have ap:Inv X Δ σ H1 { B with heap:=h' }:=D.kept (t':=B.toks) ao;refine JF L ⟨_,_,_,_,H1,J,ap,XX (zipApart_new lt1 ai),⟨L,aj,⟨_,_,ak⟩,al,am⟩,λb M=>?_,q⟩;have O:B.heap.objs.size<=b:=by
    simp only[S7,QD,or_false] at M;rcases M with e|e|e|e|e<;>rw[e]<;>first|exact X2 _|exact Ov _ _
   have S:=D.hok.fresh (a:=b) O;exact⟨S,(D.fpOk O S).2⟩
theorem X0{g:TG}{tt:TT}{G:TR}{Qe:St->Hp->Prop}{I:St}{H0:Hp}{b:Addr}{xs ys:List V}(W:Nat->St->Hp->Prop)(L:W 0 I H0)(M:xs.length=ys.length)(O:∀i σ H,W i σ H->Ad K H a xs/\Ad K H b ys)(R:∀σ H,W xs.length σ H->Qe σ H)(turn:∀i σ H p x y,W i σ H->xs[i]?=some x->ys[i]?=some y->H p=none->g (.ref p) σ (c' H p (.tup [x,y])) λD H2=>tt D H2 λb J0=>if b=true then G D J0 (W (i+1)) else W (i+1) D J0):vw (kx K a b) g tt G Qe I H0:=by
 refine⟨λi m σ H=>m=xs.length-i/\i<=xs.length/\W i σ H,⟨_,J,X7 _,L⟩,?_⟩;rintro i m σ H ⟨rfl,hi,hw⟩;obtain⟨q1,F⟩:=O i σ H hw;by_cases B:i<xs.length
 .refine .inr ⟨⟨⟨xs,xs[i],q1,by simp[B]⟩,ys,ys[i]'(zU B (RH M)),F,by simp⟩,W (i+1),λσ' H' q=>⟨xs.length-(i+1),by exact vK B,J,by exact B,q⟩,?_⟩;rintro x H' ⟨p,S,U,rfl,Y,rfl,Z,aa⟩;exact turn i σ H p S U hw (Z _ q1) (aa _ F) Y
 .have e:i=xs.length:=RU hi (Qt.1 B);subst e;exact .inl ⟨⟨⟨_,q1⟩,⟨_,F⟩,.inl ⟨_,q1,X2 _⟩⟩,R σ H hw⟩
end L2
namespace L2
open PySem PySem.Spec PyProof.Rows
variable {X:Cx}
theorem X8{e:R8}{te:TE}{F:Nat}{p p2 p3 G I pos:Pos}(J0:X.mg "sorted"=none)(L:X.mg "len"=none)(M:PE X e te)(O:Gl X "sorted":=by rfl)(R:Gl X "len":=by rfl)(h1:T2 [e] X.env=(false,eval e X.env)::T2 [] X.env:=by rfl)(h2:QS pos (T2 [e] X.env)=(false,eval e X.env)::QS pos (T2 [] X.env):=by rfl)(S:(QS pos (T2 [e] X.env)).any (·.1)=false:=by rfl) :
  PE X (.Call (.Name "sorted" p) [e] [⟨some "key",.Name "len" p2,G⟩,⟨some "reverse",.Constant (.bool true) F p3,I⟩] pos) (tO (ku X.K true) (xv te wO)):=by
 intro Δ s σ H Q B h;refine QL (wz B O J0 T1.b_sorted ?_ (by decide) (by decide));refine JR (zo ((zc M zf h1) pos Δ s σ H _ B h) λus U V=>?_) h2 S;obtain⟨vs,H1,D,r,q⟩:=V;refine J9 (wz D R L T1.b_len (J9 (zo (wy Δ U σ H1 (λv H'=>v=.bl true/\H'=H1) D ⟨J,J⟩) λv ac W=>?_)) (by decide) (by decide));obtain⟨x,H2,Y,Z,aa,ab⟩:=W;subst aa ab;cases Z;exact kws_nil (fC Y r q (λl=>ksk_s2 _ _ _) (λx=>ksk_l2 _ _ _) (λx=>ksk_t5 "len" x true))
theorem Wa(I:X.calm=true):xY X (.builtin "sum") (λxs H Q=>∃(p:Addr) (B:List Int),xs=[.ref p]/\Ad X.K H p (B.map V.int)/\Q (.int B.sum) H):=by
 intro Δ s σ H xs us Q D r h;obtain⟨p,B,rfl,J0,q⟩:=h;obtain⟨u,rfl,L⟩:=wD r;cases L;obtain⟨its,M,pl,S⟩:=D.list J0;have hi:Kx its B:=YE M;obtain⟨zs,O⟩:=hi.allInts.items;have F:numsOf its.toArray.toList=B:=by rw[show its.toArray.toList=its from rfl,hi.numsOf]
 have G:=pl.isList;rw[O] at G F;rw[nums_intItems] at F;refine R7 (n:=X.t0) D.tk ?_;refine sum_intListG (D.ok.hd I) G λh' tk t' R=>?_;rw[preSum_eq,Q9 (by simp),F];intro ht;exact⟨.int _,H,D.kept (t':=tk) R,⟨_,J⟩,q⟩
noncomputable def Wb:V->V->Hp->VK->Prop:=λx y H Q=>∃i j,x=.str i/\y=.str j/\i.length+j.length<=sizeLine/\Q (.str (i++j)) H
theorem Wc:lU X .Add Wb:=by
 rintro Δ s σ H x y u v Q B D F ⟨i,j,rfl,rfl,G,q⟩;obtain⟨t,rfl⟩:=D;obtain⟨t',rfl⟩:=F;exact R7 (n:=X.t0) B.tk (iadd_str (λt' tk ht=>⟨.str (i++j),H,B.tok _ ht,⟨_,J⟩,q⟩) G)
end L2
namespace T1
open PySem L2 PyProof.Rows
section
variable {X:Cx}{Δ:List (Addr×Obj)}{σ:L2.St}{H:Hp}{s:X9}{z z':Addr}
end
end T1
namespace L2
open PySem PySem.Spec PyProof.Rows
variable {o:Option V}{P:U2}{w:Rz}{H H':Hp}{xs:List (List zr×Addr×X3)}{a:Addr}{Q:X3->X9->Prop}{h':Heap}{s:X9}{pos:Pos}{X:Cx}{Δ:List (Addr×Obj)}{σ:St}
section
variable {κ:Type} [DecidableEq κ]
noncomputable def yN(a':List (κ×V))(k:κ):Option V:=(a'.find? λB=>decide (B.1=k)).map (·.2)
noncomputable def yP(a':List (κ×V))(k:κ)(v:V):List (κ×V):=
 if (a'.any λB=>decide (B.1=k))=true then a'.map (λB=>if B.1=k then (B.1,v) else B) else a'++[(k,v)]
theorem Wd{k:κ}:yN ([]:List (κ×V)) k=none:=rfl
theorem vx{p:κ×V}{r:List (κ×V)}{k:κ}(e:p.1=k):yN (p::r) k=some p.2:=by simp[yN,QP,e]
theorem vy{p:κ×V}{r:List (κ×V)}{k:κ}(e:¬p.1=k):yN (p::r) k=yN r k:=by simp[yN,QP,e]
theorem tU(k:κ):∀a':List (κ×V),(a'.any λB=>decide (B.1=k))=(yN a' k).isSome
 |[]=>rfl
 |p::r=>by
  rw[Nm];by_cases e:p.1=k
  .simp only[vx e,Qxd e,Bool.true_or,Option.isSome_some]
  .rw[vy e,decide_eq_false e,Bool.false_or];exact tU k r
theorem fI(k j:κ)(y:V):∀a':List (κ×V),yN (a'.map λB=>if B.1=k then (B.1,y) else B) j=(yN a' j).map λx=>if j=k then y else x
 |[]=>rfl
 |p::r=>by
  have D:=fI k j y r;rw[RD];by_cases h:p.1=k
  .rw[Qxb h];by_cases e:p.1=j
   .rw[vx (p:=(p.1,y)) e,vx e,NA,Qxb (e.symm.trans h)]
   .rw[vy (p:=(p.1,y)) e,vy e,D]
  .rw[Qxa h];by_cases e:p.1=j
   .rw[vx (p:=p) e,vx e,NA,Qxa (λz=>h (e.trans z))]
   .rw[vy (p:=p) e,vy e,D]
theorem fJ(k j:κ)(y:V):∀a':List (κ×V),yN a' k=none->yN (a'++[(k,y)]) j=if j=k then some y else yN a' j
 |[],_=>by
  by_cases e:k=j
  .rw[Qxb e.symm];exact vx (p:=(k,y)) e
  .rw[Qxa (λz=>e z.symm)];exact vy (p:=(k,y)) e
 |p::r,B=>by
  rw[JG];have D:¬p.1=k:=λz=>by rw[vx z] at B;cases B
  rw[vy D] at B;have F:=fJ k j y r B;by_cases e:p.1=j
  .rw[vx e,vx e,Qxa (λz=>D (e.trans z))]
  .rw[vy e,vy e,F]
theorem fK(a':List (κ×V))(k j:κ)(y:V):yN (yP a' k y) j=if j=k then some y else yN a' j:=by
 unfold yP;by_cases a:(a'.any λB=>decide (B.1=k))=true
 .rw[Qxb a,fI];rw[tU] at a;by_cases e:j=k
  .obtain⟨x,D⟩:=Mm.mp a;rw[Qxb e,e,D,NA,Qxb rfl]
  .rw[Qxa e];cases yN a' j with
   |none=>rfl
   |some x=>rw[NA,Qxa e]
 .rw[Qxa a];refine fJ k j y a' ?_;rw[tU] at a;cases q:yN a' k with
  |none=>rfl
  |some x=>rw[q] at a;exact(a J).elim
theorem oM(a':List (κ×V))(k:κ)(v:V):(yP a' k v).length<=a'.length+1:=by
 unfold yP;split
 .rw[X5];exact PF _
 .rw[X4,RN,M7];exact X2 _
theorem We{a':List (κ×V)}{k:κ}(v:V)(h:yN a' k=none):yP a' k v=a'++[(k,v)]:=by
 unfold yP;rw[tU,h];exact Qxa (by decide)
theorem AB.isSome_eq{u:Option X3}(r:AB o u):o.isSome=u.isSome:=by
 cases o with
 |none=>cases u with
  |none=>rfl
  |some _=>exact(show False from r).elim
 |some _=>cases u with
  |none=>exact(show False from r).elim
  |some _=>rfl
theorem KV.val{a':List (κ×V)}{vs:List (κ×X3)}(r:KV a' vs)(k:κ):AB (yN a' k) (KD vs k):=by
 unfold KV at r;induction r with
 |nil=>exact QT
 |@cons p q ps B h t F=>
  obtain⟨h1,h2⟩:=h;by_cases e:p.1=k
  .have D:q.1=k:=h1.symm.trans e;have b:KD (q::B) k=some q.2:=by simp[KD,QP,D]
   rw[vx e,b];exact h2
  .have D:¬q.1=k:=λz=>e (h1.trans z);have b:KD (q::B) k=KD B k:=by simp[KD,QP,D]
   rw[vy e,b];exact F
theorem KV.any{a':List (κ×V)}{vs:List (κ×X3)}(r:KV a' vs)(k:κ):(a'.any λB=>decide (B.1=k))=vs.any λB=>decide (B.1=k):=by
 unfold KV at r;induction r with
 |nil=>rfl
 |cons h t D=>rw[Nm,Nm,D,h.1]
theorem KV.repl{a':List (κ×V)}{vs:List (κ×X3)}(r:KV a' vs)(k:κ){y:V}{u:X3}(D:RelV y u) :
  KV (a'.map λB=>if B.1=k then (B.1,y) else B) (vs.map λB=>if B.1=k then (B.1,u) else B):=by
 unfold KV at r ⊢;induction r with
 |nil=>exact .nil
 |@cons p q ps G h t F=>
  rw[RD,RD];refine .cons ?_ F;obtain⟨h1,h2⟩:=h;by_cases e:p.1=k
  .rw[Qxb e,Qxb (h1.symm.trans e)];exact⟨h1,D⟩
  .rw[Qxa e,Qxa (λz=>e (h1.trans z))];exact⟨h1,h2⟩
theorem KV.put{a':List (κ×V)}{vs:List (κ×X3)}(r:KV a' vs)(k:κ){y:V}{u:X3}(B:RelV y u):KV (yP a' k y) (stored vs k u):=by
 unfold yP stored;rw[r.any k];by_cases e:(vs.any λD=>decide (D.1=k))=true
 .rw[Qxb e,Qxb e];exact r.repl k B
 .rw[Qxa e,Qxa e];exact Paired.snoc r ⟨J,B⟩
theorem KV.length{a':List (κ×V)}{vs:List (κ×X3)}(r:KV a' vs):a'.length=vs.length:=Paired.length r
end
theorem sY{k:zr}{u:X3}(r:RelV (kV k) u):(yv P w).is k u=true:=by
 cases k with
 |inl i=>obtain⟨t,e⟩:=(show ∃t,u=NJ i t from r);subst e;exact Zw P w i t
 |inr x=>obtain⟨t,e⟩:=(show ∃t,u=Mx x t from r);subst e;exact Zx P w x t
theorem ky{P:U2}{w:Rz}:∀ {ks:List zr}{us:List X3},Af (ks.map kV) us->ItemsAre (yv P w) ks us
 |[],_,r=>by rw[NH] at r;cases r;exact .nil
 |k::ks,_,r=>by
  rw[RD] at r;cases r with
  |cons h t=>exact .cons (sY h) (ky t)
noncomputable abbrev KT(H:Hp):List (List zr×V)->List (List zr×Addr×X3)->Prop:=Paired λp q=>p.1=q.1/\H q.2.1=some (.tup (p.1.map kV))/\RelV p.2 q.2.2
theorem KT.val{a':List (List zr×V)}(r:KT H a' xs)(k:List zr):AB (yN a' k) ((OU xs k).map (·.2)):=by
 induction r with
 |nil=>exact QT
 |@cons p q ps B h t F=>
  obtain⟨h1,_,h2⟩:=h;by_cases e:p.1=k
  .have D:q.1=k:=h1.symm.trans e;have b:OU (q::B) k=some q.2:=by simp[OU,QP,D]
   rw[vx e,b];exact h2
  .have D:¬q.1=k:=λz=>e (h1.trans z);have b:OU (q::B) k=OU B k:=by simp[OU,QP,D]
   rw[vy e,b];exact F
theorem KT.repl{a':List (List zr×V)}(r:KT H a' xs)(k:List zr){y:V}{u:X3}(D:RelV y u) :
  KT H (a'.map λB=>if B.1=k then (B.1,y) else B) (xs.map (putAt k u)):=by
 induction r with
 |nil=>exact .nil
 |@cons p q ps I h t F=>
  rw[RD,RD];refine .cons ?_ F;obtain⟨h1,h2,G⟩:=h;unfold putAt;by_cases e:p.1=k
  .rw[Qxb e,Qxb (h1.symm.trans e)];exact⟨h1,h2,D⟩
  .rw[Qxa e,Qxa (λz=>e (h1.trans z))];exact⟨h1,h2,G⟩
theorem KT.put{a':List (List zr×V)}(r:KT H a' xs)(k:List zr){b:Addr}{y:V}{u:X3}(D:H b=some (.tup (k.map kV)))(B:RelV y u) :
  KT H (yP a' k y) (storedH xs k b u):=by
 have e:(a'.any λF=>decide (F.1=k))=(OU xs k).isSome:=by
  rw[tU,(r.val k).isSome_eq,Oh]
 unfold yP storedH;rw[e];by_cases q:(OU xs k).isSome=true
 .rw[Qxb q,Qxb q];exact r.repl k B
 .rw[Qxa q,Qxa q];exact Paired.snoc r ⟨J,D,B⟩
theorem KT.keeps{a':List (List zr×V)}(r:KT H a' xs)(ht:∀b ys,H b=some (.tup ys)->H' b=some (.tup ys)):KT H' a' xs:=
 Paired.mapP r λ_ _ z=>⟨z.1,ht _ _ z.2.1,z.2.2⟩
section
variable {h:Heap}
theorem fL{u:HO}(B:AJ P w H h)(e:Rd H a u):Al P w H h a u:=e.ok B
theorem qg{a':List (zr×V)}(B:AJ P w H h)(e:Rd H a (.dK a')):a'.length<=sizeLine/\(a==QV)=false/\∃vs,KV a' vs/\h.DictOf (yv P w) a vs:=
 show Al P w H h a (.dK a') from fL B e
theorem qh{a':List (zr×V)}(B:AJ P w H h)(e:H a=some (.dK a')):a'.length<=sizeLine/\(a==QV)=false/\∃vs,KV a' vs/\h.DictOf (yv P w) a vs:=qg B (.inl e)
theorem qi{ks:List zr}(B:AJ P w H h)(e:H a=some (.tup (ks.map kV))):(Kv (yv P w)).is h ks a:=by
 obtain⟨_,its,r,o,h1,h2,n,D⟩:=(show Al P w H h a (.tup (ks.map kV)) from B a _ e);exact⟨o,its.toArray,n,h1,h2,D,by simpa using ky r⟩
theorem qj{a':List (List zr×V)}(B:AJ P w H h)(e:Rd H a (.dT a')):a'.length<=sizeLine/\(a==QV)=false /\
  ∃xs,KT H a' xs/\h.DictOfH (Kv (yv P w)) a xs:=by
 obtain⟨z,y,xs,r,o,es,ep,h1,h2,F,G,I⟩:=(show Al P w H h a (.dT a') from fL B e);refine⟨z,y,xs,r,o,es,ep,h1,h2,F,G,λx hx=>?_,I⟩;have J0:∀ {l:List (List zr×V)} {m:List (List zr×Addr×X3)},KT H l m->∀x∈m,(Kv (yv P w)).is h x.1 x.2.1:=by
  intro l m q;induction q with
  |nil=>intro x hx;exact nomatch hx
  |@cons p q ps M D t L=>
   intro x hx;rcases S7.mp hx with e|hx
   .subst e;exact qi B (by rw[←D.1];exact D.2.1)
   .exact L x hx
 exact J0 r x hx
theorem Wf{a':List (List zr×V)}(B:AJ P w H h)(e:H a=some (.dT a')):a'.length<=sizeLine/\(a==QV)=false /\
  ∃xs,KT H a' xs/\h.DictOfH (Kv (yv P w)) a xs:=qj B (.inl e)
end
noncomputable def AO(H:Hp)(a:Addr)(y:V)(r:Option V):Prop:=
 (∃a' k,Rd H a (.dK a')/\y=kV k/\r=yN a' k)∨∃a' k b,Rd H a (.dT a')/\y=.ref b/\H b=some (.tup (k.map kV))/\r=yN a' k
noncomputable def BI(H:Hp)(a:Addr)(y v:V)(H':Hp):Prop:=
 (∃a' k,H a=some (.dK a')/\y=kV k/\a'.length<sizeLine/\H'=c' H a (.dK (yP a' k v))) ∨
 ∃a' k b,H a=some (.dT a')/\y=.ref b/\H b=some (.tup (k.map kV))/\a'.length<sizeLine/\H'=c' H a (.dT (yP a' k v))
theorem AO.k{a':List (zr×V)}{k:zr}(e:H a=some (.dK a')):AO H a (kV k) (yN a' k):=.inl ⟨a',k,.inl e,J,J⟩
theorem BI.k{a':List (zr×V)}{k:zr}{v:V}(e:H a=some (.dK a'))(B:a'.length<sizeLine):BI H a (kV k) v (c' H a (.dK (yP a' k v))):=.inl ⟨a',k,e,J,B,J⟩
variable {y:V}{u r:X3}{A:QG}{E:X3->X9->Prop}
section
variable {v:V}
theorem Inv.big(B:Inv X Δ σ H s):QV<s.heap.objs.size:=by
 have h:Rw<s.heap.objs.size:=(B.mod.glob.keeps B.bk).lt;exact Nat.lt_trans (by decide) h
theorem Wg(L:A.units+1<cLine)(D:Inv X Δ σ H s)(g:AO H a y (some v))(J0:RelV y u)(h:∀B s',Inv X Δ σ H s'->RelV v B->Q B s') :
  Rj (model X.prog X.w) A (Ky (.ref a) u) Q E s:=by
 rcases g with⟨a',k,e,F,l⟩|⟨a',k,b,e,F,M,l⟩
 .subst F;obtain⟨z,O,vs,G,dd⟩:=qg D.hok e;obtain⟨B,hw,I⟩:=AB.some_of (v:=v) (o:=KD vs k) (by rw[l];exact G.val k);exact wpAny_getItem_of (sY J0) dd.mapOf hw (h B _ (D.tok _) I)
 .subst F;cases (show u=RS b from J0);obtain⟨z,O,xs,G,dd⟩:=qj D.hok e;obtain⟨B,hw,I⟩:=AB.some_of (v:=v) (o:=(OU xs k).map (·.2)) (by rw[l];exact G.val k);obtain⟨p,R,S⟩:=P2.mp hw;refine NT (NU L) (qi D.hok M) dd R ?_;rw[S];exact h B _ (D.tok _) I
theorem Wh(J0:A.units+1<cLine)(B:Inv X Δ σ H s)(g:AO H a y o)(I:RelV y u)(h:∀s',Inv X Δ σ H s'->Q (.bool o.isSome) s') :
  Rj (model X.prog X.w) A (Qv .In u (.ref a)) Q E s:=by
 rcases g with⟨a',k,e,D,l⟩|⟨a',k,b,e,D,L,l⟩
 .subst D;obtain⟨z,F,vs,G,dd⟩:=qg B.hok e;refine wpAny_in_of (sY I) F dd.mapOf ?_;rw[←(G.val k).isSome_eq,←l];exact h _ (B.tok _)
 .subst D;cases (show u=RS b from I);obtain⟨z,F,xs,G,dd⟩:=qj B.hok e;refine wpAny_in_heap (NU J0) (qi B.hok L) F dd ?_;have q:=(G.val k).isSome_eq;rw[Oh] at q;rw[←q,←l];exact h _ (B.tok _)
theorem tV{t':Nat}{B:HO}(D:Inv X Δ σ H s)(F:rO (H a))(G:Pr a s.heap h')(I:∃q,h'.get? a=some q)(J0:Al X.prog X.w (c' H a B) h' a B)(ht:X.t0<=t':=by first|assumption|exact Inv.tk (by assumption)|(have q:=Inv.tk (by assumption);omega)) :
  Inv X Δ σ (c' H a B) { s with heap:=h',toks:=t' }:=
 D.write (x:=a) (e:=a) F (.inl J) (λb q L z=>(G.2 b L).trans z) I J0
theorem kA{a':List (zr×V)}{vs:List (zr×X3)}(z:a'.length<=sizeLine)(B:(a==QV)=false)(D:KV a' vs)(dd:h'.DictOf (yv P w) a vs) :
  Al P w H' h' a (.dK a'):=⟨z,B,vs,D,dd⟩
theorem Wi{Q:Unit->X9->Prop}(Y:A.units+1<cLine)(B:Inv X Δ σ H s)(g:BI H a y v H')(S:RelV y u)(U:RelV v r)(h:∀s',Inv X Δ σ H' s'->Q () s') :
  Rj (model X.prog X.w) A (setItem (.ref a) u r) Q E s:=by
 rcases g with⟨a',k,e,I,l,J0⟩|⟨a',k,b,e,I,V,l,J0⟩
 .subst I J0;obtain⟨z,L,vs,D,dd⟩:=qh B.hok e;have M:vs.length<=sizeLine:=by rw[←D.length];exact z
  have O:(yP a' k v).length<=sizeLine:=by have:=oM a' k v;exact S5 this l
  refine wpAny_setItem_pairs (hsz:=M) (sY S) dd λh' F R=>h _ ?_;have Z:∃q,h'.get? a=some q:=let ⟨q,_,_,G,_⟩:=F;⟨q,G⟩;exact tV B (by rw[e];exact QT) R Z (kA O L (D.put k U) F)
 .subst I J0;cases (show u=RS b from S);obtain⟨z,L,xs,D,dd⟩:=Wf B.hok e;have M:xs.length<=sizeLine:=by rw[←Paired.length D];exact z
  have O:(yP a' k v).length<=sizeLine:=by have:=oM a' k v;exact S5 this l
  refine NX (hsz:=M) (NU Y) (qi B.hok V) dd λh' F R=>h _ ?_;obtain⟨q,es,ep,G,h2,aa,ab,_,ac⟩:=F;refine tV B (by rw[e];exact QT) R ⟨q,G⟩ ⟨O,L,_,(D.put k V U).keeps λc ys W=>?_,q,es,ep,G,h2,aa,ab,ac⟩;rw[zh (zj W e (λz=>nomatch z))];exact W
end
variable {a':List (zr×V)}
section
variable {k:zr}
end
noncomputable def oN(i:R8):Prop:=∀B D,subscripted i false B D=operate [B,D] (Ky B D)
theorem kC{prog:U2}{A:QG}{E:X3->X9->Prop}{env:Env}{value B:R8}{T id:String}(M:typeLookup (.type T) "__getitem__"=pure (some (.builtin id)))(O:oN B)(h:Rj (model prog w) A (eval value env) (λo I=>Rj (model prog w) A (eval B env) (λi D=>D.TypeIs o T/\Rj (model prog w) A (Ky o i) Q E D) E I) E s) :
  Rj (model prog w) A (eval (.Subscript value B pos) env) Q E s:=by
 refine MR (OK h (λo I h₁=>OK h₁ (λi D F=>?_) λ_ _ x=>x) λ_ _ x=>x);obtain⟨J0,F⟩:=F;unfold Mn;refine W6 ?_;rw[getitemInPython_of_ne J0.not_modules];refine W6 (P8 J0 M ?_);have G:Rj (model prog w) A (subscripted B false o i) (λr L=>Rj (model prog w) A (letTemporaryGo value o r >>= λ_=>pure r) Q E L) E D:=by
  rw[O o i];exact wpAny_operating (OK F (λr L R=>W6 (wpAny_letTemporaryGo (S3 R))) λ_ _ x=>x)
 first
  |exact S3 (W6 G)
  |exact W6 (S3 (W6 G))
  |exact W6 G
theorem Wj{y:V}(B:Inv X Δ σ H s)(g:AO H a y o):s.TypeIs (.ref a) "dict":=by
 rcases g with⟨a',k,e,_,_⟩|⟨a',k,b,e,_,_,_⟩
 .obtain⟨_,_,vs,_,dd⟩:=qg B.hok e;exact dd.typeIs
 .obtain⟨_,_,xs,_,dd⟩:=qj B.hok e;exact dd.typeIs
noncomputable def Wl(td ty:TE):TE:=λσ H Q=>td σ H λx H1=>ty σ H1 λy H2=>∃a v,x=.ref a/\AO H2 a y (some v)/\Q v H2
noncomputable def Wm(ty td:TE):TE:=λσ H Q=>ty σ H λy H1=>td σ H1 λx H2=>∃a o,x=.ref a/\AO H2 a y o/\Q (.bl o.isSome) H2
noncomputable def Wn(td ty tv:TE):TS:=λD σ H=>tv σ H λv H1=>td σ H1 λx H2=>ty σ H2 λy F=>∃a B,x=.ref a/\BI F a y v B/\D.nx σ B
variable {e:R8}{td ty:TE}
section
variable {o i value:R8}{pos' tpos:Pos}{tv:TE}
theorem fM(D:X.A.units+1<cLine)(F:PE X o td)(hi:PE X i ty)(G:oN i):PE X (.Subscript o i pos) (Wl td ty):=by
 intro Δ s σ H Q I h;refine kC Oy.lookup G (zo (F Δ s σ H _ I h) λu J0 L=>?_);obtain⟨x,H1,M,O,q1⟩:=L;refine zo (hi Δ J0 σ H1 _ M q1) λY Z R=>?_;obtain⟨y,H2,B,S,a,v,ex,g,U⟩:=R;subst ex;obtain rfl:u=RS a:=O;exact⟨Wj B g,Wg D B g S λaa ab V W=>⟨v,H2,V,W,U⟩⟩
theorem Wo(B:X.A.units+1<cLine)(hi:PE X i ty)(D:PE X o td):PC X .In i o (Wm ty td):=by
 intro Δ s σ H Q F h;refine zo (hi Δ s σ H _ F h) λW G I=>?_;obtain⟨y,H1,J0,L,q1⟩:=I;refine zo (D Δ G σ H1 _ J0 q1) λu Y M=>?_;obtain⟨x,H2,O,R,a,S,ex,g,U⟩:=M;subst ex;obtain rfl:u=RS a:=R;exact Wh B O g L λZ V=>⟨.bl S.isSome,H2,V,J,U⟩
theorem fN(B:X.A.units+1<cLine)(F:PE X o td)(hi:PE X i ty)(G:PE X value tv)(I:My value (some (.Subscript o i pos')) pos.line X.env=pure false) :
  PS X (.Assign [.Subscript o i pos'] value pos) (Wn td ty tv):=by
 intro Δ s σ H D J0 h;refine wpAny_Assign_Subscript (zo (G Δ s σ H _ J0 h) λr L M=>?_) I;obtain⟨v,H1,O,R,q1⟩:=M;refine zo (F Δ L σ H1 _ O q1) λu S U=>?_;obtain⟨x,H2,V,W,Y⟩:=U;refine zo (hi Δ S σ H2 _ V Y) λaf ag Z=>?_;obtain⟨y,ah,aa,ab,a,ac,ex,g,ad⟩:=Z;subst ex;obtain rfl:u=RS a:=W;exact Wi B aa g ab R λai ae=>⟨σ,ac,ae,ad⟩
end
theorem fO(h:Heap)(B:QV<h.objs.size):Al P w H (h.push { cls:=.type "dict",data:=.dict #[] }) h.objs.size (.dK []):=
 ⟨X7 _,beq_eq_false_iff_ne.mpr (Q3 (RE B)),[],.nil,Heap.DictOf.new h⟩
noncomputable def Wp:TE:=λ_ H Q=>∀p,H p=none->Q (.ref p) (c' H p (.dK []))
theorem qk:PE X (.Dict [] [] pos) Wp:=λΔ s σ H Q B h=>
 JH ⟨.ref s.heap.objs.size,_,B.laid (a:=s.heap.objs.size) (o:=.dK []) (t':=s.toks) (λ_ _ q=>W0 _ q) (X2 _) (fO s.heap B.big),J,h _ (B.hok.fresh (X2 _))⟩
noncomputable def kD:List (TE×TE)->St->Hp->(List (V×V)->Hp->Prop)->Prop
 |[],_,H,Q=>Q [] H
 |(tk,tv)::r,σ,H,Q=>tk σ H λx H1=>tv σ H1 λy H2=>kD r σ H2 λps B=>Q ((x,y)::ps) B
noncomputable abbrev VV:List (V×V)->List (X3×X3)->Prop:=Paired λp q=>RelV p.1 q.1/\RelV p.2 q.2
noncomputable def oO(X:Cx)(pos:Pos)(B:List (Option R8))(D:List R8)(F:List (TE×TE)):Prop:=
 ∀(Δ:List (Addr×Obj)) (s:X9) (σ:St) (H:Hp) (Q:List (V×V)->Hp->Prop),Inv X Δ σ H s->kD F σ H Q ->
  Rj (model X.prog X.w) X.A (evalPairs (pairTrees B D X.env pos)) (λvs s'=>∃ps H',Inv X Δ σ H' s'/\VV ps vs/\Q ps H') X.xe s
theorem Wq:oO X pos [] [] []:=λΔ s σ H Q B h=>pairTrees_nil_walk ⟨[],H,B,.nil,h⟩
theorem Wr{k v:R8}{ks:List (Option R8)}{vs:List R8}{tk tv:TE}{B:List (TE×TE)}(D:PE X k tk)(F:PE X v tv)(G:oO X pos ks vs B) :
  oO X pos (some k::ks) (v::vs) ((tk,tv)::B):=λΔ s σ H Q I h=>
 pairTrees_cons_walk (zo (D Δ s σ H _ I h) λu J0 ⟨x,H1,L,M,q1⟩=>zo (F Δ J0 σ H1 _ L q1) λaa O ⟨y,H2,R,S,U⟩=>
  zo (G Δ O σ H2 _ R U) λab ac ⟨ps,V,W,Y,Z⟩=>⟨(x,y)::ps,V,W,.cons ⟨M,S⟩ Y,Z⟩)
noncomputable def vz(a' D:List (zr×V)):List (zr×V):=D.foldl (λF B=>yP F B.1 B.2) a'
theorem KV.merge:∀ {B:List (zr×V)}{rs:List (zr×X3)}{a':List (zr×V)}{vs:List (zr×X3)},KV B rs->KV a' vs->KV (vz a' B) (merged vs rs):=by
 intro B rs a' vs r;unfold KV at r;induction r generalizing a' vs with
 |nil=>intro q;exact q
 |@cons p q ps G h t D=>
  intro F;have e:KV (yP a' p.1 p.2) (stored vs q.1 q.2):=by
   have:=F.put p.1 h.2;rw[←h.1];exact this
  exact D e
theorem kE:∀(B a':List (zr×V)),(vz a' B).length<=a'.length+B.length
 |[],a'=>by show a'.length<=a'.length+0;exact X2 _
 |p::r,a'=>by
  have h1:=kE r (yP a' p.1 p.2);have h2:=oM a' p.1 p.2;show (vz (yP a' p.1 p.2) r).length<=_;rw[RN];omega
theorem fP{P:U2}{w:Rz}:∀ {a':List (zr×V)}{B:List (X3×X3)},VV (a'.map λD=>(kV D.1,D.2)) B->∃rs,Carries (yv P w) B rs/\KV a' rs
 |[],_,r=>by rw[NH] at r;cases r;exact⟨[],QT,.nil⟩
 |p::a',_,r=>by
  rw[RD] at r;cases r with
  |@cons a b G bs h t=>
   obtain⟨rs,c,q⟩:=fP (P:=P) (w:=w) t;obtain⟨I,F⟩:=b;exact⟨(p.1,F)::rs,⟨sY h.1,J,c⟩,.cons ⟨J,h.2⟩ q⟩
noncomputable def Ws(D:List (TE×TE)):TE:=λσ H Q=>∀p,H p=none->kD D σ (c' H p (.dK [])) λps H2=>H2 p=some (.dK [])/\∃a':List (zr×V),ps=a'.map (λB=>(kV B.1,B.2))/\a'.length<=15/\Q (.ref p) (c' H2 p (.dK (vz [] a')))
theorem Wt{B:List (Option R8)}{D:List R8}{G:List (TE×TE)}(h:oO X pos B D G)(L:B.all (·.isSome)=true)(M:B.length=D.length)(O:B≠[])(R:B.length<=15):PE X (.Dict B D pos) (Ws G):=by
 intro Δ s σ H Q F q;have S:=F.hok.fresh (X2 s.heap.objs.size);have U:=F.laid (a:=s.heap.objs.size) (o:=.dK []) (h':=s.heap.push { cls:=.type "dict",data:=.dict #[] }) (t':=s.toks) (λ_ _ q=>W0 _ q) (X2 _) (fO s.heap F.big);refine wpAny_Dict_walk (knd:=yv X.prog X.w) L M O R (zo (h Δ _ σ _ _ U (q _ S)) λah ai V=>?_);obtain⟨ps,H2,I,W,e,a',ep,Y,Z⟩:=V;subst ep;obtain⟨rs,c,aa⟩:=fP (P:=X.prog) (w:=X.w) W;obtain⟨z,ab,aj,ac,dd⟩:=qh I.hok e;cases ac;refine⟨rs,c,dd,λh' J0 ad=>⟨.ref s.heap.objs.size,_,?_,J,Z⟩⟩;have ae:(vz [] a').length<=sizeLine:=by
  have h1:=kE a' [];rw[M7] at h1;rw[Qo];exact bX Y h1
 have af:∃q,h'.get? s.heap.objs.size=some q:=let ⟨q,_,_,ag,_⟩:=J0;⟨q,ag⟩;exact tV I (by rw[e];exact QT) ad af (kA ae ab (aa.merge .nil) J0)
structure M1(X:Cx)(o:R8)(m:Str)(apos:Pos)(e:R8)(g6:Pos):Prop where
 base:PN o m X.env (eval o X.env)=eval o X.env
 few:((QS g6 (T2 [e] X.env)).all (λx=>!x.1)&&(O2 g6 (PH [] X.env)).all (λx=>x.1.isSome)
  && decide (([e]:List R8).length+([]:List Mb).length+(if ([]:List Mb).isEmpty then 0 else 1)<30))=true
 line:(apos.endLine==g6.line)=true
 trees:QS g6 (T2 [e] X.env)=[(false,eval e X.env)]
noncomputable def fQ(H:Hp)(a:Addr):Prop:=(∃a',Rd H a (.dK a'))∨∃a',Rd H a (.dT a')
theorem Wu(F:Inv X Δ σ H s)(d:fQ H a) :
  s.TypeIs (.ref a) "dict"/\(∀b,RS a=.ref b->∃B,s.heap.get? b=some B/\B.dict=none)/\(a==QV)=false:=by
 rcases d with⟨a',e⟩|⟨a',e⟩
 .obtain⟨_,D,vs,_,dd⟩:=qg F.hok e;refine⟨dd.typeIs,λb q=>?_,D⟩;cases q;obtain⟨B,_,_,h1,h2,_⟩:=dd;exact⟨B,h1,h2.2.1⟩
 .obtain⟨_,D,xs,_,dd⟩:=qj F.hok e;refine⟨dd.typeIs,λb q=>?_,D⟩;cases q;obtain⟨B,_,_,h1,h2,_⟩:=dd;exact⟨B,h1,h2.2.1⟩
section
variable {d:V}
end
section
variable {o f:R8}{apos g6:Pos}{tx:TE}
end
section
variable {κ:Type} [DecidableEq κ]
theorem Wv{a':List (κ×V)}{k:κ}(h:yN a' k=none):¬k∈a'.map (·.1):=by
 intro m;obtain⟨p,B,e⟩:=S4.mp m;have q:(a'.any λD=>decide (D.1=k))=true:=Qx.mpr ⟨p,B,Qxd e⟩;rw[tU,h] at q;exact absurd q (by simp)
theorem fR:∀ {l:List κ}{k:κ},l.Nodup->¬k∈l->(l++[k]).Nodup
 |[],k,_,_=>by simp
 |a::r,k,h,B=>by
  obtain⟨h1,h2⟩:=Q4.mp h;show (a::(r++[k])).Nodup;refine Q4.mpr ⟨λm=>?_,fR h2 λm=>B (S7.mpr (Or.inr m))⟩;rcases T6.mp m with q|q
  .exact h1 q
  .exact B (S7.mpr (Or.inl (RA.mp q).symm))
theorem Ww{a':List (κ×V)}{k:κ}(v:V)(B:(a'.map (·.1)).Nodup)(h:yN a' k=none):((yP a' k v).map (·.1)).Nodup:=by
 rw[We v h,T5];exact fR B (Wv h)
end
section
variable {X:X3->X9->Prop}{b:Array Keyed}
end
theorem Wx:uF X "str.join" (λx vs H Q=>∃(G:Str) (l:Addr) (xs:List Str),x=.str G/\vs=[.ref l]/\Ad X.K H l (xs.map V.str)/\xs.length<=20000/\G.length<=100/\(∀y∈xs,y.length<=100)/\Q (.str (ME G xs)) H):=by
 intro Δ s σ H x vs v us Q I L M h;obtain⟨G,l,xs,rfl,rfl,O,h1,R,S,q⟩:=h;obtain⟨t,rfl⟩:=L;obtain⟨u,rfl,U⟩:=M.one;cases U;obtain⟨its,r,pl,_⟩:=I.list O;obtain⟨W,Y⟩:=qe r;have Z:=oK Y;have D:(its.map λu=>(yw u,wj u)).map (·.1)=xs:=by rw[R6,←W];rfl
 have aa:s.heap.IsList l (KC (its.map λu=>(yw u,wj u))).toArray:=by rw[←Z];exact pl.isList
 have J0:N2 ((xs.toArray.foldl (λa y=>a+y.length+G.length) 0))=false:=
  JE (B:=100) S (by have:xs.length*G.length<=20000*100:=NS h1 R;omega)
 refine P1 M6 (ON s G t) MD (Mf _ _) (NF G t l (its.map λu=>(yw u,wj u)) (by rw[D];exact J0)) ⟨aa,?_⟩;generalize its.map (λu=>(yw u,wj u))=ps at D
 match ps,D with
 |[],D=>
  subst D;exact⟨by show (0:Nat)<=_;exact X7 _,⟨.str _,H,I.tok _,⟨_,J⟩,q⟩⟩
 |[p],D=>
  subst D;exact⟨.str _,H,I,⟨_,J⟩,q⟩
 |p::p2::ab,D=>
  subst D;exact⟨joinFit_length J0,⟨.str _,H,I.tok _,⟨_,J⟩,q⟩⟩
noncomputable def Wy(I J0 L:R2)(ta tb tc td:TE):TT:=λσ H Q=>ta σ H λx H1=>tb σ H1 λy H2=>I x y H2 λz B=>∃k,z=.bl k /\
 (if k=true then tc σ B λu M=>J0 y u M λO D=>∃F,O=.bl F/\(if F=true then td σ D λv R=>L u v R λS U=>∃G,S=.bl G/\Q G U else Q false D) else Q false B)
theorem fS{a b c d:R8}{ta tb tc td:TE}{pos:Pos}{B D F:IU}{J0 L M:R2}(h1:yt X (Qv B) J0)(h2:yt X (Qv D) L)(ac:yt X (Qv F) M)(ad:PE X a ta)(ae:PE X b tb)(af:PE X c tc)(ag:PE X d td)(ah:IB [B,D,F] [b,c,d]=false:=by with_unfolding_all rfl):PT X (.Compare a [B,D,F] [b,c,d] pos) (Wy J0 L M ta tb tc td):=by
 intro Δ s σ H Q ai h;refine isTrue_chain (zo (ad Δ s σ H _ ai h) λv aj ⟨x,H1,ak,al,q1⟩=>IC (zo (ae Δ aj σ H1 _ ak q1) λu am ⟨y,H2,ao,O,ap⟩=>
  zo (h1 Δ am σ H2 x y v u _ ao al O ap) λ_ aq ⟨z,R,S,ar,k,as,U⟩=>?_)) ah
 subst as;cases ar;refine Qk ?_;cases k with
 |false=>exact ite_ff ⟨R,S,U⟩
 |true=>
  refine ite_tt (IC (zo (af Δ aq σ R _ S U) λV au G=>?_));obtain⟨W,av,aw,Y,ax⟩:=G;refine zo (h2 Δ au σ av y W u V _ aw O Y ax) λ_ ay I=>?_;obtain⟨aO,Z,aa,az,aA,aB,ab⟩:=I;subst aB;cases az;refine Qk ?_;cases aA with
  |false=>exact ite_ff ⟨Z,aa,ab⟩
  |true=>
   refine ite_tt (test_last (zo (ag Δ ay σ Z _ aa ab) λaC aD G=>?_));obtain⟨aE,aF,aG,aH,aI⟩:=G;refine zo (ac Δ aD σ aF W aE V aC _ aG Y aH aI) λ_ aP I=>?_;obtain⟨aQ,aJ,aK,aL,aR,aM,aN⟩:=I;subst aM;cases aL;exact Qk ⟨aJ,aK,aN⟩
section
variable {sc:Scope}{cl:List (Str×Addr)}{N':List Str}{fp:List Addr}
end
theorem Wz{B:Type}{f g:List X3->B}(h:f []=g [])(us:List X3)(e:us.length=0):f us=g us:=by
 rw[Ry e];exact h
theorem ql{B:Type}{n:Nat}{f g:List X3->B}(h:∀a us,us.length=n->f (a::us)=g (a::us))(us:List X3)(e:us.length=n+1):f us=g us:=by
 cases us with
 |nil=>cases e
 |cons a r=>exact h a r (IP e)
theorem fT{B:Type}{f g:List X3->B}(h:∀a,f [a]=g [a]):∀us:List X3,us.length=1->f us=g us:=ql λa=>Wz (f:=λr=>f (a::r)) (g:=λr=>g (a::r)) (h a)
theorem fU{B:Type}{f g:List X3->B}(h:∀a b,f [a,b]=g [a,b]):∀us:List X3,us.length=2->f us=g us:=ql λa=>fT (f:=λr=>f (a::r)) (g:=λr=>g (a::r)) (h a)
theorem fV{B:Type}{f g:List X3->B}(h:∀a b c,f [a,b,c]=g [a,b,c]):∀us:List X3,us.length=3->f us=g us:=ql λa=>fU (f:=λr=>f (a::r)) (g:=λr=>g (a::r)) (h a)
theorem fW{B:Type}{f g:List X3->B}(h:∀a b c d,f [a,b,c,d]=g [a,b,c,d]):∀us:List X3,us.length=4->f us=g us:=ql λa=>fV (f:=λr=>f (a::r)) (g:=λr=>g (a::r)) (h a)
theorem WA{B:Type}{f g:List X3->B}(h:∀a b c d e,f [a,b,c,d,e]=g [a,b,c,d,e]):∀us:List X3,us.length=5->f us=g us:=ql λa=>fW (f:=λr=>f (a::r)) (g:=λr=>g (a::r)) (h a)
end L2
namespace T1
open PySem PySem.Spec PyProof.Rows L2
theorem fX{X:Cx}(J0:Ak 5 X.A):yt X (Qv .Eq) (fF true):=by
 intro Δ s σ H x y v u Q B R S h;obtain⟨z,z',ds,D,F,U,q⟩:=h;cases D with
 |@lst a xs _ V _ D=>
  cases F with
  |@lst b ys _ W _ F=>
   cases R;cases S;obtain⟨its,q1,Y,_⟩:=B.list (Ad.of V);obtain⟨Z,L,p2,_⟩:=B.list (Ad.of W);have G:=q1.length;have M:=L.length;have I:=D.length;have O:=F.length;have hsz:its.toArray.size=Z.toArray.size:=by simp;exact pZ G M I O
   show Rj _ _ (Me .Eq _ _) _ _ _;refine MC (e:=λ_=>true) Y.isList p2.isList hsz J0.units0 (λj h1 h2=>fE B 4 (U.get (i:=j) (by rw[←I,G];simpa using h1)) J0.in1 (D.get (i:=j) (by rw[←I,G];simpa using h1)) (F.get (i:=j) (by rw[←O,M];simpa using h2)) (uO q1 h1) (uO L h2)) _ _ _ _ ?_;have e:((RO its.toArray.size).all (λ_=>true))=true:=by simp
   rw[e];exact⟨.bl _,H,B,J,q⟩
end T1
namespace L2
open PySem PySem.Spec PyProof.Rows
variable {a b:Addr}{Q:Bool->X9->Prop}{u:X3}{e i o tg:R8}{td:TE}{pos:Pos}{P:U2}{w:Rz}{H:Hp}{ep:Nat}{a':List (zr×V)}
noncomputable abbrev yg:=Sum zr (List zr)
section
variable (P:U2)(w:Rz)
noncomputable def AS(h:Heap):yg->X3->Prop
 |.inl k,v=>(yv P w).is k v=true
 |.inr l,v=>∃d,v=.ref d/\MW (yv P w) h l d
inductive Au(h:Heap):List yg->List X3->Prop
 |nil:Au h [] []
 |cons {k:yg} {v:X3} {ks:List yg} {vs:List X3}:AS P w h k v->Au h ks vs->Au h (k::ks) (v::vs)
noncomputable def Ar(h:Heap)(ks:List yg)(a:Addr):Prop:=∃o B n,h.get? a=some o/\o.cls=.type "tuple"/\o.data=.seq B n/\Au P w h ks B.toList
noncomputable def vU:yg->Int
 |.inl k=>(yv P w).hash k
 |.inr l=>tupleKeyHash (yv P w) l
noncomputable def sZ:yg->Nat
 |.inl _=>1
 |.inr l=>l.length+1
noncomputable def kF(ks:List yg):Int:=reduceHash (QY (ks.map (vU P w)))
noncomputable def kG(ks:List yg):Nat:=(ks.map sZ).sum+1
end
variable {s:X9}
section
variable {A:QG}{E:X3->X9->Prop}
theorem AS.inj{h:Heap}{x y:yg}{v:X3}(D:AS P w h x v)(B:AS P w h y v):x=y:=by
 cases x with
 |inl k=>
  cases y with
  |inl F=>rw[(yv P w).inj _ _ _ D B]
  |inr l=>
   obtain⟨d,rfl,_⟩:=B;have:=(yv P w).byValue _ _ D;simp[Km] at this
 |inr l=>
  obtain⟨d,rfl,h1⟩:=D;cases y with
  |inl k=>
   have:=(yv P w).byValue _ _ B;simp[Km] at this
  |inr l'=>
   obtain⟨d',e,h2⟩:=B;cases e;rw[h1.inj h2]
theorem Au.inj{h:Heap}{x y:List yg}{vs:List X3}(D:Au P w h x vs)(B:Au P w h y vs):x=y:=by
 induction D generalizing y with
 |nil=>cases B;rfl
 |cons h1 _ F=>
  cases B with
  |cons h2 G=>rw[AS.inj h1 h2,F G]
theorem Ar.typeIs{ks:List yg}(x:Ar P w s.heap ks a):s.TypeIs (.ref a) "tuple":=let ⟨o,_,_,B,D,_⟩:=x;⟨o,B,D⟩
theorem Ar.inj{h:Heap}{a:Addr}{x y:List yg}(D:Ar P w h x a)(F:Ar P w h y a):x=y:=by
 obtain⟨o,M,n,G,_,I,hi⟩:=D;obtain⟨o',O,R,J0,_,B,L⟩:=F;obtain rfl:o=o':=R4 (G.symm.trans J0);rw[I] at B;injection B with h1 _;subst h1;exact hi.inj L
theorem Au.keeps{h h':Heap}{ks:List yg}{vs:List X3}(x:Au P w h ks vs)(k:∀l d,MW (yv P w) h l d->MW (yv P w) h' l d):Au P w h' ks vs:=by
 induction x with
 |nil=>exact .nil
 |@cons B v ks vs h1 _ D=>
  refine .cons ?_ D;cases B with
  |inl _=>exact h1
  |inr l=>obtain⟨d,e,h2⟩:=h1;exact⟨d,e,k l d h2⟩
theorem Ar.keeps{h h':Heap}{ks:List yg}{a d:Addr}{o:Obj}{es ep}(x:Ar P w h ks a)(D:h.get? d=some o)(F:o.data=.dict es ep)(G:Pr d h h'):Ar P w h' ks a:=by
 obtain⟨o',J0,n,I,L,B,hi⟩:=x;have M:a≠d:=by
  rintro rfl;obtain rfl:o'=o:=R4 (I.symm.trans D);rw[F] at B;exact nomatch B
 exact⟨o',J0,n,(G.2 a M).trans I,L,B,hi.keeps λl d' q=>q.keeps D F G⟩
theorem WB{ks:List yg}{Q:Int->X9->Prop}(L:A.units+4<cLine)(M:Ar P w s.heap ks a)(h:Q (kF P w ks) { s with toks:=s.toks+kG ks }) :
  Rj (model P w) A (pyHash (.ref a)) Q E s:=by
 have D:=M.typeIs;have O:A.units<cLine:=by exact lG L
 obtain⟨o,U,n,R,_,S,hi⟩:=M;unfold pyHash
 first|unfold pyHashByItsType|skip
 first|refine W6 (wpAny_cRoomFor_or (.inr O) ?_)|skip
 refine W6 (P8 D O9.lookup ?_);show Rj _ _ (if (some (Mq "tuple.__hash__")==some PZ)=true then _ else _) Q E s;rw[Qxa (by rw[beq_builtin_none];exact Rb)];refine W6 (P8 D O9.lookup ?_);show Rj _ _ (callSpecialIfBoundUnlessNone? (.ref a) "__hash__" _ >>= _) Q E s;refine W6 (wpAny_callSpecialIfBoundUnlessNone?_slot D O9 (Ow O9 D F.entry_tuple_hash ?_ (F.args_tuple_hash_1 _)));show Rj _ _ (Ia (.ref a) >>= _) _ _ s;refine W6 (NY R S ?_);refine W6 ?_;rw[←NZ];refine Nj _
  (λrest (b:Array Int) s'=>∃done left,ks=done++left/\Au P w s.heap left rest/\b.toList=done.map (vU P w)/\s'={ s with toks:=s.toks+(done.map sZ).sum })
  _ ?_ ?_ _ _ ⟨[],ks,J,hi,J,J⟩
 .rintro x rest b s' ⟨done,left,rfl,J0,B,rfl⟩;cases J0 with
  |@cons k _ g5 _ h1 G=>
   cases k with
   |inl k=>
    refine W6 ((yv P w).pyHash h1 ?_)
    first
     |exact S3 ⟨done++[.inl k],g5,by simp,G,by simp[B,vU],by simp[sZ,OG]⟩
     |exact W6 (S3 (S3 ⟨done++[.inl k],g5,by simp,G,by simp[B,vU],by simp[sZ,OG]⟩))
   |inr l=>
    obtain⟨d,rfl,h2⟩:=h1;refine W6 (wpAny_pyHash_tuple (knd:=yv P w) (ks:=l) ?_ h2 ?_)
    .show A.units+1<cLine;exact lF L
    first
     |exact S3 ⟨done++[.inr l],g5,by simp,G,by simp[B,vU],by simp[sZ,OG]⟩
     |exact W6 (S3 (S3 ⟨done++[.inr l],g5,by simp,G,by simp[B,vU],by simp[sZ,OG]⟩))
 .rintro b s' ⟨done,left,rfl,J0,B,rfl⟩;cases J0;rw[QI] at h;unfold kG at h;show Rj _ _ (retInt (QY b.toList)) _ _ _;rw[B];refine wpAny_ret_mkInt ?_;show Rj _ _ (if (decide (-(2:Int) ^ 63<=QY (done.map (vU P w)))&&decide (QY (done.map (vU P w))<2 ^ 63))=true then _ else _) Q E _;unfold kF reduceHash at h;by_cases I:(decide (-(2:Int) ^ 63<=QY (done.map (vU P w)))&&decide (QY (done.map (vU P w))<2 ^ 63))=true
  .rw[Qxb I];rw[Qxb I] at h;exact S3 (by simpa [OG] using h)
  .rw[Qxa I];rw[Qxa I] at h;exact W6 (Ib (S3 (by simpa [OG] using h)))
theorem fY{x y:List yg}{R:Fin->X9->Prop}(af:A.units<cLine)(ag:Ar P w s.heap x a)(aa:Ar P w s.heap y b)(sh:x.map Q1=y.map Q1)(h:R (.done (.ret (.bool (decide (x=y))))) s) :
  Rj (model P w) A (KA.«tuple.__eq__» ⟨[.ref a,.ref b],[]⟩) R E s:=by
 have ah:=aa.typeIs;obtain⟨az,xs,aA,ai,_,aj,ak⟩:=ag;obtain⟨aB,ys,aC,al,_,am,ao⟩:=aa;show Rj _ _ (Ic (.ref b) (.type "tuple") >>= _) _ _ s;refine W6 (MF ah Nc ?_);simp only[Pf,QW,if_false];refine W6 (NY ai aj ?_);refine W6 (NY al am ?_);refine W6 ?_;refine Nj _
  (λrest r s'=>r.1=none/\s'=s/\∃x' I J0 L,rest=Kn J0 L/\Au P w s.heap x' J0/\Au P w s.heap I L/\x'.map Q1=I.map Q1/\decide (x'=I)=decide (x=y)/\(J0.length==L.length)=(xs.size==ys.size))
  _ ?_ ?_ _ _ ⟨J,J,x,y,xs.toList,ys.toList,J,ak,ao,sh,J,by simp⟩
 .rintro⟨u,v⟩ rest r s' ⟨V,rfl,x',I,J0,L,G,W,M,Y,O,Z⟩;cases W with
  |nil=>simp at G
  |@cons F aD ab ap h1 aq=>
   cases M with
   |nil=>simp at G
   |@cons D aE ac ar h2 as=>
    simp only[Jb,JW,Prod.mk.injEq] at G;obtain⟨⟨rfl,rfl⟩,rfl⟩:=G;rw[RD,RD] at Y;injection Y with ad au;have step:∀Q:Bool->X9->Prop,Q (decide (F=D)) s'->Rj (model P w) A (eqBool u v) Q E s':=λQ q=>by
     cases F with
     |inl F=>
      cases D with
      |inl D=>
       refine(yv P w).eqBool (a:=F) (b:=D) h1 h2 ?_;have e:decide ((Pq F:yg)=Pq D)=decide (F=D):=by
        by_cases B:F=D
        .rw[B];simp
        .rw[decide_eq_false B,decide_eq_false (λz=>B (IW z))]
       rw[←e];exact q
      |inr _=>simp at ad
     |inr S=>
      cases D with
      |inl _=>simp at ad
      |inr U=>
       obtain⟨aF,rfl,av⟩:=h1;obtain⟨aG,rfl,aw⟩:=h2;refine wpAny_eqBool_tuple (knd:=yv P w) (x:=S) (y:=U) af av aw ?_;have e:decide ((N5 S:yg)=N5 U)=decide (S=U):=by
        by_cases B:S=U
        .rw[B];simp
        .rw[decide_eq_false B,decide_eq_false (λz=>B (IX z))]
       rw[←e];exact q
    refine W6 (step _ ?_);by_cases B:F=D
    .subst B;rw[Qxd rfl];simp only[Pf,QW,if_false];refine S3 ⟨J,J,ab,ac,ap,ar,J,aq,as,au,?_,by simpa using Z⟩;rw[←O];by_cases ae:ab=ac
     .simp[ae]
     .simp[ae]
    .rw[decide_eq_false B];simp only[Ko,if_true];have ax:decide (x=y)=false:=by rw[←O];simp[B]
     rw[ax] at h;exact W6 (S3 (S3 (S3 h)))
 .rintro⟨aH,aI⟩ s' ⟨V,rfl,x',I,J0,L,G,W,M,Y,O,Z⟩;simp only at V;subst V;refine S3 ?_;have ay:(xs.size==ys.size)=decide (x=y):=by
   rw[←O,←Z];cases W with
   |nil=>
    cases M with
    |nil=>simp
    |cons _ _=>simp
   |cons _ _=>
    cases M with
    |nil=>simp
    |cons _ _=>simp at G
  show R (.done (.ret (.bool (xs.size==ys.size)))) s';rw[ay];exact h
theorem fZ{x y:List yg}(I:A.units+4<cLine)(B:Ar P w s.heap x a)(D:Ar P w s.heap y b)(sh:x.map Q1=y.map Q1)(h:Q (decide (x=y)) s) :
  Rj (model P w) A (eqBool (.ref a) (.ref b)) Q E s:=by
 unfold eqBool
 try with_reducible refine OC ?_
 show Rj _ _ (if (RS a==RS b)=true then _ else _) Q E s;by_cases G:(RS a==RS b)=true
 .rw[Qxb G];have e:a=b:=by have:=eq_of_beq G;injection this
  subst e;obtain rfl:=B.inj D;exact W6 (Ib (S3 (by simpa using h)))
 .rw[Qxa G];exact W6 (NI (op:=.Eq) B.typeIs D.typeIs NB
   (Ow NB B.typeIs F.entry_tuple_eq (fY (by first|exact(show A.units+1<cLine by exact lF I)|exact(show A.units+2<cLine by omega)|exact(show A.units<cLine by omega)) B D sh ⟨_,J,(λe=>nomatch e),Qk h⟩) (F.args_tuple_eq_2 _ _)) (by exact lG I))
theorem WC{ks:List zr}(m:Nat)(D:MW (yv P w) s.heap ks a)(h:Q true s):Rj (model P w) A (JI (m+1) (.ref a)) Q E s:=by
 have G:=D.typeIs;obtain⟨o,J0,n,L,_,M,hi⟩:=D;unfold JI;refine W6 (P8 G NB.lookup ?_);show Rj _ _ (Ic (.ref a) (.type "tuple") >>= _) _ _ s;refine W6 (MF G Nc ?_);simp only[Pf,QW,if_false];refine W6 (wpAny_seqItems L M ?_);refine W6 ?_;show Rj _ _ (forIn J0 _ _) _ _ s;rw[←NZ];refine Nj _ (λrest r s'=>r.1=none/\s'=s/\∀v∈rest,Km v=true) _ ?_ ?_ _ _ ⟨J,J,hi.byValue⟩
 .rintro v rest r s' ⟨B,rfl,I⟩;rw[Ju _ (I v W8)];refine W6 (S3 ?_);simp only[Pf,QW,if_false];exact S3 ⟨J,J,λu O=>I u (T7 _ O)⟩
 .rintro⟨R,S⟩ s' ⟨B,rfl,_⟩;simp only at B;subst B;exact S3 h
theorem WD{ks:List yg}(D:Ar P w s.heap ks a)(h:Q true s):Rj (model P w) A (JI 8 (.ref a)) Q E s:=by
 have G:=D.typeIs;obtain⟨o,J0,n,L,_,M,hi⟩:=D;unfold JI;refine W6 (P8 G NB.lookup ?_);show Rj _ _ (Ic (.ref a) (.type "tuple") >>= _) _ _ s;refine W6 (MF G Nc ?_);simp only[Pf,QW,if_false];refine W6 (wpAny_seqItems L M ?_);refine W6 ?_;show Rj _ _ (forIn J0 _ _) _ _ s;rw[←NZ];refine Nj _ (λrest r s'=>r.1=none/\s'=s/\∃left,Au P w s.heap left rest) _ ?_ ?_ _ _ ⟨J,J,ks,hi⟩
 .rintro v rest r s' ⟨B,rfl,left,O⟩;cases O with
  |@cons k _ g5 _ h1 I=>
   cases k with
   |inl k=>
    rw[Ju _ ((yv P w).byValue _ _ h1)];refine W6 (S3 ?_);simp only[Pf,QW,if_false];exact S3 ⟨J,J,g5,I⟩
   |inr l=>
    obtain⟨d,rfl,h2⟩:=h1;refine W6 (WC 6 h2 ?_);simp only[Pf,QW,if_false];exact S3 ⟨J,J,g5,I⟩
 .rintro⟨R,S⟩ s' ⟨B,rfl,_⟩;simp only at B;subst B;exact S3 h
end
noncomputable def uP(P:U2)(w:Rz)(sh:List Bool):HeapKind P w (List yg) where
 is:=λh ks a=>Ar P w h ks a/\ks.map Q1=sh
 hash:=kF P w
 draws:=kG
 room:=λA=>A.units+4<cLine
 inj:=λB D=>B.1.inj D.1
 keeps:=λx I J0 L=>⟨x.1.keeps I J0 L,x.2⟩
 pyHash:=λF G h=>WB F G.1 h
 eqBool:=λF B D h=>fZ F B.1 D.1 (B.2.trans D.2.symm) h
 quiet:=λG h=>WD G.1 h
noncomputable abbrev yU:=List yg×Addr×V
noncomputable abbrev uQ(p:yU)(q:List yg×Addr×X3):Prop:=p.1=q.1/\p.2.1=q.2.1/\RelV p.2.2 q.2.2
noncomputable def dN(P:U2)(w:Rz)(sh:List Bool)(a:Addr)(a':List yU):HO:=.ext λh=>(a==QV)=false/\a'.length<=sizeLine/\∃xs,Paired uQ a' xs /\
 ∃o es ep,h.get? a=some o/\o.ExactDict/\o.data=.dict es ep/\es.toList=xs.map (K0 (uP P w sh))/\(xs.map (·.1)).Nodup
noncomputable def NV(H:Hp):yg->V->Prop
 |.inl k,v=>v=kV k
 |.inr l,v=>∃d,v=.ref d/\H d=some (.tup (l.map kV))
noncomputable def eg(H:Hp):List yg->List V->Prop:=Paired (NV H)
noncomputable def tW(H:Hp)(ks:List yg)(a:Addr):Prop:=∃vs,H a=some (.tup vs)/\eg H ks vs
noncomputable def qm(H:Hp)(sh:List Bool)(a':List yU):Prop:=∀p∈a',tW H p.1 p.2.1/\p.1.map Q1=sh
noncomputable def yG(a':List yU)(k:List yg):Option V:=(a'.find? λp=>decide (p.1=k)).map (·.2.2)
variable {H':Hp}{sh:List Bool}
section
variable {h:Heap}{a':List yU}
theorem kH{k:zr}(r:RelV (kV k) u):(yv P w).is k u=true:=sY r
theorem oP{ks:List yg}(D:AJ P w H h)(e:tW H ks a):Ar P w h ks a:=by
 obtain⟨vs,e,r⟩:=e;obtain⟨_,its,B,o,h1,h2,n,G⟩:=(show Al P w H h a (.tup vs) from D a _ e);refine⟨o,its.toArray,n,h1,h2,G,?_⟩;have I:∀ {ks:List yg} {vs:List V} {us:List X3},eg H ks vs->Af vs us->Au P w h ks us:=by
  intro ks vs us r;induction r generalizing us with
  |nil=>intro B;cases B;exact .nil
  |@cons x v xs vs h1 _ J0=>
   intro B;cases B with
   |@cons _ u _ us F B=>
    refine .cons ?_ (J0 B);cases x with
    |inl k=>
     obtain rfl:v=kV k:=h1;exact kH F
    |inr l=>
     obtain⟨d,rfl,h2⟩:=h1;obtain rfl:u=RS d:=F;exact⟨d,J,qi D h2⟩
 exact I r B
theorem kI(B:AJ P w H h)(e:H a=some (dN P w sh a a'))(G:qm H sh a'):(a==QV)=false/\a'.length<=sizeLine/\∃xs,Paired uQ a' xs/\h.DictOfH (uP P w sh) a xs:=by
 obtain⟨⟨h1,h2,xs,r,o,es,ep,I,J0,L,M,O⟩,_,_⟩:=(show Al P w H h a (dN P w sh a a') from B a _ e);refine⟨h1,h2,xs,r,o,es,ep,I,J0,L,M,λx hx=>?_,O⟩;have R:∀ {l:List yU} {m:List (List yg×Addr×X3)},Paired uQ l m->(∀p∈l,tW H p.1 p.2.1/\p.1.map Q1=sh)->∀x∈m,(uP P w sh).is h x.1 x.2.1:=by
  intro l m q;induction q with
  |nil=>intro _ x hx;exact nomatch hx
  |@cons p q ps V D t S=>
   intro F x hx;rcases S7.mp hx with e|hx
   .subst e;have:=F p W8;rw[D.1,D.2.1] at this;exact⟨oP B this.1,this.2⟩
   .exact S (λp U=>F p (T7 _ U)) x hx
 exact R r G x hx
theorem qp{xs:List (List yg×Addr×X3)}(r:Paired uQ a' xs)(k:List yg):AB (yG a' k) ((OU xs k).map (·.2)):=by
 induction r with
 |nil=>exact trivial
 |@cons p q ps B F t G=>
  obtain⟨h1,h2,I⟩:=F;by_cases e:p.1=k
  .have D:q.1=k:=h1.symm.trans e;have b:OU (q::B) k=some q.2:=by simp[OU,QP,D]
   have c:yG (p::ps) k=some p.2.2:=by simp[yG,QP,e]
   rw[c,b];exact I
  .have D:¬q.1=k:=λz=>e (h1.trans z);have b:OU (q::B) k=OU B k:=by simp[OU,QP,D]
   have c:yG (p::ps) k=yG ps k:=by simp[yG,QP,e]
   rw[c,b];exact G
end
variable {X:Cx}
theorem qq(B:X.A.units+6<cLine)(sh:List Bool):(uP X.prog X.w sh).room X.A.in1:=by
 show X.A.units+1+4<cLine;exact RL B
noncomputable def eh(P:U2)(w:Rz)(sh:List Bool):R2:=λx y H Q=>∃r a ks a',x=.ref r/\y=.ref a/\H a=some (dN P w sh a a')/\qm H sh a'/\tW H ks r/\ks.map Q1=sh/\Q (.bl (!(yG a' ks).isSome)) H
theorem WE(D:X.A.units+6<cLine)(sh:List Bool):yt X (Qv .NotIn) (eh X.prog X.w sh):=by
 intro Δ s σ H x y v u Q B F G h;obtain⟨r,a,ks,a',rfl,rfl,I,J0,L,M,q⟩:=h;cases F;cases G;obtain⟨O,S,xs,R,dd⟩:=kI B.hok I J0;refine wpAny_notIn_heap (qq D sh) ⟨oP B.hok L,M⟩ O dd ?_;have e:=(qp R ks).isSome_eq;rw[Oh] at e;rw[←e];exact⟨.bl _,H,B.tok _,J,q⟩
theorem WF{ty:TE}(B:X.A.units+6<cLine)(sh:List Bool)(hi:PE X i ty)(D:PE X o td):PC X .NotIn i o (tK (eh X.prog X.w sh) ty td):=by
 intro Δ s σ H Q F h;refine zo (hi Δ s σ H _ F h) λG I J0=>?_;obtain⟨y,H1,L,M,q1⟩:=J0;refine zo (D Δ I σ H1 _ L q1) λu O R=>?_;obtain⟨x,H2,S,U,V⟩:=R;exact WE B sh Δ O σ H2 y x G u Q S M U V
noncomputable def WG(P:U2)(w:Rz)(sh:List Bool):R2:=λx y H Q=>∃a r ks a' v,x=.ref a/\y=.ref r/\H a=some (dN P w sh a a')/\qm H sh a'/\tW H ks r/\ks.map Q1=sh/\yG a' ks=some v/\Q v H
theorem WH{ty:TE}(D:X.A.units+6<cLine)(sh:List Bool)(F:PE X o td)(hi:PE X i ty)(G:oN i):PE X (.Subscript o i pos) (tK (WG X.prog X.w sh) td ty):=by
 intro Δ s σ H Q I h;refine kC Oy.lookup G (zo (F Δ s σ H _ I h) λu J0 L=>?_);obtain⟨x,H1,M,O,q1⟩:=L;refine zo (hi Δ J0 σ H1 _ M q1) λag ah R=>?_;obtain⟨y,H2,B,S,a,r,ks,a',v,ex,U,V,W,Y,Z,aa,ab⟩:=R;subst ex U;cases O;cases S;obtain⟨ai,aj,xs,ac,dd⟩:=kI B.hok V W;refine⟨dd.typeIs,?_⟩;obtain⟨ak,hw,ad⟩:=AB.some_of (v:=v) (o:=(OU xs ks).map (·.2)) (by rw[←aa];exact qp ac ks);obtain⟨p,ae,af⟩:=P2.mp hw;refine NT (qq D sh) ⟨oP B.hok Y,Z⟩ dd ae ?_;rw[af];exact⟨v,H2,B.tok _,ad,ab⟩
noncomputable def WI(P:U2)(w:Rz)(sh:List Bool):rR:=λo i v H Q=>∃a r ks a',o=.ref a/\i=.ref r/\H a=some (dN P w sh a a')/\qm H sh a'/\tW H ks r/\ks.map Q1=sh/\yG a' ks=none/\a'.length<sizeLine/\Q (c' H a (dN P w sh a (a'++[(ks,r,v)])))
theorem WJ(L:X.A.units+6<cLine)(sh:List Bool):on X (WI X.prog X.w sh):=by
 intro Δ s σ H o i v ar as u Q B M O R h;obtain⟨a,r,ks,a',rfl,rfl,I,S,U,V,W,Y,q⟩:=h;cases M;cases O;obtain⟨Z,aa,xs,D,dd⟩:=kI B.hok I S;have ab:OU xs ks=none:=by
  have e:=(qp D ks).isSome_eq;rw[Oh,W] at e;cases g:OU xs ks with
  |none=>rfl
  |some _=>rw[g] at e;cases e
 refine NX (hsz:=by rw[←Paired.length D];exact aa) (qq L sh) ⟨oP B.hok U,V⟩ dd λh' J0 ac=>?_;rw[storedH_new ab] at J0;obtain⟨F,es,ep,G,h2,ad,ae,_,af⟩:=J0;have ag:(a==QV)=false/\(a'++[(ks,r,v)]).length<=sizeLine/\∃xs,Paired uQ (a'++[(ks,r,v)]) xs/\∃o es ep,h'.get? a=some o/\o.ExactDict/\o.data=.dict es ep/\es.toList=xs.map (K0 (uP X.prog X.w sh))/\(xs.map (·.1)).Nodup:=
  ⟨Z,by rw[X4];show _+1<=_;exact Y,xs++[(ks,r,u)],Paired.snoc D ⟨J,J,R⟩,F,es,ep,G,h2,ad,ae,af⟩
 refine⟨c' H a (dN X.prog X.w sh a (a'++[(ks,r,v)])),tV B (by rw[I];exact QT) ac ⟨F,G⟩ ⟨ag,⟨F,G⟩,?_⟩,q⟩;rintro au av ⟨ah,ai,aj,ak,o',al,am,ao,ap⟩ aq;exact⟨ah,ai,aj,ak,o',al,am,aq _ ao,ap⟩
theorem eu(sh:List Bool){pos:Pos}:PE X (.Dict [] [] pos) (λ_ H Q=>∀p,H p=none->Q (.ref p) (c' H p (dN X.prog X.w sh p []))):=λΔ s σ H Q B h=>by
 refine JH ⟨.ref s.heap.objs.size,_,B.laid (a:=s.heap.objs.size) (o:=dN X.prog X.w sh s.heap.objs.size []) (t':=s.toks) (λ_ _ q=>W0 _ q) (X2 _) ?_,J,h _ (B.hok.fresh (X2 _))⟩;refine⟨⟨beq_eq_false_iff_ne.mpr (Q3 (RE B.big)),X7 _,[],.nil,_,#[],0,Ru _ J,⟨J,J,J⟩,J,J,Ie⟩,⟨_,Ru _ J⟩,?_⟩;rintro S U ⟨D,F,G,I,o',J0,L,M,O⟩ R;exact⟨D,F,G,I,o',J0,L,R _ M,O⟩
noncomputable def dE(P:U2)(w:Rz)(a:Addr)(ep:Nat)(a':List (zr×V)):HO:=.ext λh=>(a==QV)=false/\a'.length<=sizeLine/\∃vs,KV a' vs/\h.DictAt (yv P w) a vs ep
theorem eA{k:zr}(h:(yv P w).is k u=true):RelV (kV k) u:=by
 rcases vL (show tG k u=true from h) with⟨i,t,rfl,rfl⟩|⟨x,t,rfl,rfl⟩
 .exact⟨t,J⟩
 .exact⟨t,J⟩
theorem oQ{h:Heap}(B:AJ P w H h)(e:H a=some (dE P w a ep a')):(a==QV)=false/\a'.length<=sizeLine/\∃vs,KV a' vs/\h.DictAt (yv P w) a vs ep:=
 (show Al P w H h a (dE P w a ep a') from B a _ e).1
variable {Δ:List (Addr×Obj)}{σ:St}
theorem WK(B:Inv X Δ σ H s)(e:H a=some (.dK a')):∃ep,Inv X Δ σ (c' H a (dE X.prog X.w a ep a')) s:=by
 obtain⟨z,G,vs,I,dd⟩:=qh B.hok e;obtain⟨ep,D⟩:=dd.dictAt;obtain⟨o,es,F,r⟩:=id D;refine⟨ep,tV (h':=s.heap) (t':=s.toks) B (by rw[e];exact QT) ⟨J,λ_ _=>rfl⟩ ⟨o,F⟩ ⟨⟨G,z,vs,I,D⟩,⟨o,F⟩,?_⟩⟩;rintro W Y ⟨J0,L,M,O,o',R,S,U⟩ V;exact⟨J0,L,M,O,o',R,V _ S,U⟩
noncomputable def qr(P:U2)(w:Rz)(d:Addr)(ep:Nat)(a':List (zr×V)):It:=
 ⟨λi H=>H d=some (dE P w d ep a')/\i<a'.length,λi H x H'=>H'=H/\∃p,a'[i]?=some p/\x=kV p.1,λi H=>H d=some (dE P w d ep a')/\a'.length<=i⟩
theorem KV.at{κ:Type}{a':List (κ×V)}{vs:List (κ×X3)}(r:KV a' vs){i:Nat}{p:κ×V}(h:a'[i]?=some p):∃u,vs[i]?=some (p.1,u):=by
 induction r generalizing i with
 |nil=>simp at h
 |cons q t B=>
  cases i with
  |zero=>
   rename_i a b _ _;simp at h;subst h;exact⟨b.2,by simp[q.1]⟩
  |succ i=>exact B (by simpa using h)
theorem WL{K:W.Frag}(d it:Addr)(ep:Nat)(a':List (zr×V)):vN P w K tg (qr P w d ep a') [it] it (λi h=>h.IsKeyIter it d i a'.length ep) where
 mem:=by simp
 obj:=λi h st b B=>by
  have e:b=it:=by simpa using B
  subst e;obtain⟨o,e,c,d⟩:=st;exact⟨o,e,λv z=>by rw[d] at z;cases z⟩
 keep:=λi h h' st k=>let ⟨o,e,r⟩:=st;⟨o,k it (by simp) o e,r⟩
 item:=by
  intro X J0 hw L ac i Δ s σ H E D G st M;subst J0 hw L;obtain⟨O,hi⟩:=M;obtain⟨_,_,vs,I,R⟩:=oQ D.hok O;have F:=KV.length I;obtain⟨p,ad⟩:∃p,a'[i]?=some p:=⟨a'[i],by simp[hi]⟩;obtain⟨u,ae⟩:=KV.at I ad;obtain⟨S,U,af,Y,Z,aa⟩:=G it (by simp);rw[F] at st;refine wpAny_pyNext_dict_item st R ae λag h' ah ab ai=>?_;have aj:Inv X Δ σ H { s with heap:=h' }:=D.turned (t':=s.toks) (λb o B e=>(ai.2 b B).trans e) S U Y Z aa;obtain⟨o,e,c,d⟩:=id ab;rw[←F] at ab;exact⟨ag,J,sP (s:={ s with heap:=h' }) e c d (by decide) ⟨kV p.1,H,aj,eA ah,⟨J,p,ad,J⟩,ab,λb B=>(G b B).1⟩⟩
 done:=by
  intro X J0 hw L ac i Δ s σ H E D G st M;subst J0 hw L;obtain⟨O,hi⟩:=M;obtain⟨_,_,vs,I,R⟩:=oQ D.hok O;have F:=KV.length I;obtain⟨S,U,af,Y,Z,aa⟩:=G it (by simp);rw[F] at st;exact wpAny_pyNext_dict_end (D.ok.hd ac) st R (by simp;exact xq (RH F) hi) λh' ak=>⟨J,D.turned (t':=s.toks) (λb o B e=>ak b o B e) S U Y Z aa⟩
 self:=λA i s Q E st h=>by
  refine wpAny_pyIter_slot st.typeIs OP (Ow OP st.typeIs PySem.F.entry_dict_keyiterator_iter ?_ (PySem.F.args_dict_keyiterator_iter_1 _));show Rj _ _ (ret (.ref it)) _ _ s;exact S3 ⟨_,J,"dict_keyiterator",_,st.typeIs,PySem.F.slot_dict_keyiterator_next.lookup,h⟩
theorem WM{d:Addr}{g:TG}{tb:TS}{D:xM}{σ:St}(Pv:Nat->St->Hp->Prop)(I:Pv 0 σ H)(J0:∀i σ H,i<=a'.length->Pv i σ H->H d=some (dE P w d ep a'))(L:∀i p σ H,a'[i]?=some p->Pv i σ H->g (kV p.1) σ H λF H2=>tb { D with nx:=Pv (i+1),ct:=Pv (i+1),bk:=D.nx } F H2)(M:∀σ H,Pv a'.length σ H->D.nx σ H) :
  ∃W:Nat->Nat->St->Hp->Prop,(∃m,W 0 m σ H)/\∀i m σ H,W i m σ H ->
   ((qr P w d ep a').stop i H/\D.nx σ H)∨((qr P w d ep a').go i H/\∃N:St->Hp->Prop,(∀σ' H',N σ' H'->∃G,G<m/\W (i+1) G σ' H')/\∀x H',(qr P w d ep a').yld i H x H'->g x σ H' λF H2=>tb { D with nx:=N,ct:=N,bk:=D.nx } F H2):=by
 refine⟨λi m σ H=>m=a'.length-i/\i<=a'.length/\Pv i σ H,⟨a'.length,by simp,X7 _,I⟩,?_⟩;rintro i m σ H ⟨rfl,hi,p⟩;have q:=J0 i σ H hi p;by_cases B:i<a'.length
 .refine .inr ⟨⟨q,B⟩,Pv (i+1),λσ' H' O=>⟨a'.length-(i+1),by exact vK B,J,B,O⟩,λx H' y=>?_⟩;obtain⟨e,R,y,ex⟩:=y;subst e ex;exact L i R σ _ y p
 .have e:i=a'.length:=RU hi (Qt.1 B);subst e;exact .inl ⟨⟨q,X2 _⟩,M σ H p⟩
theorem WN{ys:List V}:∀ {its:List X3},ys.length=its.length->(∀(j:Nat) (y:V) (v:X3),ys[j]?=some y->its[j]?=some v->RelV y v)->Af ys its:=by
 induction ys with
 |nil=>
  intro its h _;cases its with
  |nil=>exact .nil
  |cons _ _=>cases h
 |cons y r B=>
  intro its h g;cases its with
  |nil=>cases h
  |cons u t=>exact .cons (g 0 y u J J) (B (IP h) λj a b h1 h2=>g (j+1) a b h1 h2)
noncomputable def WO(P:U2)(w:Rz)(te:TE):TE:=λσ H Q=>te σ H λx H1=>∃a a',x=.ref a/\H1 a=some (.dK a')/\∀ep,Q (.ref a) (c' H1 a (dE P w a ep a'))
theorem kJ{te:TE}(B:PE X e te):PE X e (WO X.prog X.w te):=by
 intro Δ s σ H Q D h;refine zo (B Δ s σ H _ D h) λu M F=>?_;obtain⟨x,H1,G,I,a,a',ex,J0,q⟩:=F;subst ex;obtain⟨ep,L⟩:=WK G J0;exact⟨.ref a,_,L,I,q ep⟩
noncomputable def WP(P:U2)(w:Rz)(td:TE):TI:=λσ H R=>td σ H λx H1=>∃a ep a',x=.ref a/\H1 a=some (dE P w a ep a')/\R (qr P w a ep a') H1
theorem WQ{l:R8}(F:PE X l td):PI X tg l (WP X.prog X.w td):=by
 intro Δ s σ H R G h;refine zo (F Δ s σ H _ G h) λv B I=>?_;obtain⟨x,H1,D,J0,q1⟩:=I;obtain⟨a,ep,a',e,L,q⟩:=q1;subst e;cases J0;obtain⟨M,_,vs,O,S⟩:=oQ D.hok L;refine wpAny_pyIter_dict M S ?_;refine⟨B.heap.objs.size,[B.heap.objs.size],_,_,_,J,D.kept (t':=B.toks) λb o e=>W0 _ e,WL a _ ep a',?_,λb U=>?_,q⟩
 .rw[KV.length O];exact⟨_,Ru _ J,J,J⟩
 .have e:b=B.heap.objs.size:=by simpa using U
  subst e;exact D.fpOk (X2 _) (D.hok.fresh (X2 _))
noncomputable def WR(P:U2)(w:Rz)(td ty:TE):TE:=λσ H Q=>td σ H λx H1=>∃a,x=.ref a/\fQ H1 a/\ty σ H1 λy H2=>∃o a' ep B,y=.ref o/\a≠o/\H2 a=some (.dK a')/\H2 o=some (dE P w o ep B)/\a'.length+B.length<=sizeLine/\Q .non (c' H2 a (.dK (vz a' B)))
theorem eB{apos g6:Pos}{ty:TE}(R:PE X o td)(B:PE X e ty)(m:M1 X o "update" apos e g6):PE X (.Call (.Attribute o "update" apos) [e] [] g6) (WR X.prog X.w td ty):=by
 intro Δ s σ H Q S h;refine wpAny_Call_method m.base m.few m.line PySem.F.plainAttrs_dict Mr PySem.F.type_dict_update (zo (R Δ s σ H _ S h) λu U D=>?_);obtain⟨x,H1,G,V,a,ex,d,q1⟩:=D;subst ex;obtain rfl:u=RS a:=V;obtain⟨W,Y,_⟩:=Wu G d;refine⟨W,Y,?_⟩;rw[m.trees];refine P0 rfl (Nq (Px (zo (B Δ U σ H1 _ G q1) λaq Z D=>?_)));obtain⟨y,H2,F,aa,o',a',ep,ab,ac,ad,I,ae,J0,af⟩:=D;refine Of ?_;subst ac;cases aa;obtain⟨_,ag,vs,L,dd⟩:=qh F.hok I;obtain⟨ah,ar,ai,M,aj⟩:=oQ F.hok ae;have ak:=KV.length L;have al:=KV.length M;refine call_meetsIn Mr dd.typeIs PySem.F.entry_dict_update (PySem.F.args_dict_update_2 _ _) (meets_dict_update (yv X.prog X.w) a o' ad ah) ⟨vs,ai,dd,aj.dictOf,by exact lD J0 ak al,λh' O as am=>?_⟩;have ao:=kE ab a';have B:∃q,h'.get? a=some q:=let ⟨q,_,_,ap,_⟩:=O;⟨q,ap⟩;exact⟨.non,_,tV (h':=h') (t':=Z.toks) F (by rw[I];exact QT) am B (kA (S5 ao J0) ag (M.merge L) O),J,af⟩
theorem WS(R:X.calm=true):xY X (.type "list") (λxs H Q=>∃(a:Addr) (a':List (zr×V)),xs=[.ref a]/\H a=some (.dK a')/\∀l,H l=none->Q (.ref l) (c' H l (.lst (a'.map λF=>kV F.1)))):=by
 intro Δ s σ H xs us Q D r h;obtain⟨a,a',rfl,S,q⟩:=h;obtain⟨u,rfl,U⟩:=wD r;cases U;obtain⟨I,Y,vs,J0,dd⟩:=qh D.hok S;obtain⟨ep,Z⟩:=dd.dictAt;have L:=KV.length J0;refine R7 (n:=X.t0) D.tk ?_;refine W.kdl_call (W.kdl_dict (knd:=yv X.prog X.w) (ep:=ep) Y) (D.ok.hd R) Z (xq (RH L) I) λh' tk G aa ab ac M O=>?_;have O:X.t0<=tk:=O;refine⟨.ref _,_,D.laid (t':=tk) (o:=.lst (a'.map λF=>kV F.1)) ab (X2 _) ?_,J,q _ (D.hok.fresh (X2 _))⟩;refine⟨by rw[X5];exact I,G.toList,aa,WN (by rw[X5];have h1:=M.1;have h2:G.toList.length=G.size:=ND;exact Jt L (RH h1)) (λk y v h1 h2=>?_),by simpa using ac⟩;obtain⟨af,ag,B,ad⟩:=M.2 k v (by rw[←Kc];exact h2);rw[RF] at h1;cases e:a'[k]? with
 |none=>rw[e] at h1;cases h1
 |some p=>
  rw[e] at h1;injection h1 with h1;obtain⟨ah,ae⟩:=KV.at J0 e;rw[ae] at B;injection B with B;injection B with B _;rw[←h1];show RelV (kV p.1) v;rw[B];exact eA ad
noncomputable def NW(K:W.Frag)(H:Hp):yg->V->Prop
 |.inl k,v=>v=kV k
 |.inr l,v=>∃d,v=.ref d/\Ah K H d (l.map kV)
noncomputable def AC(K:W.Frag)(H:Hp)(ks:List yg)(a:Addr):Prop:=∃vs,H a=some (.tup vs)/\Paired (NW K H) ks vs
noncomputable def AT(K:W.Frag)(H:Hp)(sh:List Bool)(a':List yU):Prop:=∀p∈a',AC K H p.1 p.2.1/\p.1.map Q1=sh
section
variable {K:W.Frag}{a':List yU}
theorem NW.same{x:yg}{v:V}(h:NW K H x v)(s:Aa H H'):NW K H' x v:=by
 cases x with
 |inl _=>exact h
 |inr l=>obtain⟨d,e,h2⟩:=h;exact⟨d,e,by
   rcases h2 with(h|⟨o,h⟩)|h
   .exact .inl (.inl (s _ _ h))
   .exact .inl (.inr ⟨o,s _ _ h⟩)
   .exact .inr h⟩
theorem AC.same{ks:List yg}(r:AC K H ks a)(s:Aa H H'):AC K H' ks a:=by
 obtain⟨vs,e,r⟩:=r;refine⟨vs,s _ _ e,?_⟩;clear e;induction r with
 |nil=>exact .nil
 |cons h1 _ B=>exact .cons (h1.same s) B
theorem AT.same(r:AT K H sh a')(s:Aa H H'):AT K H' sh a':=λp B=>⟨(r p B).1.same s,(r p B).2⟩
end
section
variable {a':List yU}
theorem WT{l:List zr}(B:Inv X Δ σ H s)(h:Ah X.K H a (l.map kV)):MW (yv X.prog X.w) s.heap l a:=by
 obtain⟨its,r,⟨o,h1,h2,n,D⟩,_⟩:=B.tuple h;exact⟨o,its.toArray,n,h1,h2,D,by simpa using ky r⟩
theorem kL{ks:List yg}(D:Inv X Δ σ H s)(e:AC X.K H ks a):Ar X.prog X.w s.heap ks a:=by
 obtain⟨vs,e,r⟩:=e;obtain⟨its,B,⟨o,h1,h2,n,G⟩,_⟩:=D.tuple (Ah.of e);refine⟨o,its.toArray,n,h1,h2,G,?_⟩;have I:∀ {ks:List yg} {vs:List V} {us:List X3},Paired (NW X.K H) ks vs->Af vs us->Au X.prog X.w s.heap ks us:=by
  intro ks vs us r;induction r generalizing us with
  |nil=>intro B;cases B;exact .nil
  |@cons x v xs vs h1 _ J0=>
   intro B;cases B with
   |@cons _ u _ us F B=>
    refine .cons ?_ (J0 B);cases x with
    |inl k=>
     obtain rfl:v=kV k:=h1;exact kH F
    |inr l=>
     obtain⟨d,rfl,h2⟩:=h1;obtain rfl:u=RS d:=F;exact⟨d,J,WT D h2⟩
 exact I r B
theorem eC(B:Inv X Δ σ H s)(e:H a=some (dN X.prog X.w sh a a'))(G:AT X.K H sh a'):(a==QV)=false/\a'.length<=sizeLine/\∃xs,Paired uQ a' xs/\s.heap.DictOfH (uP X.prog X.w sh) a xs:=by
 obtain⟨⟨h1,h2,xs,r,o,es,ep,I,J0,L,M,O⟩,_,_⟩:=(show Al X.prog X.w H s.heap a (dN X.prog X.w sh a a') from B.hok a _ e);refine⟨h1,h2,xs,r,o,es,ep,I,J0,L,M,λx hx=>?_,O⟩;have R:∀ {l:List yU} {m:List (List yg×Addr×X3)},Paired uQ l m->(∀p∈l,AC X.K H p.1 p.2.1/\p.1.map Q1=sh)->∀x∈m,(uP X.prog X.w sh).is s.heap x.1 x.2.1:=by
  intro l m q;induction q with
  |nil=>intro _ x hx;exact nomatch hx
  |@cons p q ps V D t S=>
   intro F x hx;rcases S7.mp hx with e|hx
   .subst e;have:=F p W8;rw[D.1,D.2.1] at this;exact⟨kL B this.1,this.2⟩
   .exact S (λp U=>F p (T7 _ U)) x hx
 exact R r G x hx
end
noncomputable def WU(P:U2)(w:Rz)(K:W.Frag)(sh:List Bool):R2:=λx y H Q=>∃a r ks a' v,x=.ref a/\y=.ref r/\H a=some (dN P w sh a a')/\AT K H sh a'/\AC K H ks r/\ks.map Q1=sh/\yG a' ks=some v/\Q v H
theorem oR{ty:TE}(D:X.A.units+6<cLine)(sh:List Bool)(F:PE X o td)(hi:PE X i ty)(G:oN i):PE X (.Subscript o i pos) (tK (WU X.prog X.w X.K sh) td ty):=by
 intro Δ s σ H Q I h;refine kC Oy.lookup G (zo (F Δ s σ H _ I h) λu J0 L=>?_);obtain⟨x,H1,M,O,q1⟩:=L;refine zo (hi Δ J0 σ H1 _ M q1) λag ah R=>?_;obtain⟨y,H2,B,S,a,r,ks,a',v,ex,U,V,W,Y,Z,aa,ab⟩:=R;subst ex U;cases O;cases S;obtain⟨ai,aj,xs,ac,dd⟩:=eC B V W;refine⟨dd.typeIs,?_⟩;obtain⟨ak,hw,ad⟩:=AB.some_of (v:=v) (o:=(OU xs ks).map (·.2)) (by rw[←aa];exact qp ac ks);obtain⟨p,ae,af⟩:=P2.mp hw;refine NT (qq D sh) ⟨kL B Y,Z⟩ dd ae ?_;rw[af];exact⟨v,H2,B.tok _,ad,ab⟩
noncomputable def WV(P:U2)(w:Rz)(K:W.Frag)(sh:List Bool):rR:=λo i v H Q=>∃a r ks a',o=.ref a/\i=.ref r/\H a=some (dN P w sh a a')/\AT K H sh a'/\AC K H ks r/\ks.map Q1=sh/\yG a' ks=none/\a'.length<sizeLine/\Q (c' H a (dN P w sh a (a'++[(ks,r,v)])))
theorem WW(L:X.A.units+6<cLine)(sh:List Bool):on X (WV X.prog X.w X.K sh):=by
 intro Δ s σ H o i v ar as u Q B M O R h;obtain⟨a,r,ks,a',rfl,rfl,I,S,U,V,W,Y,q⟩:=h;cases M;cases O;obtain⟨Z,aa,xs,D,dd⟩:=eC B I S;have ab:OU xs ks=none:=by
  have e:=(qp D ks).isSome_eq;rw[Oh,W] at e;cases g:OU xs ks with
  |none=>rfl
  |some _=>rw[g] at e;cases e
 refine NX (hsz:=by rw[←Paired.length D];exact aa) (qq L sh) ⟨kL B U,V⟩ dd λh' J0 ac=>?_;rw[storedH_new ab] at J0;obtain⟨F,es,ep,G,h2,ad,ae,_,af⟩:=J0;have ag:(a==QV)=false/\(a'++[(ks,r,v)]).length<=sizeLine/\∃xs,Paired uQ (a'++[(ks,r,v)]) xs/\∃o es ep,h'.get? a=some o/\o.ExactDict/\o.data=.dict es ep/\es.toList=xs.map (K0 (uP X.prog X.w sh))/\(xs.map (·.1)).Nodup:=
  ⟨Z,by rw[X4];show _+1<=_;exact Y,xs++[(ks,r,u)],Paired.snoc D ⟨J,J,R⟩,F,es,ep,G,h2,ad,ae,af⟩
 refine⟨c' H a (dN X.prog X.w sh a (a'++[(ks,r,v)])),tV B (by rw[I];exact QT) ac ⟨F,G⟩ ⟨ag,⟨F,G⟩,?_⟩,q⟩;rintro au av ⟨ah,ai,aj,ak,o',al,am,ao,ap⟩ aq;exact⟨ah,ai,aj,ak,o',al,am,aq _ ao,ap⟩
end L2
namespace T1
open PySem PySem.Spec PyProof.Rows L2
theorem vals_ref:∀ {B:List V}{its:List X3},Af B its->(∀v∈B,∃a,v=.ref a)->∀(i:Nat) (u:X3),its[i]?=some u->∃a,u=.ref a/\B[i]?=some (.ref a)
 |_,_,.nil,_=>λi u h=>by simp at h
 |v::B,J0::its,.cons r t,D=>λi u h=>by
  cases i with
  |zero=>
   simp at h;subst h;obtain⟨a,rfl⟩:=D v W8;cases r;exact⟨a,J,J⟩
  |succ i=>
   obtain⟨a,F,G⟩:=vals_ref t (λv I=>D v (T7 _ I)) i u (by simpa using h);exact⟨a,F,by simpa using G⟩
end T1
namespace L2
open PySem PySem.Spec PyProof.Rows
variable {X:Cx}
section
variable {Δ:List (Addr×Obj)}{σ:St}{H:Hp}{s:X9}{a:Addr}
theorem oS{l:List zr}(D:Inv X Δ σ H s)(h:Ah X.K H a (l.map kV))(P:U2)(w:Rz):Ar P w s.heap (l.map Pq) a:=by
 obtain⟨its,r,⟨o,h1,h2,n,F⟩,_⟩:=D.tuple h;refine⟨o,its.toArray,n,h1,h2,F,?_⟩;have G:∀ {l:List zr} {us:List X3},Af (l.map kV) us->Au P w s.heap (l.map Pq) us:=by
  intro l;induction l with
  |nil=>intro us B;cases B;exact .nil
  |cons k l I=>
   intro us B;cases B with
   |cons J0 B=>exact .cons (kH J0) (I B)
 exact G r
theorem kM{B F:Type}{f:B->F}(D:∀a b,f a=f b->a=b):∀ {l m:List B},l.map f=m.map f->l=m
 |[],[],_=>rfl
 |[],_::_,h=>nomatch h
 |_::_,[],h=>nomatch h
 |a::l,b::m,h=>by
  rw[RD,RD] at h;injection h with h1 h2;rw[D _ _ h1,kM D h2]
theorem eD{l m:List zr}:(decide ((l.map Pq:List yg)=m.map Pq))=decide (l=m):=by
 refine decide_eq_decide.mpr ⟨λh=>?_,λh=>by rw[h]⟩;exact kM (λa b e=>by injection e) h
theorem oT(l:List zr):(l.map Pq:List yg).map Q1=R3 l.length true:=by
 induction l with
 |nil=>rfl
 |cons a r B=>rw[RD,RD,B];rfl
end
noncomputable def WX(K:W.Frag):R2:=λx y H Q=>∃(a b:Addr) (l m:List zr),x=.ref a/\y=.ref b/\Ah K H a (l.map kV)/\Ah K H b (m.map kV)/\l.length=m.length/\Q (.bl (decide (l=m))) H
theorem eE(F:X.A.units+4<cLine):yt X (Qv .Eq) (WX X.K):=by
 intro Δ s σ H x y v u Q B I J0 h;obtain⟨a,b,l,m,rfl,rfl,L,M,O,q⟩:=h;cases I;cases J0;have D:=oS B L X.prog X.w;have G:=oS B M X.prog X.w;show Rj _ _ (Me .Eq _ _) _ _ _;refine NI (op:=.Eq) D.typeIs G.typeIs Ke
   (Ow Ke D.typeIs PySem.F.entry_tuple_eq (fY (by first|exact(show X.A.units+1<cLine by exact lF F)|exact(show X.A.units+2<cLine by omega)|exact(show X.A.units<cLine by omega)) D G (by rw[oT,oT,O]) ⟨_,J,(λe=>nomatch e),?_⟩) (PySem.F.args_tuple_eq_2 _ _)) (by exact lG F)
 rw[eD];exact⟨.bl _,H,B,J,q⟩
noncomputable def WY(K:W.Frag):R2:=λx y H Q=>∃(a p:Addr) (B:List Addr) (l:List zr) (D:List (List zr)),x=.ref a/\y=.ref p/\H p=some (.lst (B.map V.ref))/\Ah K H a (l.map kV)/\B.length=D.length/\(∀i (h:i<B.length),Ah K H B[i] ((D.getD i []).map kV)/\(D.getD i []).length=l.length)/\Q (.bl (!(D.any λm=>decide (m=l)))) H
theorem WZ(W:X.A.units+6<cLine):yt X (Qv .NotIn) (WY X.K):=by
 intro Δ s σ H x y v u Q I Y Z h;obtain⟨a,p,M,l,F,rfl,rfl,aa,ab,U,O,q⟩:=h;cases Y;cases Z;obtain⟨its,r,pl,ai⟩:=I.list (Ad.of aa);have G:=r.length;rw[X5] at G;have ac:=T1.vals_ref r (λv ad=>by obtain⟨b,_,rfl⟩:=S4.mp ad;exact⟨b,J⟩);have R:∀i (hi:i<its.length),its[i]=RS (M[i]'(zU hi G)):=λi hi=>by
  obtain⟨b,ae,D⟩:=ac i its[i] (by simp[hi]);rw[ae];have:M[i]?=some b:=by
   rw[RF] at D;cases g:M[i]? with
   |none=>rw[g] at D;cases D
   |some c=>rw[g] at D;injection D with D;injection D with D;rw[D]
  rw[X1 (zU hi G)] at this;injection this with this;rw[this]
 have af:∀i (hi:i<its.length),decide (∃j,∃B:j<its.length,its[j]=its[i]/\F.getD j []=l)=decide (F.getD i []=l):=λi hi=>by
  refine decide_eq_decide.mpr ⟨?_,λg=>⟨i,hi,J,g⟩⟩;rintro⟨j,B,J0,g⟩;rw[R i hi,R j B] at J0;injection J0 with J0;have h1:=(O i (zU hi G)).1;have h2:=(O j (zU B G)).1;rw[J0] at h2;have e:=I.tuple_inj h1 h2;have inj:∀ {x y:List zr},x.map kV=y.map kV->x=y:=λ{x y} h=>kM (λa b e=>by
   rcases a with a|a<;>rcases b with b|b
   .have:V.int a=V.int b:=e;injection this with this;rw[this]
   .have:V.int a=V.str b:=e;cases this
   .have:V.str a=V.int b:=e;cases this
   .have:V.str a=V.str b:=e;injection this with this;rw[this]) h
  rw[inj e];exact g
 refine SeqAt.notIn_listAt (λw=>decide (∃j,∃B:j<its.length,its[j]=w/\F.getD j []=l)) pl.isList (λw hw=>?_) ⟨.bl _,H,I,J,?_⟩
 .have hw:w∈its:=by simpa using hw
  obtain⟨i,hi,rfl⟩:=Pj.mp hw;show K7 X.A.in1 s its[i] _ (decide _);rw[af i hi,R i hi];intro P w E aj S;obtain⟨h1,h2⟩:=O i (zU hi G);refine fZ (x:=(F.getD i []).map Pq) (y:=l.map Pq) (by show X.A.units+1+4<cLine;exact RL W) (oS I h1 P w) (oS I ab P w) (by rw[oT,oT,h2]) ?_;rw[eD];exact S
 .have e:its.toArray.any (λw=>decide (∃j,∃B:j<its.length,its[j]=w/\F.getD j []=l))=F.any λm=>decide (m=l):=by
   rw[QX];simp only[List.any_toArray,Qx];constructor
   .rintro⟨w,hw,S⟩;obtain⟨j,B,_,g⟩:=Qxc S;have L:j<F.length:=by exact ag U G B
    exact⟨F.getD j [],by simp[L],Qxd g⟩
   .rintro⟨e,ah,g⟩;obtain⟨j,B,rfl⟩:=Pj.mp ah;have L:j<its.length:=by exact bG U G B
    exact⟨its[j],RT L,Qxd ⟨j,L,J,by simpa [B] using g⟩⟩
  rw[e];exact q
noncomputable def qt(lo st:Int)(n:Nat):It:=⟨λi _=>i<n,λi H x H'=>H'=H/\x=.int (lo+i*st),λi _=>n<=i⟩
theorem W1{P:U2}{w:Rz}{K:W.Frag}{tg:R8}(it:Addr)(lo c:Int)(n:Nat):vN P w K tg (qt lo c n) [it] it (λi h=>N8 h it (lo+(i:Nat)*c) ((n:Int)-(i:Nat)) c) where
 mem:=by simp
 obj:=λi h st b B=>by
  have e:b=it:=by simpa using B
  subst e;exact⟨_,st,λv z=>by
   have z':JO _=Data.cell v:=z;cases z'⟩
 keep:=λi h h' st k=>k it (by simp) _ st
 item:=by
  intro X G hw I J0 i Δ s σ H E D F st L;subst G hw I;obtain⟨M,O,Z,R,S,U⟩:=F it (by simp);have W:=I0 (prog:=X.prog) (w:=X.w) (D.ok.hd J0) it lo c n;refine R7 (n:=X.t0) D.tk ?_;refine W.item i s _ _ L st λv h' tk aa V ab Y=>?_;have Y:X.t0<=tk:=Y;obtain⟨t,rfl⟩:=aa;have ac:Inv X Δ σ H { s with heap:=h',toks:=tk }:=D.turned (λb o B e=>ab b o (by simpa using B) e) M O R S U;exact⟨_,J,sP (s:={ s with heap:=h',toks:=tk }) (n:="range_iterator") V J J (by decide) ⟨.int (lo+i*c),H,ac,⟨t,J⟩,⟨J,J⟩,V,λb B=>(F b B).1⟩⟩
 done:=by
  intro X G hw I J0 i Δ s σ H E D F st L;subst G hw I;obtain⟨M,O,Z,R,S,U⟩:=F it (by simp);exact MO (D.ok.hd J0) st (by have:n<=i:=L;exact hZ this) λh' ad=>⟨J,D.turned (t':=s.toks) (λb o B e=>ad b o B e) M O R S U⟩
 self:=λ_ _ _ _ _ st h=>OX st h
section
variable {tg:R8}
theorem W2{lo st:Int}{n:Nat}{g:TG}{tb:TS}{D:xM}{σ:St}{H:Hp}(Pv:Nat->St->Hp->Prop)(I:Pv 0 σ H)(J0:∀i σ H,i<n->Pv i σ H->g (.int (lo+i*st)) σ H λF H2=>tb { D with nx:=Pv (i+1),ct:=Pv (i+1),bk:=D.nx } F H2)(L:∀σ H,Pv n σ H->D.nx σ H) :
  ∃W:Nat->Nat->St->Hp->Prop,(∃m,W 0 m σ H)/\∀i m σ H,W i m σ H ->
   ((qt lo st n).stop i H/\D.nx σ H)∨((qt lo st n).go i H/\∃N:St->Hp->Prop,(∀σ' H',N σ' H'->∃G,G<m/\W (i+1) G σ' H')/\∀x H',(qt lo st n).yld i H x H'->g x σ H' λF H2=>tb { D with nx:=N,ct:=N,bk:=D.nx } F H2):=by
 refine⟨λi m σ H=>m=n-i/\i<=n/\Pv i σ H,⟨n,by simp,X7 _,I⟩,?_⟩;rintro i m σ H ⟨rfl,hi,p⟩;by_cases B:i<n
 .refine .inr ⟨B,Pv (i+1),λσ' H' M=>⟨n-(i+1),by exact vK B,J,B,M⟩,λx H' y=>?_⟩;obtain⟨e,y⟩:=y;subst e y;exact J0 i σ _ B p
 .have e:i=n:=RU hi (Qt.1 B);subst e;exact .inl ⟨X2 _,L σ H p⟩
end
end L2
namespace PySem
section
variable {prog:U2}{w:Rz}{A:QG}{E:X3->X9->Prop}{s:X9}
end
end PySem
namespace L2
open PySem PySem.Spec PyProof.Rows
variable {P:U2}{w:Rz}{K:W.Frag}{X:Cx}{ta:TA}{g:TG}{tb:TS}{f r:Addr}{i n:Nat}{t u v:Tok}{st:Stmt}{fd:FuncData}{N ps:List Str}{sp:Sp}
theorem eF:Qq "reversed"=some (.type "reversed"):=by lia
noncomputable def qu(K:W.Frag)(a:Addr)(xs:List V):It:=⟨λi H=>Ad K H a xs/\i<xs.length,λi H v H'=>H'=H/\xs[xs.length-1-i]?=some v,λi H=>Ad K H a xs/\xs.length<=i⟩
theorem W3{tg:R8}(a it:Addr)(xs:List V):vN P w K tg (qu K a xs) [it] it (λi h=>i<=xs.length/\h.IsRevIter it a ((xs.length:Int)-1-(i:Int))) where
 mem:=by simp
 obj:=λi h st b B=>by
  have e:b=it:=by simpa using B
  subst e;obtain⟨_,o,e,c,d⟩:=st;exact⟨o,e,λv z=>by rw[d] at z;cases z⟩
 keep:=λi h h' st k=>⟨st.1,st.2.at λo e=>k it (by simp) o e⟩
 item:=by
  intro X I hw J0 Z i Δ s σ H E D G st L;subst I hw J0;obtain⟨aa,hi⟩:=L;obtain⟨its,ad,p,am⟩:=D.list aa;have ab:xs.length-1-i<xs.length:=by omega
  obtain⟨u,ae,af⟩:=ad.get (X1 ab);obtain⟨M,O,ag,R,S,U⟩:=G it (by simp);have e:(xs.length:Int)-1-(i:Int)=((xs.length-1-i:Nat):Int):=by exact bF hi
  have F:=st.2;rw[e] at F;refine wpAny_pyNext_rev_item F p.isList (x:=u) (by simpa using ae) λh' Y ah=>?_;have ai:Inv X Δ σ H { s with heap:=h' }:=D.turned (t':=s.toks) (λb o B e=>(ah.2 b B).trans e) M O R S U;obtain⟨o,aj,c,d⟩:=id Y;have ak:((xs.length-1-i:Nat):Int)-1=(xs.length:Int)-1-((i+1:Nat):Int):=by exact ac e
  rw[ak] at Y;exact⟨u,J,sP (s:={ s with heap:=h' }) aj c d (by decide) ⟨xs[xs.length-1-i],H,ai,af,⟨J,X1 ab⟩,⟨by exact bS e,Y⟩,λb B=>(G b B).1⟩⟩
 done:=by
  intro X I hw J0 Z i Δ s σ H E D G st L;subst I hw J0;obtain⟨aa,hi⟩:=L;obtain⟨M,O,ag,R,S,U⟩:=G it (by simp);have e:(xs.length:Int)-1-(i:Int)=-1:=by have:=st.1;omega
  have F:=st.2;rw[e] at F;exact wpAny_pyNext_rev_end (D.ok.hd Z) F λh' al=>⟨J,D.turned (t':=s.toks) (λb o B e=>al b o B e) M O R S U⟩
 self:=λ_ _ _ _ _ st h=>Kp st.2 h
noncomputable def W4(K:W.Frag)(ta:TA):TI:=λσ H R=>ta σ H λvs H1=>∃a xs,vs=[.ref a]/\Ad K H1 a xs/\R (qu K a xs) H1
theorem W7{tg a:R8}{p pos:Pos}(G:Gl X "reversed")(I:X.mg "reversed"=none)(J0:PA X [a] ta)(L:T2 [a] X.env=[(false,eval a X.env)]:=by rfl):PI X tg (.Call (.Name "reversed" p) [a] [] pos) (W4 X.K ta):=by
 intro Δ s σ H R F h;refine Call_ (wz F G I eF (QF (zo (J0 pos Δ s σ H _ F h) λus B M=>?_) L J));obtain⟨vs,H1,D,O,q1⟩:=M;obtain⟨l,xs,e,S,q⟩:=q1;subst e;cases O with
 |cons r U=>
  cases U;cases r;obtain⟨its,V,pl,Z⟩:=D.list S;have aa:=V.length;refine call_reversed_list pl.isList ?_;have W:∀b∈[B.heap.objs.size],xN X Δ H1 b:=λb Y=>by
   have e:b=B.heap.objs.size:=by simpa using Y
   subst e;exact D.fpOk (X2 _) (D.hok.fresh (X2 _))
  have st:Heap.IsRevIter (B.heap.push (revObj l ((its.toArray.size:Int)-1))) B.heap.objs.size l ((its.toArray.size:Int)-1):=⟨_,Ru _ J,J,J⟩;refine Kp st ⟨B.heap.objs.size,[B.heap.objs.size],_,_,H1,J,D.kept (t':=B.toks) λb o e=>W0 _ e,W3 l _ xs,⟨X7 _,?_⟩,W,q⟩;have e:(xs.length:Int)-1-((0:Nat):Int)=(its.toArray.size:Int)-1:=by
   rw[T4];omega
  rw[e];exact st
theorem W9{a:Addr}{xs:List V}{D:xM}{σ:St}{H:Hp}(Pv:Nat->St->Hp->Prop)(I:Pv 0 σ H)(J0:∀i σ H,i<=xs.length->Pv i σ H->Ad K H a xs)(L:∀i x σ H,i<xs.length->xs[xs.length-1-i]?=some x->Pv i σ H->g x σ H λF H2=>tb { D with nx:=Pv (i+1),ct:=Pv (i+1),bk:=D.nx } F H2)(M:∀σ H,Pv xs.length σ H->D.nx σ H) :
  ∃W:Nat->Nat->St->Hp->Prop,(∃m,W 0 m σ H)/\∀i m σ H,W i m σ H ->
   ((qu K a xs).stop i H/\D.nx σ H)∨((qu K a xs).go i H/\∃N:St->Hp->Prop,(∀σ' H',N σ' H'->∃G,G<m/\W (i+1) G σ' H')/\∀x H',(qu K a xs).yld i H x H'->g x σ H' λF H2=>tb { D with nx:=N,ct:=N,bk:=D.nx } F H2):=by
 refine⟨λi m σ H=>m=xs.length-i/\i<=xs.length/\Pv i σ H,⟨xs.length,by simp,X7 _,I⟩,?_⟩;rintro i m σ H ⟨rfl,hi,p⟩;have q:=J0 i σ H hi p;by_cases B:i<xs.length
 .refine .inr ⟨⟨q,B⟩,Pv (i+1),λσ' H' O=>⟨xs.length-(i+1),by exact vK B,J,B,O⟩,λx H' y=>?_⟩;obtain⟨e,y⟩:=y;subst e;exact L i x σ _ B y p
 .have e:i=xs.length:=RU hi (Qt.1 B);subst e;exact .inl ⟨⟨q,X2 _⟩,M σ H p⟩
variable {s:X9}
section
variable {prog:U2}{A:QG}{E:X3->X9->Prop}
theorem Va:isSubtype (.type "range_iterator") (.type "reversed")=pure false:=by rw[isSubtype_type];kernel_rfl
theorem Vb{Q:X3->X9->Prop}(B:IsRange s.heap r 0 (n:Int) 1 t u v)(D:n<4611686018427387904)(h:Q (.ref s.heap.objs.size) { s with heap:=s.heap.push { cls:=.type "range_iterator",data:=.fields #[Pw ((n:Int)-1),Pw n,Pw (-1)] } }):Rj (model prog w) A (call (.builtin "range.__reversed__") [.ref r]) Q E s:=by
 have F:s.TypeIs (.ref r) "range":=⟨_,B,J⟩;refine Ow Oi F PySem.F.entry_range_reversed ?_ (PySem.F.args_range_reversed_1 _);unfold KA.«range.__reversed__»;refine W6 (Nt (a:=RS r) (by first|rfl|kernel_rfl) ?_)
 refine W6 ?_;unfold Im;refine W6 (JT B J (x:=.int 0 t) rfl ?_);refine W6 (m:=asInt? (.int 0 t)) (S3 ?_);refine W6 (JT B J (x:=.int (n:Int) u) rfl ?_);refine W6 (m:=asInt? (.int (n:Int) u)) (S3 ?_);refine W6 (JT B J (x:=.int 1 v) rfl ?_);refine W6 ?_;refine S3 (a:=some (1:Int)) ?_;refine S3 (a:=((0:Int),(n:Int),(1:Int))) ?_;have hsz:PV 0 (n:Int) 1=(n:Int):=by
  unfold PV;rw[Qxb (by decide)];split
  .rw[IN];omega
  .omega
 have J0:(n:Int)<4611686018427387904:=wx D;have G:(Qu 0&&Qu (n:Int)&&Qu 1&&Qu (-1)&&Qu (0-1)&&Qu (PV 0 (n:Int) 1))=true:=by
  rw[hsz];have:Qu (n:Int)=true:=by
   unfold Qu;have I:(2 ^ 63:Int)=9223372036854775808:=by decide
   rw[I,Qxd (show -9223372036854775808<=(n:Int) by exact RC _),Qxd (show (n:Int)<9223372036854775808 by omega)];rfl
  rw[this];decide
 dsimp only;rw[G];simp only[Pf,QW,if_false,if_true];unfold newFields;refine W6 (Jr ?_);refine S3 ⟨_,J,?_⟩;rw[hsz];have e:(0:Int)+((n:Int)-1)*1=(n:Int)-1:=by omega
 rw[e];exact h
theorem Vc{Q₁:X3->X9->Prop}(B:IsRange s.heap r 0 (n:Int) 1 t u v)(D:n<4611686018427387904)(h:Q₁ (.ref s.heap.objs.size) { s with heap:=s.heap.push { cls:=.type "range_iterator",data:=.fields #[Pw ((n:Int)-1),Pw n,Pw (-1)] } }) :
  O0 (model prog w) A (.call (.builtin "reversed.__new__") ⟨[.type "reversed",.ref r],[]⟩) (wants Q₁ E) s:=by
 have F:s.TypeIs (.ref r) "range":=⟨_,B,J⟩;refine codeAny_of_tree ?_;show Rj _ A.in1 (do checkBuiltinCall "reversed.__new__" ⟨[.type "reversed",.ref r],[]⟩;again (.builtin "reversed.__new__" ⟨[.type "reversed",.ref r],[]⟩)) _ _ s;refine W6 (Nt (PySem.F.newCall_reversed_1 _) (S3 ⟨plainId_quiet N0 _,Nz PySem.F.entry_reversed_new ?_⟩));rw[Nr N0 _];unfold KA.«reversed.__new__»;refine W6 (Nt (newClass_reversed _) ?_)
 try dsimp only
 refine W6 (Nt (a:=()) (by first|rfl|kernel_rfl) ?_)
 refine W6 (Nt (a:=()) (by first|rfl|kernel_rfl) ?_)
 try dsimp only
 refine W6 (P8 F Oi.lookup ?_)
 try dsimp only
 refine W6 (Nt (Oi.bind _) ?_)
 try dsimp only
 first
 |rw[Qxa (show ¬((Mq "range.__reversed__"==PZ)=true) from Rb)]
 |(show Rj _ _ (if (Mq "range.__reversed__"==PZ)=true then _ else _) _ _ _;rw[Qxa (show ¬((Mq "range.__reversed__"==PZ)=true) from Rb)])
 refine W6 (Ib ?_);refine W6 (m:=runValue (.call (.builtin "range.__reversed__") ⟨[.ref r],[]⟩)) (show Rj _ _ (call (.builtin "range.__reversed__") [.ref r]) _ _ _ from Vb B D ?_)
 first
 |exact S3 h
 |exact W6 (S3 (S3 h))
end
noncomputable def Vd(ta:TA):TI:=λσ H R=>ta σ H λvs H1=>∃n:Nat,vs=[.int (n:Int)]/\n<4611686018427387904/\R (qt ((n:Int)-1) (-1) n) H1
theorem Ve{tg b:R8}{p F pos D:Pos}(L:Gl X "reversed")(M:X.mg "reversed"=none)(O:Gl X "range")(S:X.mg "range"=none)(V:PA X [b] ta)(W:T2 [b] X.env=[(false,eval b X.env)]:=by rfl)(J0:T2 [R8.Call (.Name "range" F) [b] [] D] X.env=(false,eval (R8.Call (.Name "range" F) [b] [] D) X.env)::T2 [] X.env:=by rfl)(Y:(QS pos (T2 [] X.env)).any (·.1)=false:=by rfl):PI X tg (.Call (.Name "reversed" p) [.Call (.Name "range" F) [b] [] D] [] pos) (Vd ta):=by
 intro Δ s σ H R G h;refine QL (wz G L M eF ?_ (by decide) (by decide));refine QF ?_ J0 Y;rw[J0];show Rj _ _ (spliced ((false,eval _ X.env)::QS pos (T2 [] X.env))) _ _ s;refine Px ?_;refine Call_ (wz G O S JZ (QF (zo (V D Δ s σ H _ G h) λus B Z=>?_) W J));obtain⟨vs,H1,aa,ab,q1⟩:=Z;obtain⟨n,e,ac,q⟩:=q1;subst e;cases ab with
 |cons r ad=>
  cases ad;obtain⟨t',rfl⟩:=r;refine Jj ?_;refine Of ?_;have I:=aa.kept (t':=B.toks+2) (h':=B.heap.push { cls:=.type "range",data:=.fields #[.int 0 B.toks,.int (n:Int) t',.int 1 (B.toks+1)] }) λb o e=>W0 _ e;refine callType_other (U:="range_iterator") (Q₁:=λobj ae=>obj=.ref _/\ae=_) (by lia) PySem.F.create_reversed ⟨_,_,PySem.F.mro_reversed⟩ PySem.F.made_reversed Va (PySem.F.typeCall_reversed_1 _) (Vc (I1 ..) ac ⟨J,J⟩) ?_;rintro obj ai ⟨rfl,rfl⟩;refine⟨⟨_,Ru _ J,J⟩,?_⟩;have st:N8 ((B.heap.push { cls:=.type "range",data:=.fields #[.int 0 B.toks,.int (n:Int) t',.int 1 (B.toks+1)] }).push { cls:=.type "range_iterator",data:=.fields #[Pw ((n:Int)-1),Pw n,Pw (-1)] }) (B.heap.push { cls:=.type "range",data:=.fields #[.int 0 B.toks,.int (n:Int) t',.int 1 (B.toks+1)] }).objs.size ((n:Int)-1) (n:Int) (-1):=Ru _ rfl;refine OX st ?_;refine⟨_,[_],_,_,H1,J,I.kept (t':=B.toks+2) λb o e=>W0 _ e,W1 _ ((n:Int)-1) (-1) n,?_,λb af=>?_,q⟩
  .have ag:((n:Int)-1)+((0:Nat):Int)*(-1)=(n:Int)-1:=by simp
   have ah:((n:Nat):Int)-((0:Nat):Int)=(n:Int):=by simp
   show N8 _ _ (((n:Int)-1)+((0:Nat):Int)*(-1)) (((n:Nat):Int)-((0:Nat):Int)) (-1);rw[ag,ah];exact st
  .have e:=RA.mp af;subst e;exact I.fpOk (X2 _) (I.hok.fresh (X2 _))
variable {e:R8}{pos:Pos}
section
variable {st:R8}{te:TE}{p2:Pos}
end
noncomputable def Vf(y z:Str)(to:TE):TE:=λσ H Q=>to σ H λx H1=>∃a:Str,x=.str a/\a.length<=100000/\Q (.str (Pb a y z)) H1
theorem kN{o:R8}{to:TE}{y z:Str}{D F:Nat}{G p2 apos g6:Pos}(L:PE X o to)(M:(y==z)=false)(O:z.length<=100)(R:PN o "replace" X.env (eval o X.env)=eval o X.env:=by rfl)(S:((QS g6 (T2 [.Constant (.str y) D G,.Constant (.str z) F p2] X.env)).all (λx=>!x.1)&&(O2 g6 (PH [] X.env)).all (λx=>x.1.isSome)
   && decide (([.Constant (.str y) D G,.Constant (.str z) F p2]:List R8).length+([]:List Mb).length+(if ([]:List Mb).isEmpty then 0 else 1)<30))=true:=by rfl)(U:(apos.endLine==g6.line)=true:=by rfl)(h1:1<=X.t0:=by first|assumption|exact X2 1) :
  PE X (.Call (.Attribute o "replace" apos) [.Constant (.str y) D G,.Constant (.str z) F p2] [] g6) (Vf y z to):=by
 intro Δ s σ H Q V h;refine MU R S U rfl (zo (L Δ s σ H _ V h) λv B W=>?_);obtain⟨x,H1,I,J0,q1⟩:=W;obtain⟨a,rfl,Y,q⟩:=q1;obtain⟨Z,aa⟩:=ke (T:="str") I J0 rfl;refine⟨"str","str.replace",QM,PySem.F.slot_str_replace,PySem.F.type_str_replace,Z,aa,?_⟩;obtain⟨t,rfl⟩:=J0;refine P0 rfl (Nq ?_);show Rj _ _ (spliced ((false,eval (.Constant (.str y) D G) X.env)::(false,eval (.Constant (.str z) F p2) X.env)::[])) _ _ B;refine Px (NP (Px (NP (Of ?_))));have tk:=I.tk;refine R7 (n:=X.t0) (by show X.t0<=B.toks+1+1;omega) ?_;have ab:a.length+(a.length+1)*z.length<=16777216:=by
  have:=NS (show a.length+1<=100001 by exact Ra Y) O;omega
 exact SC.replace (by show B.toks≠0;omega) (by show B.toks+1≠0;omega) (by show B.toks≠B.toks+1;omega) M ab λt' k ht=>⟨.str _,H1,I.tok k ht,⟨_,J⟩,q⟩
noncomputable abbrev Cx.up(X:Cx):Cx:={ X with t0:=1 }
section
variable {Δ:List (Addr×Obj)}{σ:St}{H:Hp}
theorem Inv.up(D:Inv X Δ σ H s)(ht:1<=s.toks):Inv X.up Δ σ H s:=by
 have B:=D.ok;exact⟨⟨B.mod,B.kind,B.glob,B.blt,B.above,B.inj,B.has,B.cab,B.hd,B.frames,B.stk,B.exf,B.bs,B.bsz,B.noex,B.exfs,B.funs,B.frf⟩,D.os,D.bare,D.base,D.loc,D.cell,D.free,D.freeC,D.pin,D.hok,D.len,ht⟩
theorem Inv.down(F:X.t0=0)(D:Inv X.up Δ σ H s):Inv X Δ σ H s:=by
 have B:=D.ok;exact⟨⟨B.mod,B.kind,B.glob,B.blt,B.above,B.inj,B.has,B.cab,B.hd,B.frames,B.stk,B.exf,B.bs,B.bsz,B.noex,B.exfs,B.funs,B.frf⟩,D.os,D.bare,D.base,D.loc,D.cell,D.free,D.freeC,D.pin,D.hok,D.len,by rw[F];exact X7 _⟩
theorem SP.down(F:X.t0=0){D:xM}{f:Flow}{s':X9}(h:SP X.up Δ D f s'):SP X Δ D f s':=by
 cases f with
 |next=>obtain⟨σ',H',B,q⟩:=h;exact⟨σ',H',B.down F,q⟩
 |brk=>obtain⟨σ',H',B,q⟩:=h;exact⟨σ',H',B.down F,q⟩
 |cont=>obtain⟨σ',H',B,q⟩:=h;exact⟨σ',H',B.down F,q⟩
 |ret v=>obtain⟨x,σ',H',B,r,q⟩:=h;exact⟨x,σ',H',B.down F,r,q⟩
end
section
variable {tg:R8}
noncomputable def eG(X:Cx)(tg iter:R8)(wi:TI):Prop:=
 ∀(Δ:List (Addr×Obj)) (s:X9) (σ:St) (H:Hp) (R:It->Hp->Prop),Inv X Δ σ H s->wi σ H R ->
  Rj (model X.prog X.w) X.A (eval iter X.env) (λv B=>Rj (model X.prog X.w) X.A (IJ v) (lK X.up Δ σ tg R) X.xe B) X.xe s
theorem Vg{a:R8}{p pos:Pos}(G:Gl X "range")(I:X.mg "range"=none)(J0:PA X [a] ta)(L:T2 [a] X.env=[(false,eval a X.env)]:=by rfl):eG X tg (.Call (.Name "range" p) [a] [] pos) (gn ta):=by
 intro Δ s σ H R D h;refine Call_ (wz D G I JZ (QF (zo (J0 pos Δ s σ H _ D h) λus B M=>?_) L J));obtain⟨vs,H1,F,O,q1⟩:=M;obtain⟨j,e,q1,S,q⟩:=q1;subst e;cases O with
 |cons r U=>
  cases U;obtain⟨t,rfl⟩:=r;have V:Inv X.up Δ σ H1 { B with toks:=B.toks+1 }:=(F.tok (B.toks+1) (R9 F.tk)).up (Ra (X7 _));exact Jj (gm (X:=X.up) (s:={ B with toks:=B.toks+1 }) V (RC _) (RC _) q1 S (by simpa using q) (by show 1<=B.toks+1+1;exact Qy _))
theorem Vh{iter:R8}{aa:List Stmt}{wi:TI}{pos:Pos}(ak:X.t0=0)(M:IA (model X.prog X.w) X.A X.env X.xe)(ab:X.calm=true)(hi:eG X tg iter wi)(al:PG X.up tg g)(B:Bf X.up aa tb)(am:∀x,OY iter X.env x=pure x:=by intro _;rfl):PS X (.For tg iter aa [] pos) (lL wi g tb):=by
 intro Δ s σ H D ao h;refine OK (Q:=SP X.up Δ D) (E:=X.xe) ?_ (λ_ _ q=>q.down ak) λ_ _ z=>z;refine wpAny_For (zo (hi Δ s σ H _ ao h) λv aQ h1=>zo h1 λaR aS h2=>?_) am;obtain⟨it,fp,ac,J0,H2,e,ap,T,aq,ad,W,⟨ar,as⟩,turn⟩:=h2;subst e
 -- what stays true of the iterator's objects through the loop
 have U:∀ {H':Hp},(∀b∈fp,H' b=none)->∀b∈fp,xN X.up Δ H' b:=λau b B=>⟨au b B,(ad b B).2⟩;refine KH (λn s'=>∃i σ' H',Inv X.up Δ σ' H' s'/\ac i s'.heap/\(∀b∈fp,H' b=none)/\W i n σ' H') ?_ ar ⟨0,σ,H2,ap,aq,λb B=>(ad b B).1,as⟩;rintro n ae ⟨i,O,S,af,ag,ah,av⟩;rcases turn i n O S av with⟨stop,aw⟩|⟨go,N,ax,step⟩
 .refine QN M (zo (T.done X.up J J J ab i Δ ae O S X.xe af (U ah) ag stop) λr ay ⟨V,az⟩=>?_);subst V;exact OI ⟨O,S,az,aw⟩
 .refine QN M (zo (T.item X.up J J J ab i Δ ae O S X.xe af (U ah) ag go) λr ay ⟨u,V,aA⟩=>?_);subst V;refine QN M (zo aA λ_ ai Y=>?_);obtain⟨x,aj,aB,aC,aD,hr,aE⟩:=Y;have aF:=aB.pinned (U aE) (T.obj _ _ hr);refine QN M (zo (al _ ai O aj x u _ aF aC (step x aj aD)) λ_ aG Y=>?_);obtain⟨aH,aI,aJ,aK⟩:=Y;refine QN M (zo (B _ aG aH aI _ aJ aK) λf Z L=>?_);have again:∀ {F:St} {G:Hp},Inv X.up (Δ++sT fp ai.heap) F G Z->N F G->∃m,m<n/\∃i σ' H',Inv X.up Δ σ' H' Z/\ac i Z.heap/\(∀b∈fp,H' b=none)/\W i m σ' H':=λ{F G} I R=>by
   obtain⟨aL,aM,aN⟩:=ax F G R;refine⟨aL,aM,i+1,F,G,I.unpinned,T.keep _ _ _ hr λb B o e=>(I.pin (b,o) (S2 _ (S2 _ (sU B e)))).1,λb B=>?_,aN⟩;obtain⟨o,e,d⟩:=T.obj _ _ hr b B;exact(I.pin (b,o) (S2 _ (S2 _ (sU B e)))).2.1
  cases f with
  |next=>obtain⟨F,G,I,R⟩:=L;exact again I R
  |cont=>obtain⟨F,G,I,R⟩:=L;exact again I R
  |brk=>obtain⟨F,G,I,L⟩:=L;exact⟨F,G,I.unpinned,L⟩
  |ret v=>obtain⟨aO,F,G,I,aP,L⟩:=L;exact⟨aO,F,G,I.unpinned,aP,L⟩
end
section
variable {mg:Str->Option X3}{base:Heap}
theorem Ao.ok0{x B:Str}{k:Nat}(F:Ao K x B st f fd)(S:zK N ps (zq st))(D:∀vs H Q E,sp vs H Q E->vs.length=ps.length)(G:∀(g4:X3) (A:QG) (outer:List Env) (s:X9) (H:Hp) (vs:List V) (Q:VK) (E:XK),Ak k (A.deeper (Nw B (zq st) s.heap.objs.size f g4))->sp vs H Q E ->
   ∃t,Bf { (zH zD P w K mg base N B (zq st) f g4 A outer s H E).nox with t0:=0 } (wF st) t/\t { nx:=λ_ H'=>Q .non H',rt:=Q } (start N vs) H):uD 0 P w K mg base zD (k+1) f fd ps sp:=by
 obtain⟨oc,od,kV,doc,pm,an,g4,ct,hj,rfl,I,J0⟩:=F.ex;refine gO 0 I J0 S D λA outer s H vs Q E L M=>?_;obtain⟨t,h,q⟩:=G g4 A outer s H vs Q E L M;exact⟨t,Bf.nox (X:={ zH zD P w K mg base N B (zq st) f g4 A outer s H E with t0:=0 }) h,q⟩
end
theorem eI:uF X "str.join" (λx vs H Q=>∃(D:Str) (l:Addr) (xs:List Str),x=.str D/\vs=[.ref l]/\Ad X.K H l (xs.map V.str)/\D.length<=16/\(xs.map (·.length)).sum+xs.length<=1048576/\Q (.str (N1 D xs)) H):=by
 intro Δ s σ H x vs v us Q G J0 L h;obtain⟨D,l,xs,rfl,rfl,M,O,R,q⟩:=h;rw[←StrLaws.glued_eq_join] at q;obtain⟨t,rfl⟩:=J0;obtain⟨u,rfl,S⟩:=L.one;cases S;obtain⟨its,r,pl,_⟩:=G.list M;obtain⟨U,W⟩:=qe r;have Y:=oK W;have B:(its.map λu=>(yw u,wj u)).map (·.1)=xs:=by rw[R6,←U];rfl
 have Z:s.heap.IsList l (KC (its.map λu=>(yw u,wj u))).toArray:=by rw[←Y];exact pl.isList
 have I:N2 ((xs.toArray.foldl (λa y=>a+y.length+D.length) 0))=false:=joinFits_of_weight R O;refine P1 M6 (ON s D t) MD (Mf _ _) (NF D t l (its.map λu=>(yw u,wj u)) (by rw[B];exact I)) ⟨Z,?_⟩;generalize its.map (λu=>(yw u,wj u))=ps at B
 match ps,B with
 |[],B=>
  subst B;exact⟨by show (0:Nat)<=_;exact X7 _,⟨.str _,H,G.tok _,⟨_,J⟩,q⟩⟩
 |[p],B=>
  subst B;exact⟨.str _,H,G,⟨_,J⟩,q⟩
 |p::p2::aa,B=>
  subst B;exact⟨joinFit_length I,⟨.str _,H,G.tok _,⟨_,J⟩,q⟩⟩
noncomputable def Vi(ta tb:TE):TE:=λσ H Q=>ta σ H λx H1=>∃a:Str,x=.str a/\a.length<=100000/\if a.length=0 then tb σ H1 Q else Q (.str a) H1
theorem Vj{a b:R8}{rest:List R8}{pos:Pos}{ta tb:TE}(G:PE X a ta)(I:PE X (.BoolOp .Or (b::rest) pos) tb):PE X (.BoolOp .Or (a::b::rest) pos) (Vi ta tb):=by
 intro Δ s σ H Q J0 h;refine BoolOp_or (zo (G Δ s σ H _ J0 h) λv D L=>?_);obtain⟨x,H1,F,M,q1⟩:=L;obtain⟨z,rfl,O,q1⟩:=q1;obtain⟨t,rfl⟩:=M;refine K3 (by exact aQ O) ?_;by_cases B:z.length=0
 .rw[Qxb B] at q1;have e:((z.length:Int) != 0)=false:=by rw[B];rfl
  rw[e];exact I Δ _ σ H1 Q (F.tok (D.toks+1+1)) q1
 .rw[Qxa B] at q1;have e:((z.length:Int) != 0)=true:=by rw[bne_iff_ne];omega
  rw[e];exact⟨.str z,H1,F.tok (D.toks+1+1),⟨_,J⟩,q1⟩
structure Cl(P:U2)(w:Rz)(K:W.Frag)(mg:Str->Option X3)(base:Heap)(k:Nat)(x:Str)(ps:List Str)(sp:Sp):Prop where
 ex:∃f fd,P7 K (.ref f)=true/\Binds K fd ps []/\mg x=some (.ref f)/\Ag P w K mg base zD k f fd ps sp
structure Ml(P:U2)(w:Rz)(K:W.Frag)(mg:Str->Option X3)(base:Heap)(C:Addr)(k:Nat)(x:Str)(ps:List Str)(sp:Sp):Prop where
 ex:∃f fd,sW K C x f/\Binds K fd ps []/\Ag P w K mg base zD k f fd ps sp
section
variable {x:Str}{k:Nat}{es:List R8}{t:TA}{p:Pos}{o:R8}{ta:TE}{C:Addr}{m:Str}{apos:Pos}
theorem zA(c:Cl X.prog X.w X.K X.mg X.base k x ps sp)(B:Ak k X.A)(D:PA X (e::es) t)(G:Gl X x:=by rfl)(I:(x==("__debug__":Str))=false:=by decide)(J0:T2 (e::es) X.env=(false,eval e X.env)::T2 es X.env:=by rfl)(L:(QS pos (T2 es X.env)).any (·.1)=false:=by rfl)(h1:1<=X.t0:=by first|assumption|exact X2 1) :
  PE X (.Call (.Name x p) (e::es) [] pos) (gF sp [] E0 t):=by
 obtain⟨f,fd,M,O,R,F⟩:=c.ex;exact lW F B G R M O .nil uI D I J0 L h1
theorem yX{pl:Sem Bool}(D:PE X o ta)(c:Bh X.K C)(G:Ml X.prog X.w X.K X.mg X.base C k m ps sp)(I:Ak k X.A)(J0:PA X (e::es) t)(L:T2 (e::es) X.env=(false,eval e X.env)::T2 es X.env:=by rfl)(M:(QS pos (T2 es X.env)).any (·.1)=false:=by rfl)(ht:eval (.Call (.Attribute o m apos) (e::es) [] pos) X.env=(do
   let B ← eval o X.env
   N7 apos.atName
   let (f,first) ← holding [B] (NK B m pl)
   Kj pos f first (QS pos (T2 (e::es) X.env)) (O2 pos (PH [] X.env))):=by rfl)(h1:1<=X.t0:=by first|assumption|exact X2 1) :
  PE X (.Call (.Attribute o m apos) (e::es) [] pos) (oy C m sp [] E0 ta t):=by
 obtain⟨f,fd,O,R,F⟩:=G.ex;exact Yz D c O F I R .nil uI J0 L M ht h1
theorem ub{pl:Sem Bool}(D:PE X o ta)(c:Bh X.K C)(G:Ml X.prog X.w X.K X.mg X.base C k m ps sp)(I:Ak k X.A)(ht:eval (.Call (.Attribute o m apos) [] [] pos) X.env=(do
   let B ← eval o X.env
   N7 apos.atName
   let (f,first) ← holding [B] (NK B m pl)
   Kj pos f first (QS pos (T2 [] X.env)) (O2 pos (PH [] X.env))):=by rfl)(h1:1<=X.t0:=by first|assumption|exact X2 1) :
  PE X (.Call (.Attribute o m apos) [] [] pos) (oy C m sp [] E0 ta wO):=by
 obtain⟨f,fd,J0,L,F⟩:=G.ex;exact YA D c J0 F I L .nil uI ht h1
end
theorem zP{Q:List Str}{sc:Scope}(h:(decide (sc.kind=.function)&&!sc.isCoroutine&&!sc.isGenerator&&decide N.Nodup&&decide (N.take Q.length=Q)&&Q.all (λx=>decide (sc.names.lookup x=some .local∨sc.names.lookup x=some .cell))&&sc.names.all λy=>decide (y.2≠.free))=true:=by lia):zK N Q sc:=by
 simp only[R0,decide_eq_true_eq,QU,QR] at h;obtain⟨⟨⟨⟨⟨⟨h1,h2⟩,B⟩,D⟩,F⟩,G⟩,I⟩:=h;exact⟨h1,h2,B,D,F,G,I⟩
theorem yB:(100000:Nat)<=sizeLine:=by rw[Qo];decide
theorem zu{x:Str}{e:R8}{te:TE}{pos' pos:Pos}(B:X.N.Nodup)(D:PE X e te)(hi:X.N[i]?=some x:=by rfl)(F:uq X.env.scope x:=by exact Or.inl J)(G:My e (some (.Name x pos')) pos.line X.env=pure false:=by rfl)(I:X.fn x=true∨X.env.scope.names.lookup x=some .local:=by first|exact .inl rfl|exact .inr rfl|assumption) :
  PS X (.Assign [.Name x pos'] e pos) (lJ te (va i)):=rT B hi F D G I
theorem zw{x:Str}{pos:Pos}(B:X.N.Nodup)(hi:X.N[i]?=some x:=by rfl)(D:uq X.env.scope x:=by exact Or.inl J)(F:X.fn x=true∨X.env.scope.names.lookup x=some .local:=by first|exact .inl rfl|exact .inr rfl|assumption):PG X (.Name x pos) (va i):=wA B hi D F
theorem Ao.okA{mg:Str->Option X3}{base:Heap}{x B:Str}{k:Nat}(F:Ao K x B st f fd)(S:zK N ps (zq st))(D:∀(g4:X3) (A:QG) (outer:List Env) (s:X9) (H:Hp) (vs:List V) (Q:VK) (E:XK),Ak k (A.deeper (Nw B (zq st) s.heap.objs.size f g4))->sp vs H Q E ->
   ∃t,Bf (zH zD P w K mg base N B (zq st) f g4 A outer s H E).nox (wF st) t/\t { nx:=λ_ H'=>Q .non H',rt:=Q } (start N vs) H)(G:∀vs H Q E,sp vs H Q E->vs.length=ps.length:=by intro vs H Q E h;cases h;subst_vars;rfl):Ag P w K mg base zD (k+1) f fd ps sp:=F.ok S G D
theorem zz(D:Nat){B:Str}{F:Pos}(G:X.N[D]?=some B:=by rfl)(I:xL X.env.scope B:=by first|exact Or.inl rfl|exact Or.inr (Or.inl J)|exact Or.inr (Or.inr J))(J0:(B==("__debug__":Str))=false:=by decide)(L:(B==("__classdict__":Str))=false:=by decide)(M:T2 [.Name B F] X.env=(false,eval (.Name B F) X.env)::T2 [] X.env:=by rfl):PA X [.Name B F] (xv (wY D) wO):=(zc (pv D G I J0 L) zf M)
theorem yk(F G:Nat){D B:Str}{I p2:Pos}(J0:X.N[F]?=some D:=by rfl)(L:xL X.env.scope D:=by first|exact Or.inl rfl|exact Or.inr (Or.inl J)|exact Or.inr (Or.inr J))(M:(D==("__debug__":Str))=false:=by decide)(O:(D==("__classdict__":Str))=false:=by decide)(R:X.N[G]?=some B:=by rfl)(S:xL X.env.scope B:=by first|exact Or.inl rfl|exact Or.inr (Or.inl J)|exact Or.inr (Or.inr J))(U:(B==("__debug__":Str))=false:=by decide)(V:(B==("__classdict__":Str))=false:=by decide)(W:T2 [.Name D I,.Name B p2] X.env=(false,eval (.Name D I) X.env)::T2 [.Name B p2] X.env:=by rfl)(Y:T2 [.Name B p2] X.env=(false,eval (.Name B p2) X.env)::T2 [] X.env:=by rfl):PA X [.Name D I,.Name B p2] (xv (wY F) (xv (wY G) wO)):=(zc (pv F J0 L M O) (zc (pv G R S U V) zf Y) W)
theorem uR(G I J0:Nat){F D B:Str}{L p2 p3:Pos}(M:X.N[G]?=some F:=by rfl)(O:xL X.env.scope F:=by first|exact Or.inl rfl|exact Or.inr (Or.inl J)|exact Or.inr (Or.inr J))(R:(F==("__debug__":Str))=false:=by decide)(S:(F==("__classdict__":Str))=false:=by decide)(U:X.N[I]?=some D:=by rfl)(V:xL X.env.scope D:=by first|exact Or.inl rfl|exact Or.inr (Or.inl J)|exact Or.inr (Or.inr J))(W:(D==("__debug__":Str))=false:=by decide)(Y:(D==("__classdict__":Str))=false:=by decide)(Z:X.N[J0]?=some B:=by rfl)(aa:xL X.env.scope B:=by first|exact Or.inl rfl|exact Or.inr (Or.inl J)|exact Or.inr (Or.inr J))(ab:(B==("__debug__":Str))=false:=by decide)(ac:(B==("__classdict__":Str))=false:=by decide)(ad:T2 [.Name F L,.Name D p2,.Name B p3] X.env=(false,eval (.Name F L) X.env)::T2 [.Name D p2,.Name B p3] X.env:=by rfl)(ae:T2 [.Name D p2,.Name B p3] X.env=(false,eval (.Name D p2) X.env)::T2 [.Name B p3] X.env:=by rfl)(af:T2 [.Name B p3] X.env=(false,eval (.Name B p3) X.env)::T2 [] X.env:=by rfl):PA X [.Name F L,.Name D p2,.Name B p3] (xv (wY G) (xv (wY I) (xv (wY J0) wO))):=(zc (pv G M O R S) (zc (pv I U V W Y) (zc (pv J0 Z aa ab ac) zf af) ae) ad)
theorem xO(I J0 L M:Nat){G F D B:Str}{O p2 p3 p4:Pos}(R:X.N[I]?=some G:=by rfl)(S:xL X.env.scope G:=by first|exact Or.inl rfl|exact Or.inr (Or.inl J)|exact Or.inr (Or.inr J))(U:(G==("__debug__":Str))=false:=by decide)(V:(G==("__classdict__":Str))=false:=by decide)(W:X.N[J0]?=some F:=by rfl)(Y:xL X.env.scope F:=by first|exact Or.inl rfl|exact Or.inr (Or.inl J)|exact Or.inr (Or.inr J))(Z:(F==("__debug__":Str))=false:=by decide)(aa:(F==("__classdict__":Str))=false:=by decide)(ab:X.N[L]?=some D:=by rfl)(ac:xL X.env.scope D:=by first|exact Or.inl rfl|exact Or.inr (Or.inl J)|exact Or.inr (Or.inr J))(ad:(D==("__debug__":Str))=false:=by decide)(ae:(D==("__classdict__":Str))=false:=by decide)(af:X.N[M]?=some B:=by rfl)(ag:xL X.env.scope B:=by first|exact Or.inl rfl|exact Or.inr (Or.inl J)|exact Or.inr (Or.inr J))(ah:(B==("__debug__":Str))=false:=by decide)(ai:(B==("__classdict__":Str))=false:=by decide)(aj:T2 [.Name G O,.Name F p2,.Name D p3,.Name B p4] X.env=(false,eval (.Name G O) X.env)::T2 [.Name F p2,.Name D p3,.Name B p4] X.env:=by rfl)(ak:T2 [.Name F p2,.Name D p3,.Name B p4] X.env=(false,eval (.Name F p2) X.env)::T2 [.Name D p3,.Name B p4] X.env:=by rfl)(al:T2 [.Name D p3,.Name B p4] X.env=(false,eval (.Name D p3) X.env)::T2 [.Name B p4] X.env:=by rfl)(am:T2 [.Name B p4] X.env=(false,eval (.Name B p4) X.env)::T2 [] X.env:=by rfl):PA X [.Name G O,.Name F p2,.Name D p3,.Name B p4] (xv (wY I) (xv (wY J0) (xv (wY L) (xv (wY M) wO)))):=(zc (pv I R S U V) (zc (pv J0 W Y Z aa) (zc (pv L ab ac ad ae) (zc (pv M af ag ah ai) zf am) al) ak) aj)
end L2
namespace T1
open PySem L2
variable {v:V}{xs:List V}{i:Nat}
variable {P:U2}{w:Rz}{K:W.Frag}{mg:Str->Option X3}{base:Heap}
noncomputable def tX(c:Nat):Bool:=decide (33<=c)&&decide (c<=126)&&!decide (c=37)
noncomputable def vA:D->Bool
 |.str x=>decide (x.length<=1)&&(decide (x.length=0) || tX (x.cps.getD 0 0))
 |_=>false
noncomputable def ra(x:Str):Bool:=decide (1<=x.length)&&decide (x.length<=4)&&x.cps.toList.all λc=>decide (c=10) || tX c
instance:Inhabited D:=⟨.non⟩
noncomputable abbrev Dr:=Str×Int×Str
noncomputable abbrev Tg:=Str×List Dr
noncomputable abbrev Bk:=List Tg
variable {ds:List Dr}{b:Bk}
noncomputable def vg(d:Dr):D:=.tup [.str d.1,.int d.2.1,.str d.2.2]
noncomputable def uc(t:Tg):D:=.tup [.str t.1,.tup (t.2.map vg)]
noncomputable def yp(b:Bk):D:=.tup (b.map uc)
noncomputable def Vk(n:Int)(d:Dr):Prop:=ra d.1=true/\(0<=d.2.1/\d.2.1<n)/\ra d.2.2=true
noncomputable def An(n:Int)(t:Tg):Prop:=vA (.str t.1)=true/\t.2.length<=6/\∀d∈t.2,Vk n d
section
variable {z:Addr}{H:Hp}
theorem vB{d:Dr}(r:Aj z H v (vg d)):∃a,v=.ref a/\a≠z/\H a=some (.tup [.str d.1,.int d.2.1,.str d.2.2]):=by
 cases r with
 |tup h B r=>
  cases r with
  |cons D r=>
   cases r with
   |cons F r=>
    cases r with
    |cons G r=>
     cases r;cases D;cases F;cases G;exact⟨_,J,B,h⟩
theorem Vl(r:Aj z H v (.tup (ds.map vg))):∃a xs,v=.ref a/\a≠z/\H a=some (.tup xs)/\xs.length=ds.length/\Ab z H xs (ds.map vg):=by
 cases r with
 |tup h B r=>exact⟨_,_,J,B,h,by have:=r.length;simpa using this,r⟩
theorem vh{t:Tg}(r:Aj z H v (uc t)):∃a b xs,v=.ref a/\a≠z/\b≠z/\H a=some (.tup [.str t.1,.ref b])/\H b=some (.tup xs)/\xs.length=t.2.length/\Ab z H xs (t.2.map vg):=by
 cases r with
 |tup h B r=>
  cases r with
  |cons D r=>
   cases r with
   |cons F r=>
    cases r;cases D;obtain⟨b,xs,rfl,G,h2,I,J0⟩:=Vl F;exact⟨_,b,xs,J,B,G,h,h2,I,J0⟩
theorem uS(r:Aj z H v (yp b)):∃a xs,v=.ref a/\a≠z/\H a=some (.tup xs)/\xs.length=b.length/\Ab z H xs (b.map uc):=by
 cases r with
 |tup h B r=>exact⟨_,_,J,B,h,by have:=r.length;simpa using this,r⟩
theorem vC(r:Ab z H xs (ds.map vg))(hi:i<ds.length):Aj z H (xs.getD i .non) (vg (ds.getD i (⟨#[]⟩,0,⟨#[]⟩))):=by
 have:=r.get (i:=i) (by simpa using hi);simpa [hi] using this
theorem vi(r:Ab z H xs (b.map uc))(hi:i<b.length):Aj z H (xs.getD i .non) (uc (b.getD i (⟨#[]⟩,[]))):=by
 have:=r.get (i:=i) (by simpa using hi);simpa [hi] using this
end
noncomputable def yD(ds:List Dr):List Str:=ds.map (·.1)
noncomputable abbrev yd:Dr:=(⟨#[]⟩,0,⟨#[]⟩)
noncomputable abbrev zk:Tg:=(⟨#[]⟩,[])
noncomputable def eJ(ds:List Dr):List Str:=ds.flatMap λd=>[d.1,d.2.2]
noncomputable def oU(b:Bk):List Str:=b.flatMap λt=>eJ t.2
theorem yE{B:Type}{xs:List B}(d:B)(h:i<xs.length):xs.getD i d∈xs:=by
 have:xs.getD i d=xs[i]:=by simp[h]
 rw[this];exact RT h
noncomputable def kO(es:List Str)(m:Str):Bool:=m.cps.toList.any λc=>es.any λe=>e==(⟨#[c]⟩:Str)
noncomputable def rc(b:Bk):Bool:=(oU b).any (kO (b.map (·.1)))
end T1
namespace L2
open PySem PySem.Spec PyProof.Rows
theorem kP{X:Cx}{sc:Scope}{cl:List (Str×Addr)}{N':List Str}{s:X9}{H:Hp}{fp:List Addr}{o e:R8}{es:List R8}{to:TE}{t:TA}{name:Str}{apos g6:Pos}{T id:String}{r:V->List V->Hp->VK->Prop}(B:J6 T)(slot:Slot T name id)(D:typeOf (.builtin id)=pure (.type "method_descriptor"))(F:uF (X.blk sc cl N' s H fp) id r)(G:PE (X.blk sc cl N' s H fp) o to)(I:PA (X.blk sc cl N' s H fp) (e::es) t)(J0:PN o name (X.blk sc cl N' s H fp).env (eval o (X.blk sc cl N' s H fp).env)=eval o (X.blk sc cl N' s H fp).env:=by rfl)(L:((QS g6 (T2 (e::es) (X.blk sc cl N' s H fp).env)).all (λx=>!x.1)&&(O2 g6 (PH [] (X.blk sc cl N' s H fp).env)).all (λx=>x.1.isSome)
   && decide ((e::es).length+([]:List Mb).length+(if ([]:List Mb).isEmpty then 0 else 1)<30))=true:=by rfl)(M:(apos.endLine==g6.line)=true:=by rfl)(O:T2 (e::es) (X.blk sc cl N' s H fp).env=(false,eval e (X.blk sc cl N' s H fp).env)::T2 es (X.blk sc cl N' s H fp).env:=by rfl)(R:(QS g6 (T2 es (X.blk sc cl N' s H fp).env)).any (·.1)=false:=by rfl) :
  PE (X.blk sc cl N' s H fp) (.Call (.Attribute o name apos) (e::es) [] g6) (gW X.K T r to t):=yW B slot D F G I J0 L M O R
end L2
namespace T1
open PySem L2
variable {B:Type}{b:Bk}
variable {P:U2}{w:Rz}{K:W.Frag}{mg:Str->Option X3}{base:Heap}
noncomputable def eK(ds:List Dr)(t:Int):List Str:=ds.filterMap λd=>if d.2.1=t then some d.2.2 else none
noncomputable def eL(b:Bk)(t:Int):List Str:=b.flatMap λg=>eK g.2 t
noncomputable def oV(b:Bk)(t:Nat):Bool:=(b.getD t zk).2.any λd=>(eL b t).any λc=>xk d.1 c 0
noncomputable def qv(b:Bk):Bool:=(b.all λt=>decide (yD t.2).Nodup)&&!rc b&&!((RO b.length).any λt=>oV b t)
theorem eM{f:Nat->Option V}:∀n,(yM (λi=>(f i).toList) n).isEmpty=(RO n).all λi=>(f i).isNone
 |0=>rfl
 |n+1=>by
  rw[M5,List.all_append,←eM n];simp only[yM,Nl,List.all_nil,Ms];cases f n<;>simp
theorem eN(x:Str)(h:x.length<=1):(x=YP ""/\vA (.str x)=true)∨∃c,x=⟨#[c]⟩/\vA (.str x)=tX c:=by
 obtain⟨B⟩:=x;have h:B.size<=1:=h;by_cases D:B.size=0
 .have:B=#[]:=Ni D;subst this;exact .inl ⟨by lia,by lia⟩
 .obtain⟨c,F⟩:=Array.size_eq_one_iff.mp (show B.size=1 by exact RU h (Nat.pos_of_ne_zero D));subst F;exact .inr ⟨c,J,J⟩
noncomputable def Am(z:Addr)(H:Hp):Prop:=∃c s:Int,H z=some (.lst [.int c,.int s])
noncomputable def AA(z:Addr)(H H':Hp):Prop:=Ac z H H'/\Am z H'
theorem AA.trans{z:Addr}{H H1 H2:Hp}(a:AA z H H1)(b:AA z H1 H2):AA z H H2:=⟨a.1.trans b.1,b.2⟩
theorem AA.same{z:Addr}{H H1 H2:Hp}(a:AA z H H1)(b:Aa H1 H2):AA z H H2:=⟨a.1.trans b.x,let ⟨c,s,h⟩:=a.2;⟨c,s,b _ _ h⟩⟩
theorem AA.refl{z:Addr}{H:Hp}(h:Am z H):AA z H H:=⟨.refl,h⟩
inductive re:Sp where
 |mk {vs:List V} {H:Hp} {Q:VK} {E:XK} (z:_) (n:Int) (c1:vs=[.ref z,.int n]) (c2:Am z H) (c3:0<n) (c4:n<1000000) (c5:∀(r:Nat) H',(r:Int)<n->AA z H H'->Q (.int r) H'):re vs H Q E
structure ud(mg:Str->Option X3):Prop where
 list:mg "list"=none
 set:mg "set"=none
 min:mg "min"=none
inductive oW(K:W.Frag):Sp where
 |mk {vs:List V} {H:Hp} {Q:VK} {E:XK} (a:_) (ns:List Int) (i:Nat) (c1:vs=[.ref a,.int i]) (c2:Ad K H a (ns.map V.int)) (c3:i<=100) (c4:∀p H',H p=none->Aa H H'->Am p H'->Q (.ref p) H'):oW K vs H Q E
noncomputable def oX(x:Str):Prop:=∀c∈x.cps.toList,(decide (c=10) || tX c)=true
inductive oY:Sp where
 |mk {vs:List V} {H:Hp} {Q:VK} {E:XK} (z x:_) (c1:vs=[.ref z,.str x]) (c2:Am z H) (c3:1<=x.length) (c4:x.length<=100) (c5:oX x) (c6:∀m H',ra m=true->AA z H H'->Q (.str m) H'):oY vs H Q E
theorem qw(x y:Str):(x++y).length=x.length+y.length:=by
 show (x.cps++y.cps).size=_;rw[Mg];rfl
theorem kQ(x y:Str):(x++y).cps.toList=x.cps.toList++y.cps.toList:=by
 show (x.cps++y.cps).toList=_;rw[KI]
noncomputable def uT(e:Str)(d:Dr):Bool:=!(Mz (d.1++YP " "++d.2.2) e 0 (d.1++YP " "++d.2.2).length 1).isEmpty
noncomputable def xT(t o:Tg):Bool:=!((!decide (V.str t.1=V.str (YP "")))&&o.2.any (uT t.1))
noncomputable def vD(b:Bk)(d:Dr):Bool:=!((b.getD d.2.1.toNat zk).2.any λo=>xk o.1 d.2.2 0)
noncomputable def wH(b:Bk)(t:Tg):Bool:=b.all (xT t)&&decide (yD t.2).Nodup&&t.2.all (vD b)
noncomputable def vE(b:Bk):Bool:=b.all (wH b)
theorem kR(xs:List B)(d:B)(p:B->Bool)(h:∀j,j<xs.length->p (xs.getD j d)=true):xs.all p=true:=by
 rw[QR];intro x D;obtain⟨i,hi,rfl⟩:=Pj.mp D;have:=h i hi;simpa [hi] using this
theorem kS(xs:List B)(d:B)(p:B->Bool){i:Nat}(hi:i<xs.length)(h:p (xs.getD i d)=false):xs.all p=false:=by
 rw[Pk];refine⟨xs[i],RT hi,?_⟩;have:xs.getD i d=xs[i]:=by simp[hi]
 rw[←this,h];simp
theorem eO(ds:List B)(d:B)(p:B->Bool)(g:Nat->V){n:Nat}(D:n=ds.length):(yM (λi=>(if p (ds.getD i d) then some (g i) else none).toList) n).isEmpty=!(ds.any p):=by
 subst D;rw[eM,QX,QR,QU,OZ];constructor
 .intro h x F G;obtain⟨i,hi,rfl⟩:=Pj.mp F;have h2:=h i (Pu.mpr hi);have e:ds.getD i d=ds[i]:=by simp[hi]
  rw[e,Qxb G] at h2;cases h2
 .intro h i hi;have hi:=Pu.mp hi;have h2:=h ds[i] (RT hi);have e:ds.getD i d=ds[i]:=by simp[hi]
  rw[e,Qxa h2];rfl
theorem eP{c:Nat}(B:tX c=true)(d:Dr):uT ⟨#[c]⟩ d=true↔c∈d.1.cps.toList∨c∈d.2.2.cps.toList:=by
 unfold uT;rw[StrLaws.found_iff];have e:(d.1++YP " "++d.2.2).cps.toList=d.1.cps.toList++[32]++d.2.2.cps.toList:=by
  rw[kQ,kQ];have:(YP " ").cps.toList=[32]:=by lia
  rw[this]
 have D:c≠32:=by
  intro h;subst h;exact absurd B (by decide)
 constructor
 .rintro⟨i,h⟩;have h2:=(Jv _ _ _).mp h;rw[e] at h2;have:=Ph h2;simp at this;rcases this with h|h|h
  .exact .inl (by simpa using h)
  .exact absurd h D
  .exact .inr (by simpa using h)
 .intro h;have:c∈(d.1++YP " "++d.2.2).cps.toList:=by
   rw[e];simp;rcases h with h|h
   .exact .inl (by simpa using h)
   .exact .inr (.inr (by simpa using h))
  obtain⟨i,hi⟩:=List.mem_iff_getElem?.mp this;exact⟨i,(Jv _ _ _).mpr hi⟩
theorem Vm(b:Bk):rc b=true↔∃t∈b,∃o∈b,∃d∈o.2,∃c,t.1=⟨#[c]⟩/\(c∈d.1.cps.toList∨c∈d.2.2.cps.toList):=by
 unfold rc kO oU eJ;simp only[Qx,Pd,S7,QD,or_false,S4,beq_iff_eq];constructor
 .rintro⟨m,⟨o,B,d,D,I⟩,c,G,e,⟨t,ht,rfl⟩,F⟩;refine⟨t,ht,o,B,d,D,c,F,?_⟩;rcases I with rfl|rfl
  .exact .inl G
  .exact .inr G
 .rintro⟨t,ht,o,B,d,D,c,F,h|h⟩
  .exact⟨d.1,⟨o,B,d,D,.inl J⟩,c,h,t.1,⟨t,ht,J⟩,F⟩
  .exact⟨d.2.2,⟨o,B,d,D,.inr J⟩,c,h,t.1,⟨t,ht,J⟩,F⟩
theorem wk:(YP "")=⟨#[]⟩:=by lia
theorem Vn{n:Int}(B:∀t∈b,An n t):(∃t∈b,b.all (xT t)=false)↔rc b=true:=by
 rw[Vm];constructor
 .rintro⟨t,ht,h⟩;rw[Pk] at h;obtain⟨o,D,h⟩:=h;unfold xT at h;simp only[QU,Na,R0,decide_eq_false_iff_not,Qx] at h;obtain⟨h1,d,F,h2⟩:=h;have I:t.1≠YP "":=λz=>h1 (by rw[z]);have J0:t.1.length<=1:=by
   have:=(B t ht).1;unfold vA at this;simp at this;exact this.1
  rcases eN t.1 J0 with⟨ex,_⟩|⟨c,ex,L⟩
  .exact absurd ex I
  .have G:tX c=true:=by rw[←L];exact(B t ht).1
   rw[ex] at h2;exact⟨t,ht,o,D,d,F,c,ex,(eP G d).mp h2⟩
 .rintro⟨t,ht,o,D,d,F,c,ex,h⟩;refine⟨t,ht,?_⟩;rw[Pk];refine⟨o,D,?_⟩;have G:tX c=true:=by
   have:=(B t ht).1;rw[ex] at this;exact this
  unfold xT;simp only[QU,Na,R0,decide_eq_false_iff_not,Qx];refine⟨λz=>?_,d,F,?_⟩
  .have z':t.1=YP "":=by injection z
   rw[ex,wk] at z';simp at z'
  .rw[ex];exact(eP G d).mpr h
theorem Vo(G:∀t∈b,An b.length t):(∃t∈b,t.2.all (vD b)=false)↔((RO b.length).any λt=>oV b t)=true:=by
 unfold oV eL eK;simp only[Qx,Pu,Pd,OM];constructor
 .rintro⟨t,ht,h⟩;rw[Pk] at h;obtain⟨d,B,h⟩:=h;unfold vD at h;simp only[QU,Na,Qx] at h;obtain⟨o,D,h⟩:=h;obtain⟨_,⟨h1,h2⟩,_⟩:=(G t ht).2.2 d B;refine⟨d.2.1.toNat,by exact lm h1 h2,o,D,d.2.2,⟨t,ht,d,B,?_⟩,h⟩;rw[Qxb (sK h1)]
 .rintro⟨n,I,o,D,c,⟨t,ht,d,B,F⟩,h⟩;split at F
  .rename_i e;obtain rfl:d.2.2=c:=by simpa using F
   refine⟨t,ht,?_⟩;rw[Pk];refine⟨d,B,?_⟩;unfold vD;simp only[QU,Na,Qx];refine⟨o,?_,h⟩;rw[e];simpa using D
  .cases F
theorem Vp(B:∀t∈b,An b.length t):vE b=qv b:=by
 have h1:=Vn B;have D:=Vo B;unfold qv;cases e1:rc b with
 |true=>
  obtain⟨t,ht,h⟩:=h1.mpr e1;simp only[Pf,Op,PU];unfold vE;rw[Pk];refine⟨t,ht,?_⟩;unfold wH;rw[h];simp
 |false=>
  cases e3:((RO b.length).any λt=>oV b t) with
  |true=>
   obtain⟨t,ht,h⟩:=D.mpr e3;simp only[Pf,Op];unfold vE;rw[Pk];refine⟨t,ht,?_⟩;unfold wH;rw[h];simp
  |false=>
   simp only[Ko,Ms];unfold vE;rw[QX,QR,QR];have F:∀t∈b,b.all (xT t)=true:=λt ht=>by
    cases q:b.all (xT t) with
    |true=>rfl
    |false=>rw[h1.mp ⟨t,ht,q⟩] at e1;cases e1
   have G:∀t∈b,t.2.all (vD b)=true:=λt ht=>by
    cases q:t.2.all (vD b) with
    |true=>rfl
    |false=>rw[D.mp ⟨t,ht,q⟩] at e3;cases e3
   constructor
   .intro h t ht;have:=h t ht;unfold wH at this;rw[F t ht,G t ht,OH,Ms] at this;exact this
   .intro h t ht;unfold wH;rw[F t ht,G t ht,OH,Ms];exact h t ht
end T1
namespace L2
open PySem PySem.Spec PyProof.Rows
variable {H:Hp}{a:Addr}{xs:List V}
noncomputable def SqS(H:Hp)(a:Addr)(xs:List V):Prop:=H a=some (.tup xs)∨H a=some (.lst xs)
theorem SqS.same{H':Hp}(h:SqS H a xs)(s:Aa H H'):SqS H' a xs:=h.elim (λh=>.inl (s _ _ h)) λh=>.inr (s _ _ h)
theorem eQ{K:W.Frag}{te B:TE}{g:TG}{tb:TS}{D:xM}{σ:St}(h:SqS H a xs)(L:∀R:VK,R (.ref a) H->te σ H R)(M:∀R:VK,R (.ref a) H->B σ H R)(Pv:Nat->St->Hp->Prop)(F:Pv 0 σ H)(G:∀i σ H',Pv i σ H'->Aa H H')(I:∀i x σ H,xs[i]?=some x->Pv i σ H->g x σ H λO H2=>tb { D with nx:=Pv (i+1),ct:=Pv (i+1),bk:=D.nx } O H2)(J0:∀σ H,Pv xs.length σ H->D.nx σ H) :
  lL (λσ H R=>gk K te σ H R∨gj K B σ H R) g tb D σ H:=by
 rcases h with h|h
 .exact .inl (L _ ⟨a,J,⟨xs,Ah.of h⟩,ux (K:=K) (a:=a) (xs:=xs) Pv F (λi σ H' _ q=>Ah.of (G i σ H' q _ _ h)) I J0⟩)
 .exact .inr (M _ ⟨a,J,⟨xs,Ad.of h⟩,tJ (K:=K) (a:=a) (xs:=xs) Pv F (λi σ H' _ q=>Ad.of (G i σ H' q _ _ h)) I J0⟩)
theorem Vq{K:W.Frag}{j:Nat}{v:V}{Q:VK}(h:SqS H a xs)(B:xs[j]?=some v)(q:Q v H):gS K (.ref a) (.int j) H Q:=by
 rcases h with h|h
 .exact .inr (.inl ⟨a,xs,j,v,J,J,Ah.of h,zy B,q⟩)
 .exact .inl ⟨a,xs,j,v,J,J,Ad.of h,zy B,q⟩
end L2
namespace T1
open PySem L2
variable {P:U2}{w:Rz}{K:W.Frag}{mg:Str->Option X3}{base:Heap}
inductive oZ:Sp where
 |mk {vs:List V} {H:Hp} {Q:VK} {E:XK} (z a xs b:_) (c1:vs=[.ref a]) (c2:SqS H a xs) (c3:Ab z H xs (b.map uc)) (c4:b.length<=7) (c5:(∀t∈b,An b.length t)) (c6:∀H',Aa H H'->Q (.bl (vE b)) H'):oZ vs H Q E
theorem wm{x:Str}(h:ra x=true):x.length<=4/\1<=x.length:=by
 unfold ra at h;simp only[R0,decide_eq_true_eq] at h;omega
theorem Vr:(["door","escape"]:List Str).Nodup:=by lia
theorem kT:(["door"]:List Str).Nodup:=by lia
theorem Vs:(["one","door"]:List Str).Nodup:=by lia
end T1
namespace L2
open PySem PySem.Spec PyProof.Rows
section
variable {X:Cx}
noncomputable def Vt:R2:=λx y H Q=>∃a b xs ys,x=.ref a/\y=.ref b/\H a=some (.tup xs)/\H b=some (.tup ys)/\xs.length+ys.length<=sizeLine/\∀p H',Aa H H'->H' p=some (.tup (xs++ys))->Q (.ref p) H'
theorem Vu:yt X (P6 .Add) Vt:=by
 intro Δ s σ H x y v u Q B G I h;obtain⟨a,b,xs,ys,rfl,rfl,D,F,W,q⟩:=h;by_cases J0:xs=[]
 .subst J0;cases G;cases I;obtain⟨its,Y,Z,_⟩:=B.tuple (Ah.of D);obtain⟨aa,af,p2,_⟩:=B.tuple (Ah.of F);cases Y;obtain⟨⟨cls,dd,data,ab⟩,L,M,n,O⟩:=id Z;obtain⟨⟨ag,ac,data2,ad⟩,R,S,n2,U⟩:=id p2;simp only at M O S U;subst M O S U;exact Jo ⟨_,L,J⟩ ⟨_,R,J⟩ MB KQ O5 OS (OE _ _)
   (tuple_addW0 a b _ aa.toArray n n2 dd ac ab ad (by simp)) ⟨L,R,⟨.ref b,H,B,J,q b H (Aa.refl H) F⟩⟩
 .refine YI Δ s σ H _ _ v u Q B G I ⟨a,b,xs,ys,J,J,Ah.of D,Ah.of F,J0,W,λV=>?_,λV p ae=>q p _ (Aa.new ae) zd⟩;refine q a H (Aa.refl H) ?_;rw[V,QI];exact D
end
end L2
namespace HT
open PySem PySem.Spec PyProof.Rows L2
section
variable {prog:U2}{w:Rz}{A:QG}{E:X3->X9->Prop}{s:X9}
end
end HT
namespace L2
open PySem PySem.Spec PyProof.Rows
variable {X:Cx}
theorem Vv{lo:Int}{n:Nat}{g:TG}{D:TR}{Qe:St->Hp->Prop}{σ:St}{H:Hp}(Pv:Nat->St->Hp->Prop)(F:Pv 0 σ H)(G:∀i σ H,i<n->Pv i σ H->g (.int (lo+i)) σ H λI H2=>D I H2 (Pv (i+1)))(J0:∀σ H,Pv n σ H->Qe σ H):vw (tI lo n) g ve D Qe σ H:=by
 refine⟨λi m σ H=>m=n-i/\i<=n/\Pv i σ H,⟨n,J,X7 _,F⟩,?_⟩;rintro i m σ H ⟨rfl,hi,p⟩;by_cases B:i<n
 .refine .inr ⟨B,Pv (i+1),λσ' H' L=>⟨n-(i+1),by exact vK B,J,B,L⟩,λx H' y=>?_⟩;obtain⟨e,y⟩:=y;subst e y;exact G i σ _ B p
 .have e:i=n:=RU hi (Qt.1 B);subst e;exact .inl ⟨X2 _,J0 σ H p⟩
end L2
namespace T1
open PySem L2
variable {a f p q z:Addr}{H H':Hp}{o:HO}{l:List R8}{b:Bk}{vs xs:List V}{i j n:Nat}{pos:Pos}{fd:FuncData}{v:V}
variable {P:U2}{w:Rz}{K:W.Frag}{mg:Str->Option X3}{base:Heap}
noncomputable def wI(a:Addr)(H:Hp):Hp:=λx=>if x=a then none else H x
theorem tY{x:Addr}(h:x≠a):wI a H x=H x:=Qxa h
theorem eR:wI a (c' H a o)=wI a H:=by
 funext x;unfold wI c';by_cases h:x=a
 .rw[Qxb h,Qxb h]
 .rw[Qxa h,Qxa h,Qxa h]
theorem qx{x:Addr}(h:wI a H x=some o):x≠a/\H x=some o:=by
 unfold wI at h;by_cases e:x=a
 .rw[Qxb e] at h;cases h
 .rw[Qxa e] at h;exact⟨e,h⟩
theorem Vw(s:Ac z H H'):Ac z (wI a H) (wI a H'):=λb o B h=>by
 obtain⟨h1,h2⟩:=qx h;rw[tY h1];exact s b o B h2
theorem eT:Ac z (wI a H) H:=λb o _ h=>(qx h).2
theorem eU{l:Addr}(B:H l=none)(s:Ac z H H'):Ac z (wI a H) (wI l H'):=λb o D h=>by
 obtain⟨h1,h2⟩:=qx h;rw[tY (zi h2 B)];exact s b o D h2
theorem Ab.set{z:Addr}{H:Hp}{v:V}{d:D}(r:Aj z H v d):∀ {vs:List V}{ds:List D}(i:Nat),Ab z H vs ds->Ab z H (vs.set i v) (ds.set i d)
 |_,_,_,.nil=>.nil
 |_,_,0,.cons _ t=>.cons r t
 |_,_,i+1,.cons h t=>.cons h (Ab.set r i t)
theorem Ab.append{z:Addr}{H:Hp}:∀ {vs B:List V}{ds es:List D},Ab z H vs ds->Ab z H B es->Ab z H (vs++B) (ds++es)
 |_,_,_,_,.nil,h=>h
 |_,_,_,_,.cons a t,h=>.cons a (Ab.append t h)
noncomputable def LBk(z a:Addr)(b:Bk)(H:Hp):Prop:=a≠z/\∃vs,H a=some (.lst vs)/\Ab z (wI a H) vs (b.map uc)
theorem LBk.aft(D:LBk z a b H)(s:Ac z H H'):LBk z a b H':=by
 obtain⟨B,vs,h,r⟩:=D;exact⟨B,vs,s _ _ B h,r.mono (Vw s)⟩
theorem Am.ne(h:Am z H)(B:H p=none):p≠z:=by
 obtain⟨c,s,e⟩:=h;exact(zi e B).symm
theorem Am.neT(h:Am z H)(B:H p=some (.tup xs)):p≠z:=by
 obtain⟨c,s,e⟩:=h;exact zj B e (by intro q;cases q)
theorem AA.new{z p:Addr}{H H':Hp}{o:HO}(a:AA z H H')(B:H' p=none):AA z H (c' H' p o):=a.same (Aa.new B)
theorem AA.c'{z p:Addr}{H H':Hp}{o:HO}(a:AA z H H')(B:H p=none)(D:p≠z):AA z H (L2.c' H' p o):=by
 refine⟨λb u F e=>?_,?_⟩
 .rw[zh (zi e B)];exact a.1 b u F e
 .obtain⟨c,s,e⟩:=a.2;exact⟨c,s,by rw[zh D.symm];exact e⟩
noncomputable def yn(b:Bk):Prop:=1<=b.length/\b.length<=6/\(∀t∈b,An b.length t)/\qv b=true
inductive o0:Sp where
 |mk {vs:List V} {H:Hp} {Q:VK} {E:XK} (z:_) (c1:vs=[.ref z]) (c2:Am z H) (c3:∀v b H',AA z H H'->Aj z H' v (yp b)->yn b->Q v H'):o0 vs H Q E
theorem o4{l:List V}(h:H p=some (.lst l)){r:Nat}(B:r<l.length):∃x,l[r]?=some x/\x∈l:=⟨l[r],by simp[B],RT B⟩
theorem AA.none(a:AA z H H')(B:H' p=none):H p=none:=by
 cases e:H p with
 |none=>rfl
 |some o=>
  rw[a.1 p o (a.2.ne B) e] at B;cases B
theorem Vx(h:j<n):xA n (j:Int)=some j:=by
 unfold xA;rw[Qxb (RC _),Qxb (wx h)];simp
theorem Vy(h:∀t∈b,t.2=[]):vE b=true:=by
 unfold vE;rw[QR];intro t ht;unfold wH;rw[h t ht];have:b.all (xT t)=true:=by
  rw[QR];intro o B;unfold xT;rw[h o B];simp
 rw[this];rfl
theorem Vz:(["tongue","bag","escapes"]:List Str).Nodup:=by lia
theorem Am.same(h:Am z H)(s:Aa H H'):Am z H':=let ⟨c,e,q⟩:=h;⟨c,e,s _ _ q⟩
theorem Ab.take{z:Addr}{H:Hp}:∀ {vs:List V}{ds:List D}(k:Nat),Ab z H vs ds->Ab z H (vs.take k) (ds.take k)
 |_,_,0,_=>by simpa using Ab.nil
 |_,_,k+1,.nil=>by simpa using Ab.nil
 |_,_,k+1,.cons a t=>.cons a (Ab.take k t)
theorem Ab.drop{z:Addr}{H:Hp}:∀ {vs:List V}{ds:List D}(k:Nat),Ab z H vs ds->Ab z H (vs.drop k) (ds.drop k)
 |_,_,0,h=>h
 |_,_,k+1,.nil=>by simpa using Ab.nil
 |_,_,k+1,.cons a t=>Ab.drop k t
theorem kU{r:Nat}(h:r<xs.length):xs[r]?=some (xs.getD r .non):=by simp[h]
theorem yV:(1000:Nat)<=sizeLine:=by rw[Qo];decide
section
variable {X:Cx}{es:List R8}{te:TE}{t:TA}
theorem yY{c:Const}{k:Nat}(h:PE X (.Constant c k pos) te)(B:PA X es t):PA X (.Constant c k pos::es) (xv te t):=zc h B rfl
theorem VA{k:Nat}(h:PE X (.Tuple l k pos) te)(B:PA X es t):PA X (.Tuple l k pos::es) (xv te t):=zc h B rfl
theorem eV(h:PE X (.List l pos) te)(B:PA X es t):PA X (.List l pos::es) (xv te t):=zc h B rfl
theorem tZ{o:Ki}{a b:R8}(h:PE X (.BinOp a o b pos) te)(B:PA X es t):PA X (.BinOp a o b pos::es) (xv te t):=zc h B rfl
end
mutual
inductive xJ:D->Prop where
 |non:xJ .non
 |bl (b:Bool):xJ (.bl b)
 |int (i:Int):xJ (.int i)
 |str (x:Str):xJ (.str x)
 |tup {ds:List D} (t:Av ds):xJ (.tup ds)
inductive Av:List D->Prop where
 |nil:Av []
 |cons {d:D} {ds:List D} (h:xJ d) (t:Av ds):Av (d::ds)
end
mutual
theorem Aj.updL{z p:Addr}{H:Hp}{l l':List V}(B:H p=some (.lst l)):∀ {v:V}{d:D},Aj z H v d->xJ d->Aj z (c' H p (.lst l')) v d
 |_,_,.non,_=>.non
 |_,_,.bl b,_=>.bl b
 |_,_,.int i,_=>.int i
 |_,_,.str x h,_=>.str x h
 |_,_,.tup h F r,.tup t=>.tup (by rw[zh (zj h B)];exact h) F (Ab.updL B r t)
theorem Ab.updL{z p:Addr}{H:Hp}{l l':List V}(B:H p=some (.lst l)):∀ {vs:List V}{ds:List D},Ab z H vs ds->Av ds->Ab z (c' H p (.lst l')) vs ds
 |_,_,.nil,_=>.nil
 |_,_,.cons h t,.cons h' t'=>.cons (Aj.updL B h h') (Ab.updL B t t')
end
theorem Av.append:∀ {ds es:List D},Av ds->Av es->Av (ds++es)
 |_,_,.nil,h=>h
 |_,_,.cons a t,h=>.cons a (Av.append t h)
theorem eW:∀ds:List Dr,Av (ds.map vg)
 |[]=>.nil
 |d::r=>.cons (.tup (.cons (.str _) (.cons (.int _) (.cons (.str _) .nil)))) (eW r)
theorem wa:∀b:Bk,Av (b.map uc)
 |[]=>.nil
 |t::r=>.cons (.tup (.cons (.str _) (.cons (.tup (eW t.2)) .nil))) (wa r)
noncomputable def yj(i:Nat):Stmt:=NM.main.body.getD i (.Pass ⟨0,0,0,0⟩)
noncomputable abbrev kW:Stmt:=yj 3
noncomputable abbrev kX:Stmt:=yj 11
noncomputable abbrev kY:Stmt:=yj 12
noncomputable abbrev o5:Stmt:=yj 13
noncomputable abbrev kZ:Stmt:=yj 14
noncomputable abbrev k9:Stmt:=yj 15
noncomputable abbrev rf:Stmt:=yj 16
noncomputable abbrev ja:Stmt:=yj 17
noncomputable abbrev jb:Stmt:=yj 18
noncomputable abbrev jc:Stmt:=yj 19
noncomputable abbrev jd:Stmt:=yj 20
noncomputable abbrev je:Stmt:=yj 21
noncomputable abbrev jf:Stmt:=yj 22
noncomputable abbrev o6:Stmt:=yj 23
noncomputable abbrev qy:Stmt:=yj 25
noncomputable abbrev jg:Stmt:=yj 26
noncomputable abbrev qA:Stmt:=yj 27
noncomputable abbrev o7:Stmt:=yj 29
noncomputable abbrev wJ:Stmt:=yj 32
noncomputable abbrev o8:Stmt:=yj 35
noncomputable abbrev o9:Stmt:=yj 36
noncomputable abbrev rg:Stmt:=yj 37
noncomputable abbrev ng:Stmt:=yj 38
noncomputable abbrev nh:Stmt:=yj 39
noncomputable abbrev jh:Stmt:=yj 40
noncomputable abbrev ni:Stmt:=yj 41
noncomputable abbrev ji:Stmt:=yj 42
noncomputable abbrev nj:Stmt:=yj 44
noncomputable abbrev qB:Stmt:=yj 45
noncomputable abbrev jj:Stmt:=yj 46
noncomputable abbrev jk:Stmt:=yj 48
noncomputable abbrev jl:Stmt:=yj 49
noncomputable abbrev nk:Stmt:=yj 50
noncomputable abbrev jm:Stmt:=yj 52
noncomputable abbrev jn:Stmt:=yj 53
noncomputable abbrev jo:Stmt:=yj 54
noncomputable abbrev rh:Stmt:=yj 55
noncomputable abbrev nu:Stmt:=yj 56
noncomputable abbrev jp:Stmt:=yj 57
noncomputable abbrev jq:Stmt:=yj 58
noncomputable abbrev rj:Stmt:=yj 59
noncomputable abbrev nv:Stmt:=yj 60
noncomputable abbrev jr:Stmt:=yj 61
noncomputable abbrev qC:Stmt:=yj 62
noncomputable abbrev jt:Stmt:=yj 63
noncomputable abbrev ju:Stmt:=yj 64
noncomputable abbrev qD:Stmt:=yj 65
noncomputable abbrev VB:Nat:=58
noncomputable abbrev VC:Nat:=31
structure yu(mg:Str->Option X3):Prop where
 len:mg "len"=none
 ord:mg "ord"=none
 all_:mg "all"=none
 any_:mg "any"=none
 isinst:mg "isinstance"=none
 str:mg "str"=none
 int:mg "int"=none
 bool:mg "bool"=none
 tuple:mg "tuple"=none
 range:mg "range"=none
 sorted:mg "sorted"=none
 max:mg "max"=none
theorem BU:zK ["bag","many","found"] ["bag","many"] (zq jn):=zP
theorem VD(F:Ao K "_law_take" "_law_take" jn f fd):Ag P w K mg base zD 1 f fd ["bag","many"] re:=by
 refine F.okA BU λg4 A outer s H vs Q E L h=>?_;obtain⟨z,n,rfl,⟨c,e,B⟩,D,M,k⟩:=h;have J0:=BU.nd;refine⟨_,ze (ya (zZ tM (zx Ae (pv 0) zg (λ_ _=>rfl)) zg (zR _))
   (ze (zu (i:=2) J0 (zG uA (zx Ae (pv 0) zg (λ_ _=>rfl)) (pv 1)))
   (ze (xt (zG ou (zx Ae (pv 0) zg (λ_ _=>rfl)) (pv 1)) (rS (pv 0) zg l9))
   (zm (zB (pv 2))))) ye)
  (ze (xt (zG uA (zG tL (zx Ae (pv 0) zg (λ_ _=>rfl)) zg) zg) (rS (pv 0) zg l9))
  (zm (zB (zG uA (zG ou (zG uA (zG tL (zG ou (zx Ae (pv 0) zg (λ_ _=>rfl)) zg) (zG yO (zG uA (zx Ae (pv 0) zg (λ_ _=>rfl)) zg) zg)) zg) zg) (pv 1))))),?_⟩
 dsimp only[zH,Cx.nox,Cx.wish];refine⟨_,J,z,_,0,_,J,J,Ad.of B,zy (j:=0) J,_,_,J,J,_,J,?_⟩;have ex:∀x:Int,∃r:Nat,x % n=(r:Int)/\(r:Int)<n:=λx=>⟨(x % n).toNat,by have:=M8 x (show n≠0 by exact oe D);exact sK this,by have:=Jd x D;have:=M8 x (show n≠0 by exact oe D);omega⟩;refine yc (λh1=>?_) (λh1=>?_)
 .refine⟨_,J,z,_,0,_,J,J,Ad.of B,zy (j:=0) J,_,J,_,_,J,J,D,?_⟩;refine⟨_,J,z,_,0,_,J,J,Ad.of B,zy (j:=0) J,_,J,_,_,J,J,⟨D,by omega⟩,?_⟩;refine⟨_,J,z,_,0,0,J,J,B,J,?_⟩;obtain⟨r,G,I⟩:=ex c;refine⟨_,J,?_⟩;have q:=k r (c' H z (.lst [.int (c / n),.int e])) I ⟨Ac.refl.c',⟨_,_,zd⟩⟩;rw[←G] at q;exact q
 .refine⟨_,J,z,_,1,_,J,J,Ad.of B,zy (j:=1) J,_,_,J,J,.inr (by decide),_,_,J,J,(by show (0:Int)<_;decide),?_⟩;refine⟨_,J,z,_,1,1,J,J,B,J,?_⟩;refine⟨_,J,z,_,1,_,J,J,Ad.of zd,zy (j:=1) J,_,_,J,J,⟨by decide,by decide⟩,_,J,z,_,1,_,J,J,Ad.of zd,zy (j:=1) J,_,_,J,J,(by show (0:Int)<_;decide),_,_,J,J,_,_,J,J,?_⟩;refine⟨.inr ?_,_,_,J,J,(by show (0:Int)<_;decide),_,_,J,J,⟨by decide,by decide⟩,_,J,_,_,J,J,D,?_⟩
  .have O:=M8 (e*48271 % 2147483647) (show (32749:Int)≠0 by decide);have R:=Jd (e*48271 % 2147483647) (show (0:Int)<32749 by decide);omega
  .obtain⟨r,G,I⟩:=ex (e*48271 % 2147483647 / 13*(e*48271 % 2147483647 % 32749+17) % 2147483629 / 32);have q:=k r (c' H z (.lst [.int c,.int (e*48271 % 2147483647)])) I ⟨Ac.refl.c',⟨_,_,zd⟩⟩;rw[←G] at q;exact q
theorem Cj:zK ["script","k","cell","seed"] ["script","k"] (zq jm):=zP
theorem VE(F:Ao K "_law_bag" "_law_bag" jm f fd)(T:yu mg):Ag P w K mg base zD 1 f fd ["script","k"] (oW K):=by
 refine F.okA Cj λg4 A outer s H vs Q E M h=>?_;obtain⟨a,G,i,rfl,I,hi,k⟩:=h;have D:=Cj.nd;refine⟨_,ze (zu (i:=2) D zg)
  (ze (ya (zZ vb (pv 1) (zT xB (by rfl) T.len b_len (zz 0)) (zR _))
   (zm (zu (i:=2) D (zG uA (zx Ae (pv 0) (pv 1) (λ_ _=>rfl)) (zG gq zg zg)))) ye)
  (ze (zu (i:=3) D (zG yO zg (zG uA (zG yO (zG yO (zG yO (zG tL (zG uA (pv 2) zg) zg) (zG tL (zG tL zg (pv 1)) (pv 1))) (zG tL zg (pv 1))) zg) zg)))
  (ze (ya (zZ vb (pv 2) (zG gq zg zg) (zR _)) (zm (zB (zV (zc zg (zz 3))))) ye)
  (zm (zB (zV (yk 2 3))))))),?_⟩
 dsimp only[zH,Cx.nox,Cx.wish];have J0:(2:Nat)<=sizeLine:=by rw[Qo];decide
 refine⟨_,J,_,J,a,_,J,.inl I,_,_,J,J,_,J,?_⟩;refine yc (λh1=>?g1) (λh1=>?g2)
 case' g1=>
  have L:i<G.length:=by simp at h1;exact h1
  refine⟨_,J,_,J,a,_,_,.int G[i],J,J,I,zy (by simp[L]),_,_,J,J,⟨by decide,by decide,by decide⟩,_,_,J,J,(by show (0:Int)<_;decide),?_⟩
 all_goals
  refine⟨_,J,_,_,J,J,(by show (0:Int)<_;decide),_,_,J,J,.inr (by decide),_,J,_,_,J,J,.inl (by decide),_,J,_,_,J,J,.inr (by omega),_,_,J,J,_,J,_,_,J,J,.inl (by decide),_,_,J,J,_,_,J,J,_,_,J,J,(by show (0:Int)<_;decide),_,_,J,J,?_⟩;refine⟨_,J,_,_,J,J,⟨by decide,by decide,by decide⟩,_,_,J,J,_,J,?_⟩;refine yc (λh1=>?_) (λh1=>?_)
  .exact⟨_,J,J0,λp B=>k p _ B (Aa.new B) ⟨_,_,zd⟩⟩
  .exact⟨_,J,_,J,J0,λp B=>k p _ B (Aa.new B) ⟨_,_,zd⟩⟩
theorem scMk:zK ["bag","signs","found","turn"] ["bag","signs"] (zq jo):=zP
theorem VF(F:Ao K "_law_mark" "_law_mark" jo f fd)(T:yu mg)(J0:Cl P w K mg base 1 "_law_take" ["bag","many"] re):Ag P w K mg base zD 2 f fd ["bag","signs"] oY:=by
 refine F.okA scMk λg4 A outer s H vs Q E L h=>?_;obtain⟨z,x,rfl,aa,ab,W,ac,k⟩:=h;have M:=scMk.nd;refine⟨_,ze (zu (i:=2) M z0)
  (ze (xu Rn J (rX J T.range (zc (zG yO zg (zx Ae (zV (zc zg (zc zg (zc zg (zc (zA J0 L (zc (pv 0) (zc zg zf))) zf))))) (zA J0 L (zc (pv 0) (zc zg zf))) (λ_ _=>rfl))) zf))
   (zw (i:=3) M)
   (zm (zu (i:=2) M (zG uC (pv 2) (zx rZ (pv 1) (zA J0 L (zc (pv 0) (zc (zT yL (by rfl) T.len b_len (zz 1)) zf))) (λ_ _=>rfl))))))
  (zm (zB (pv 2)))),?_⟩
 dsimp only[zH,Cx.nox,Cx.wish];have am:(1000:Nat)<=sizeLine:=by rw[Qo];decide
 refine⟨_,J,z,4,J,aa,by decide,by decide,λr H1 ao O=>?_⟩;refine⟨by show (4:Nat)<=_;exact X6 _ _,λp R=>⟨_,J,z,4,J,?_,by decide,by decide,λS H2 ad Y=>?_⟩⟩
 .exact(O.same (Aa.new R)).2
 .have ae:AA z H H2:=(O.same (Aa.new R)).trans Y;have af:p≠z:=by
   obtain⟨c,e,h⟩:=O.2;exact(zi h R).symm
  have ag:H2 p=some (.lst [.int 0,.int 0,.int 1,.int r]):=Y.1 p _ af zd;obtain⟨n,ah,ai,ap⟩:∃n:Nat,([V.int 0,V.int 0,V.int 1,V.int r]:List V)[S]?=some (.int n)/\n<=3/\True:=by
   match S,ad with
   |0,_=>exact⟨0,J,by exact X7 _,trivial⟩
   |1,_=>exact⟨0,J,by exact X7 _,trivial⟩
   |2,_=>exact⟨1,J,by exact Qy _,trivial⟩
   |3,_=>exact⟨r,J,by omega,trivial⟩
   |m+4,h=>omega
  refine⟨p,_,S,.int n,J,J,Ad.of ag,zy ah,1,n,J,J,1+n,J,by exact RC _,by omega,?_⟩;have aj:(1+(n:Int)).toNat=1+n:=rfl;rw[aj];refine rY (λi σ B=>∃m u,σ=[some (.ref z),some (.str x),some (.str m),u]/\AA z H B/\m.length=i/\oX m) ⟨_,none,J,ae,by lia,?_⟩ ?_ ?_
  .intro c hc;have:(YP "").cps.toList=[]:=by lia
   rw[this] at hc;cases hc
  .rintro i σ B hi ⟨m,u,rfl,D,G,U⟩;refine⟨_,J,_,J,_,J,_,J,x,J,by exact zC W,z,x.length,J,D.2,by exact wx ab,by omega,λI aq ak al=>?_⟩;have Z:I<x.cps.toList.length:=by
    have:x.cps.toList.length=x.length:=by simp;rfl
    exact Qs.1 ak
   refine⟨x,I,x.cps.toList[I],J,J,by exact zC W,zy (by simp[Z]),m,_,J,J,?_,?_⟩
   .show m.length+1<=_;omega
   .refine⟨_,_,J,D.trans al,?_,λc hc=>?_⟩
    .rw[qw];show m.length+1=_;exact bE G
    .rw[kQ] at hc;rcases T6.mp hc with hc|hc
     .exact U c hc
     .have:c=x.cps.toList[I]:=by simpa using hc
      rw[this];exact ac _ (RT Z)
  .rintro σ B ⟨m,u,rfl,D,G,U⟩;refine⟨_,J,k m B ?_ D⟩;unfold ra;rw[Qxd (show 1<=m.length by exact iQ G),Qxd (show m.length<=4 by exact Zh ai G)];simp only[OH,QR];exact U
theorem BL:zK ["book","escape","doors","other","more","door","some"] ["book"] (zq rh):=zP
theorem VG(F:Ao K "_law_fits_book" "_law_fits_book" rh f fd)(T:yu mg)(bi:ud mg):Ag P w K mg base zD 1 f fd ["book"] oZ:=by
 refine F.okA BL λg4 A outer s H vs Q E aX h=>?_;obtain⟨z,a,xs,b,rfl,aD,R,bR,aE,k⟩:=h;have ab:=BL.nd;refine⟨_,ze (xu Rn J (PI.or (xX (pv 0)) (xb (pv 0))) (yR J (zF (wA (i:=1) ab J (Or.inr J)) (zF (zw (i:=2) ab) yJ)))
   (ze (xu Rn J (PI.or (xX (pv 0)) (xb (pv 0))) (yR J (zF (zw (i:=3) ab) (zF (zw (i:=4) ab) yJ)))
    (ze (uJ (i:=6) (N':=["door","escape"]) (js:=[none,some 1]) J J ab J (Or.inl J) (yZ (zq rh) (by lia)) ⟨J,Or.inr (Or.inl J),J,trivial⟩ (xX (pv 4))
     (λcl s H fp=>zw (i:=0) Vr)
     (λcl s H fp=>vt (zZ Yb (pv 1) (zG uC (zG uC (zx wg (pv 0) zg (λ_ _=>rfl)) z0) (zx wg (pv 0) zg (λ_ _=>rfl))) (by with_unfolding_all rfl))) (λcl s H fp=>pv 0))
    (zm (ya (PW.pt (ut (zZ sV (pv 1) z0 (zR _)) (ur (zZ (uN aX.units0) (pv 6) (zV zf) (zR _))))) (zm (zB wy)) ye))))
   (ze (ya (zZ sV (zT Xq (by rfl) T.len b_len (zc (vc (Xt J) (by rfl) bi.set Xz (zc (xS (N':=["door"]) (js:=[none]) J J (yZ (zq rh) (by lia)) trivial (xX (pv 2))
     (λcl s H fp=>zw (i:=0) kT) (λcl s H fp=>wG) (λcl s H fp=>zx wg (pv 0) zg (λ_ _=>rfl))) zf)) zf)) (zT xB (by rfl) T.len b_len (zz 2)) (zR _)) (zm (zB wy)) ye)
   (zm (xu Rn J (xX (pv 2)) (wA (i:=5) ab J (Or.inr J))
    (zm (ya (zZ (uN aX.units0) (xS (N':=["one","door"]) (js:=[none,some 5]) J J (yZ (zq rh) (by lia)) ⟨J,Or.inr (Or.inl J),J,trivial⟩ (xX (zx Ai (zx YL (pv 0) (zx Ai (pv 5) zg (λ_ _=>rfl)) (λ_ _=>rfl)) zg (λ_ _=>rfl)))
     (λcl s H fp=>zw (i:=0) Vs) (λcl s H fp=>vt (xa (kP QM Oj Ol fi (zx wg (pv 0) zg (λ_ _=>rfl)) (zc (zx wg (pv 1) zg (λ_ _=>rfl)) zf)))) (λcl s H fp=>pv 0)) (zV zf) (zR _)) (zm (zB wy)) ye)))))))
  (zm (zB wy)),?_⟩
 dsimp only[zH,Cx.nox,Cx.wish];have ac:xs.length=b.length:=by have:=R.length;simpa using this
 refine eQ (a:=a) (xs:=xs) aD (λR q=>⟨_,J,q⟩) (λR q=>⟨_,J,q⟩) (λi σ H2=>∃aF aG G I S J0,σ=[some (.ref a),aF,aG,G,I,S,J0]/\Aa H H2/\∀j,j<i->wH b (b.getD j zk)=true) ⟨none,none,none,none,none,none,J,Aa.refl H,λj B=>absurd B (QJ j)⟩ (λi σ H' ⟨_,_,_,_,_,_,_,s,_⟩=>s) ?_ ?_
 .rintro i y σ H2 hi ⟨aF,aG,G,I,S,J0,rfl,D,aH⟩;have aI:i<b.length:=by have:=(W5.mp hi).1;exact zU this (RH ac)
  have bj:y=xs.getD i .non:=by rw[XP,hi];rfl
  have aY:An b.length (b.getD i zk):=aE _ (yE _ aI);obtain⟨c,d,ys,e,bS,bT,bk,ad,W,aZ⟩:=vh ((vi (b:=b) (i:=i) R aI).mono D.x);rw[bj,e];have W:ys.length=(b.getD i zk).2.length:=W;have a0:=aY.2.1;have Z:∀H',Aa H H'->wH b (b.getD i zk)=false->Q (.bl false) H':=λH' s' aJ=>by
   have:=kS b zk (wH b) aI aJ;have q:=k H' s';unfold vE at q;rw[this] at q;exact q
  refine⟨c,_,J,Ah.of bk,J,_,_,J,_,_,J,J,?_⟩;refine yT λbU bl bm _ _=>?_;have Z:=λH' a b=>bm _ _ (Z H' a b);refine zt λU aK=>?_;refine eQ (a:=a) (xs:=xs) (aD.same D) (λR q=>⟨_,J,q⟩) (λR q=>⟨_,J,q⟩) (λj σ au=>∃G I J0,σ=[some (.ref a),some (.str (b.getD i zk).1),some (.ref d),G,I,S,J0]/\Aa H2 au/\∀l,l<j->xT (b.getD i zk) (b.getD l zk)=true) ⟨G,I,J0,J,Aa.refl _,λj B=>absurd B (QJ j)⟩ (λi σ H' ⟨_,_,_,_,s,_⟩=>s) ?_ ?_
  .rintro j bn σ au B ⟨bo,bp,bq,rfl,L,aL⟩;have aM:j<b.length:=by have:=(W5.mp B).1;exact zU this (RH ac)
   have br:bn=xs.getD j .non:=by rw[XP,B];rfl
   have a1:An b.length (b.getD j zk):=aE _ (yE _ aM);have bs:=a1.2.1;obtain⟨bt,aN,zs,aO,bV,bW,bu,aP,aj,bv⟩:=vh ((vi (b:=b) (i:=j) R aM).mono (D.trans L).x);rw[br,aO];have aj:zs.length=(b.getD j zk).2.length:=aj;refine⟨bt,_,J,Ah.of bu,J,_,_,J,_,_,J,J,?_⟩;refine yT λbX a2 bw _ _=>?_;have Z:=λH' a b=>bw _ _ (Z H' a b);refine zt λbY bx=>?_;refine⟨_,J,aN,J,⟨_,Ah.of aP⟩,λp ak=>?_⟩;have al:aN≠p:=zi aP ak;have nx:∀H',Aa au H'->xT (b.getD i zk) (b.getD j zk)=true->∃G I J0,[some (V.ref a),some (V.str (b.getD i zk).1),some (V.ref d),some (.str (b.getD j zk).1),some (.ref aN),S,some (.ref p)]=[some (V.ref a),some (V.str (b.getD i zk).1),some (V.ref d),G,I,S,J0]/\Aa H2 H'/\∀l,l<j+1->xT (b.getD i zk) (b.getD l zk)=true:=λH' s' aJ=>⟨_,_,_,J,L.trans s',λl ac=>by
    rcases Pg.mp ac with h|h
    .exact aL l h
    .rw[h];exact aJ⟩
   refine vf (λl=>if uT (b.getD i zk).1 ((b.getD j zk).2.getD l yd) then some (zs.getD l .non) else none) (λσ=>∃v,σ=[v,some (.str (b.getD i zk).1)]) ⟨none,J⟩ ak (ww aj bs) (tS (xs:=zs) (by rw[zh al];exact aP) al) (λl σ ae C af ⟨v,am⟩ aQ ao=>?_) (λσ ae ap aw=>?_)
   .subst am;have ag:l<(b.getD j zk).2.length:=zU af (RH aj);obtain⟨q,ah,bz,ax⟩:=vB ((vC (ds:=(b.getD j zk).2) (i:=l) bv ag).mono aQ.x);have ay:=a1.2.2 _ (yE yd ag);have bA:=wm ay.1;have bZ:=wm ay.2.2;have b0:(1000:Nat)<=sizeLine:=by rw[Qo];decide
    have a3:(YP " ").length=1:=by lia
    have M:=ao [some (.ref q),some (.str (b.getD i zk).1)] ae ⟨_,J⟩ (Aa.refl _);rw[ah];refine⟨_,J,_,J,q,_,0,_,J,J,Ah.of ax,zy (j:=0) J,_,_,J,J,?_,_,J,q,_,2,_,J,J,Ah.of ax,zy (j:=2) J,_,_,J,J,?_,_,_,J,J,_,J,?_⟩
    .rw[a3];show ((b.getD j zk).2.getD l yd).1.length+1<=_;exact vJ bA.1
    .rw[qw,a3];show ((b.getD j zk).2.getD l yd).1.length+1+((b.getD j zk).2.getD l yd).2.2.length<=_;omega
    .show if uT (b.getD i zk).1 ((b.getD j zk).2.getD l yd)=true then _ else _;cases g:uT (b.getD i zk).1 ((b.getD j zk).2.getD l yd) with
     |true=>
      rw[g,Qxb J,ah] at M;exact yS ⟨_,J,M⟩
     |false=>
      rw[g,Qxa (by simp)] at M;exact yi M
   .refine bx _ _ ⟨_,J,J,_,J,?_⟩;refine yc (λaR=>?_) (λaR=>?_)
    .refine⟨_,J,X7 _,λq O=>?_⟩;have aS:p≠q:=zi aw O;refine⟨p,q,_,J,J,by rw[zh aS];exact aw,zd,_,J,?_⟩;have ai:=eO (b.getD j zk).2 yd (uT (b.getD i zk).1) (λl=>zs.getD l .non) aj;rw[ai,IQ];cases aq:(b.getD j zk).2.any (uT (b.getD i zk).1) with
     |true=>
      refine yS (Z _ (((D.trans L).trans ap).trans (Aa.new O)) ?_);have aT:xT (b.getD i zk) (b.getD j zk)=false:=by
       unfold xT;rw[aq,aR];rfl
      unfold wH;rw[kS b zk (xT (b.getD i zk)) aM aT,PU,PU]
     |false=>
      refine yi (a2 _ _ (nx _ (ap.trans (Aa.new O)) ?_));unfold xT;rw[aq,Op];rfl
    .refine yi (a2 _ _ (nx _ ap ?_));have bB:(!decide (V.str (b.getD i zk).1=V.str (YP "")))=false:=by simpa using aR
     unfold xT;rw[bB,PU];rfl
  .rintro σ au ⟨bo,bp,bq,rfl,L,aL⟩;have aT:b.all (xT (b.getD i zk))=true:=kR b zk _ λj B=>aL j (zU B ac);refine aK _ _ (zt λU aK=>?_);refine⟨_,J,d,J,⟨_,Ah.of (L _ _ ad)⟩,λp ak=>?_⟩;have al:d≠p:=zi (L _ _ ad) ak;refine kq (λl=>.str ((b.getD i zk).2.getD l yd).1) (λσ=>∃v,σ=[v]) ⟨none,J⟩ ak (ww W a0) (tS (xs:=ys) (by rw[zh al];exact L _ _ ad) al) (λl σ ae C af ⟨v,am⟩ aQ ao=>?_) (λσ ae ap aw=>?_)
   .subst am;obtain⟨q,ah,bz,ax⟩:=vB ((vC (ds:=(b.getD i zk).2) (i:=l) aZ (zU af (RH W))).mono (L.trans aQ).x);rw[ah];exact⟨_,J,q,_,0,_,J,J,Ah.of ax,zy (j:=0) J,ao _ ae ⟨_,J⟩ (Aa.refl _)⟩
   .have bC:ae p=some (.lst ((yD (b.getD i zk).2).map V.str)):=by
     rw[aw,W];unfold yD;rw[R6];exact congrArg (λx=>some (HO.lst x)) (range_map (b.getD i zk).2 yd λd=>V.str d.1)
    refine⟨p,yD (b.getD i zk).2,J,Ad.of bC,(by unfold scanBound yD;rw[X5];exact av a0),λq O=>?_⟩;have bD:=Aa.new (o:=oG P w q (yD (b.getD i zk).2)) O;have az:Aa H2 _:=(L.trans ap).trans bD;refine⟨q,_,J,zd,_,J,d,ys,J,.inr (Ah.of (az _ _ ad)),J,_,J,?_⟩;have aO:(!decide (V.int ((dd (yD (b.getD i zk).2)).length:Int)=V.int (ys.length:Int)))=!decide (yD (b.getD i zk).2).Nodup:=by
     congr 1;rw[decide_eq_decide,←Xm];have:(yD (b.getD i zk).2).length=(b.getD i zk).2.length:=by simp[yD]
     rw[this,←W];simp;exact bK
    rw[aO];cases a4:decide (yD (b.getD i zk).2).Nodup with
    |false=>
     refine yS (Z _ (D.trans az) ?_);unfold wH;rw[a4,Op,PU]
    |true=>
     refine yi (aK _ _ ?_);refine⟨_,J,d,J,⟨_,Ah.of (az _ _ ad)⟩,ux (K:=K) (a:=d) (xs:=ys) (λl σ aA=>∃G I S J0,σ=[some (.ref a),some (.str (b.getD i zk).1),some (.ref d),G,I,S,J0]/\Aa H2 aA/\∀m,m<l->vD b ((b.getD i zk).2.getD m yd)=true) ⟨_,_,_,_,J,az,λj B=>absurd B (QJ j)⟩ (λl σ aA _ ⟨_,_,_,_,_,s,_⟩=>Ah.of (s _ _ ad)) ?_ ?_⟩
     .rintro l bE σ aA af ⟨bF,bG,bH,bI,rfl,aa,aU⟩;have ag:l<(b.getD i zk).2.length:=by have:=(W5.mp af).1;exact zU this (RH W)
      have bJ:bE=ys.getD l .non:=by rw[XP,af];rfl
      obtain⟨aB,ah,b1,aV⟩:=vB ((vC (ds:=(b.getD i zk).2) (i:=l) aZ ag).mono aa.x);rw[bJ,ah];have ay:=aY.2.2 _ (yE yd ag);generalize a5:(b.getD i zk).2.getD l yd=Y at *;obtain⟨bL,b2⟩:=ay.2.1;obtain⟨n,a6⟩:∃n:Nat,Y.2.1=(n:Int):=⟨Y.2.1.toNat,by exact sK bL⟩;have a7:n<b.length:=by omega
      have bM:(b.getD n zk).2.length<=6:=(aE _ (yE zk a7)).2.1;obtain⟨a8,a9,aC,bN,b3,b4,bO,aW,ar,bP⟩:=vh ((vi (b:=b) (i:=n) R a7).mono (D.trans aa).x);have ar:aC.length=(b.getD n zk).2.length:=ar;have ex:xs[n]?=some (.ref a8):=by
       have h1:n<xs.length:=by omega
       have h2:xs.getD n .non=xs[n]:=by simp[h1]
       rw[X1 h1,←h2,bN]
      rw[a6] at aV;refine⟨_,J,_,J,aB,_,1,_,J,J,Ah.of aV,zy (j:=1) J,Vq (aD.same (D.trans aa)) ex ?_⟩;refine⟨a8,_,1,_,J,J,Ah.of bO,zy (j:=1) J,a9,J,⟨_,Ah.of aW⟩,λp2 ba=>?_⟩;have bb:a9≠p2:=zi aW ba;refine vf (λm=>if xk ((b.getD n zk).2.getD m yd).1 Y.2.2 0 then some (aC.getD m .non) else none) (λσ=>∃v,σ=[v,some (.ref aB)]) ⟨none,J⟩ ba (ww ar bM) (tS (xs:=aC) (by rw[zh bb];exact aW) bb) (λm σ bc C as ⟨v,am⟩ bd ao=>?_) (λσ bc be bf=>?_)
      .subst am;obtain⟨bg,ai,b5,bQ⟩:=vB ((vC (ds:=(b.getD n zk).2) (i:=m) bP (zU as (RH ar))).mono bd.x);have M:=ao [some (.ref bg),some (.ref aB)] bc ⟨_,J⟩ (Aa.refl _);rw[ai];refine⟨_,J,bg,_,0,_,J,J,Ah.of bQ,zy (j:=0) J,J,_,J,aB,_,2,_,J,J,Ah.of (bd _ _ aV),zy (j:=2) J,_,_,J,J,_,J,?_⟩;cases g:xk ((b.getD n zk).2.getD m yd).1 Y.2.2 0 with
       |true=>
        rw[g,Qxb J,ai] at M;exact yS ⟨_,J,M⟩
       |false=>
        rw[g,Qxa (by simp)] at M;exact yi M
      .refine⟨X7 _,λq O=>?_⟩;have aS:p2≠q:=zi bf O;refine⟨p2,q,_,J,J,by rw[zh aS];exact bf,zd,_,J,?_⟩;have ai:=eO (b.getD n zk).2 yd (λo=>xk o.1 Y.2.2 0) (λm=>aC.getD m .non) ar;rw[ai,IQ];have bh:vD b Y=!((b.getD n zk).2.any λo=>xk o.1 Y.2.2 0):=by
        unfold vD;rw[a6];rfl
       cases aq:(b.getD n zk).2.any λo=>xk o.1 Y.2.2 0 with
       |true=>
        refine yS (Z _ ((D.trans aa).trans (be.trans (Aa.new O))) ?_);unfold wH;rw[kS (b.getD i zk).2 yd (vD b) ag (by rw[a5,bh,aq];rfl),Op]
       |false=>
        refine yi ⟨_,_,_,_,J,aa.trans (be.trans (Aa.new O)),λm as=>?_⟩;rcases Pg.mp as with h|h
        .exact aU m h
        .rw[h,a5,bh,aq];rfl
     .rintro σ aA ⟨bF,bG,bH,bI,rfl,aa,aU⟩;refine bl _ _ ⟨_,_,_,_,_,_,J,D.trans aa,λj B=>?_⟩;rcases Pg.mp B with h|h
      .exact aH j h
      .rw[h];unfold wH;rw[aT,a4,kR (b.getD i zk).2 yd (vD b) λm as=>aU m (zU as W)];rfl
 .rintro σ H2 ⟨aF,aG,G,I,S,J0,rfl,D,aH⟩;have q:=k H2 D;unfold vE at q;rw[kR b zk (wH b) λj B=>aH j (zU B ac)] at q;exact q
theorem BD:zK ["bag","signs","escapes","many","book","turn","at","door","more"] ["bag"] (zq nu):=zP
theorem VH(F:Ao K "_law_book" "_law_book" nu f fd)(T:yu mg)(b5:ud mg)(S:Cl P w K mg base 1 "_law_take" ["bag","many"] re)(br:Cl P w K mg base 2 "_law_mark" ["bag","signs"] oY)(b6:Cl P w K mg base 1 "_law_fits_book" ["book"] oZ):Ag P w K mg base zD 3 f fd ["bag"] o0:=by
 refine F.okA BD λg4 A outer s H vs Q E aT h=>?_;obtain⟨z,rfl,bs,k⟩:=h;have W:=BD.nd;have R:Ak 1 _:=aT.mono (by decide);refine⟨_,ze (zu (i:=1) W (zx Ae (zV (zc z0 (zc z0 (zc z0 (zc z0 zf))))) (zA S R (zc (pv 0) (zc zg zf))) (λ_ _=>rfl)))
  (ze (rT (i:=2) W J (Or.inr J) (zx Ae (zV (zc z0 (zc z0 (zc z0 (zc z0 zf))))) (zA S R (zc (pv 0) (zc zg zf))) (λ_ _=>rfl)))
  (ze (zu (i:=3) W (zG yO zg (zA S R (zc (pv 0) (zc (zx Ae (zV (zc zg (zc zg (zc zg zf)))) (zA S R (zc (pv 0) (zc zg zf))) (λ_ _=>rfl)) zf)))))
  (ze (uJ (i:=4) (N':=["tongue","bag","escapes"]) (js:=[none,some 0,some 2]) J J W J (Or.inl J) (yZ (zq nu) (by lia)) ⟨J,Or.inr (Or.inl J),J,J,Or.inr (Or.inl J),J,trivial⟩ (rX J T.range (zz 3))
    (λcl s H fp=>zw (i:=0) Vz) (λcl s H fp=>wG)
    (λcl s H fp=>yl (zc (zx XA (zV (zc (pv 2) (zc z0 (zc z0 zf)))) (zA S R (zc (pv 1) (zc zg zf))) (λ_ _=>rfl)) (zc (yl zf) zf))))
  (ze (xu Rn J (rX J T.range (zc (zG yO zg (zA S R (zc (pv 0) (zc (zG tL zg (pv 3)) zf)))) zf)) (zw (i:=5) W)
   (ze (zu (i:=6) W (zx Ae (zV (zc zg (zc (zA S R (yk 0 3)) zf))) (zA S R (zc (pv 0) (zc zg zf))) (λ_ _=>rfl)))
   (ze (zu (i:=7) W (yl (zc (zA br aT (yk 0 1)) (zc (zA S R (yk 0 3)) (zc (zA br aT (yk 0 1)) zf)))))
   (ze (zu (i:=8) W (vc oA (by rfl) b5.list vS (zz 4)))
   (ze (xt (yl (zc (zx Ai (zx Ae (pv 4) (pv 6) (λ_ _=>rfl)) zg (λ_ _=>rfl)) (zc (zG Vu (zx Ai (zx Ae (pv 4) (pv 6) (λ_ _=>rfl)) zg (λ_ _=>rfl)) (yl (zz 7))) zf))) (rS (pv 8) (pv 6) l9))
   (zm (ya (PW.pt (ut (zZ vb (zT xB (by rfl) T.len b_len (zc (zx Ai (zx Ae (pv 4) (pv 6) (λ_ _=>rfl)) zg (λ_ _=>rfl)) zf)) zg (zR _)) (ur (xa (zA b6 R (zz 8))))))
    (zm (zu (i:=4) W (pv 8))) ye)))))))
  (zm (zB (vc oB (by rfl) T.tuple v8 (zz 4)))))))),?_⟩
 dsimp only[zH,Cx.nox,Cx.wish];refine zt λU Y=>?_;have cR:(1000:Nat)<=sizeLine:=by rw[Qo];decide
 have bt:=AA.refl bs;refine⟨by show (4:Nat)<=_;exact X6 _ _,λbu aU=>⟨_,J,z,4,J,(bt.new aU).2,by decide,by decide,λaV H1 b7 bv=>?_⟩⟩;have aW:AA z H H1:=(bt.new aU).trans bv;have bw:=bv.1 bu _ (bs.ne aU) zd;obtain⟨b8,b9,ao⟩:=o4 bw (r:=aV) (by show aV<4;exact Qs.1 b7);obtain⟨x,ex,bx,bz,bA⟩:∃x,b8=.str x/\1<=x.length/\x.length<=100/\oX x:=by
  simp only[S7,QD,or_false] at ao;rcases ao with rfl|rfl|rfl|rfl<;>exact⟨_,J,by lia,by lia,by unfold oX;lia⟩
 subst ex;refine⟨bu,_,aV,_,J,J,Ad.of bw,zy b9,Y _ _ (zt λU Y=>?_)⟩;refine⟨by show (4:Nat)<=_;exact X6 _ _,λp2 aX=>⟨_,J,z,4,J,(aW.new aX).2,by decide,by decide,λaY H2 ca bB=>?_⟩⟩;have aZ:AA z H H2:=(aW.new aX).trans bB;have aB:=bB.1 p2 _ (aW.2.ne aX) zd;obtain⟨cb,cc,ap⟩:=o4 aB (r:=aY) (by show aY<4;exact Qs.1 ca);obtain⟨e,cd,ce⟩:∃x,cb=.str x/\vA (.str x)=true:=by
  simp only[S7,QD,or_false] at ap;rcases ap with rfl|rfl|rfl|rfl<;>exact⟨_,J,by lia⟩
 subst cd;refine⟨p2,_,aY,_,J,J,Ad.of aB,zy cc,Y _ _ (zt λU Y=>?_)⟩;refine⟨_,J,by show (3:Nat)<=_;exact X6 _ _,λp3 a0=>⟨_,J,z,3,J,(aZ.new a0).2,by decide,by decide,λa1 cf cg bC=>?_⟩⟩;have bD:AA z H cf:=(aZ.new a0).trans bC;have bE:=bC.1 p3 _ (aZ.2.ne a0) zd;obtain⟨ch,ci,bF⟩:=o4 bE (r:=a1) (by show a1<3;exact Qs.1 cg);obtain⟨n3,cj,ck,ag⟩:∃n:Int,ch=.int n/\0<n/\n<=6:=by
  simp only[S7,QD,or_false] at bF;rcases bF with rfl|rfl|rfl<;>exact⟨_,J,by decide,by decide⟩
 subst cj;refine⟨p3,_,a1,_,J,J,Ad.of bE,zy ci,z,n3,J,bD.2,ck,by omega,λJ0 cm ah cn=>?_⟩;have a2:AA z H cm:=bD.trans cn;refine⟨1,J0,J,J,Y _ _ (zt λU Y=>?_)⟩;refine⟨_,J,1+J0,J,by exact RC _,by omega,λp a3=>?_⟩;have co:(1+(J0:Int)).toNat=1+J0:=rfl;rw[co];have a4:=a2.2.ne a3;have cp:=a2.none a3;refine Vv (λi σ aq=>∃u,σ=[u,some (.ref z),some (.str e)]/\AA z H aq/\∃b,LBk z p b aq/\b.length=i/\∀t∈b,t.2=[]/\vA (.str t.1)=true) ⟨none,J,a2.new a3,[],⟨a4,[],zd,.nil⟩,J,by simp⟩ ?_ ?_
 .rintro i σ aq hi ⟨u,rfl,ab,b,aC,D,ar⟩;refine⟨_,J,by show (3:Nat)<=_;exact X6 _ _,λl I=>⟨_,J,z,3,J,(ab.new I).2,by decide,by decide,λr as a5 au=>?_⟩⟩;have cq:AA z aq as:=((AA.refl ab.2).new I).trans au;have bG:=au.1 l _ (ab.2.ne I) zd;obtain⟨cr,cs,bH⟩:=o4 bG (r:=r) (by show r<3;exact Qs.1 a5);obtain⟨y,cu,aD⟩:∃x,cr=.str x/\vA (.str x)=true:=by
   simp only[S7,QD,or_false] at bH;rcases bH with rfl|rfl|rfl
   .exact⟨_,J,ce⟩
   .exact⟨_,J,by lia⟩
   .exact⟨_,J,by lia⟩
  subst cu;have aE:y.length<=1:=by unfold vA at aD;simp at aD;exact aD.1
  refine⟨l,_,r,_,J,J,Ad.of bG,zy cs,X7 _,λq1 a6=>⟨by show (2:Nat)<=_;exact X6 _ _,λai bI=>?_⟩⟩;have av:=(cq.new (o:=.tup []) a6).new (o:=.tup [.str y,.ref q1]) bI;have aF:c' (c' as q1 (.tup [])) ai (.tup [.str y,.ref q1]) ai=some (.tup [.str y,.ref q1]):=zd;have aG:c' (c' as q1 (.tup [])) ai (.tup [.str y,.ref q1]) q1=some (.tup []):=Aa.new bI _ _ zd;generalize c' (c' as q1 (.tup [])) ai (.tup [.str y,.ref q1])=cv at av aF aG;obtain⟨_,vs,a7,G⟩:=aC.aft av.1;have a8:vs.length=b.length:=by have:=G.length;simpa using this
  refine⟨vs,a7,by omega,⟨_,J,(ab.trans av).c' cp a4,b++[(y,[])],⟨a4,vs++[.ref ai],zd,?_⟩,by simp[D],λt ht=>?_⟩⟩
  .rw[eR,T5];have n2:ai≠p:=zj aF a7 (by intro z;cases z);have n1:q1≠p:=zj aG a7 (by intro z;cases z);exact G.append (.cons (.tup (by rw[tY n2];exact aF) (av.2.neT aF) (.cons (.str y (zC aE)) (.cons (.tup (by rw[tY n1];exact aG) (av.2.neT aG) .nil) .nil))) .nil)
  .rcases T6.mp ht with ht|ht
   .exact ar t ht
   .have:t=(y,[]):=by simpa using ht
    subst this;exact⟨J,aD⟩
 .rintro σ aq ⟨u,rfl,ab,b,aC,D,ar⟩;refine Y _ _ (zt λU Y=>?_);refine⟨_,J,_,J,3,1+J0,J,J,.inl ⟨by decide,by decide⟩,z,3*(1+J0),J,ab.2,by exact bP,by exact aw ag ah,λbJ as bK au=>?_⟩;refine⟨2,bJ,J,J,2+bJ,J,by exact RC _,by exact aJ ag ah bK,?_⟩;have bL:∀t∈b,An b.length t:=λt ht=>by
   obtain⟨h1,h2⟩:=ar t ht;refine⟨h2,by rw[h1];decide,λd aH=>?_⟩;rw[h1] at aH;cases aH
  refine rY (λi σ ak=>∃a b a9 ba bb bc,σ=[some (.ref z),some (.str x),some (.str e),some (.int (1+J0)),some (.ref a),a9,ba,bb,bc]/\AA z H ak/\LBk z a b ak/\b.length=1+J0/\(∀t∈b,An b.length t)/\vE b=true)
   ⟨p,b,none,none,none,none,J,ab.trans au,aC.aft au.1,D,bL,Vy λt ht=>(ar t ht).1⟩ ?_ ?_
  .clear bL ar D aC bK;rintro i σ ak hi ⟨a,b,a9,ba,bb,bc,rfl,ac,aI,D,ad,aK⟩;show (xH _ _) _ _ _;refine yT λcS bd _ _ _=>zt λbe ae=>?_;refine⟨_,J,_,J,z,1+J0,J,ac.2,by exact iP,by exact iS ag ah,λbM cv a5 bf=>?_⟩;refine⟨by show (2:Nat)<=_;exact X6 _ _,λp4 bg=>⟨_,J,z,2,J,(bf.new bg).2,by decide,by decide,λbh cw cx bN=>?_⟩⟩;have bO:AA z ak cw:=(bf.new bg).trans bN;have cy:=bN.1 p4 _ (bf.2.ne bg) zd;obtain⟨B,cz,bi⟩:∃B:Nat,([V.int 0,V.int bM]:List V)[bh]?=some (.int B)/\B<1+J0:=by
    match bh,cx with
    |0,_=>exact⟨0,J,by exact Ov _ _⟩
    |1,_=>exact⟨bM,J,by exact Qs.1 a5⟩
    |m+2,h=>exact(Zm h).elim
   refine⟨p4,_,bh,_,J,J,Ad.of cy,zy cz,ae _ _ (zt λbe ae=>?_)⟩;refine⟨_,J,_,J,z,x,J,bO.2,bx,bz,bA,λL cT ao bQ=>⟨_,J,_,J,z,1+J0,J,bQ.2,by exact iP,by exact iS ag ah,λG cU cA bR=>⟨_,J,_,J,z,x,J,bR.2,bx,bz,bA,λM bS ap cB=>⟨by show (3:Nat)<=_;exact X6 _ _,λal cC=>ae _ _ (zt λbe ae=>?_)⟩⟩⟩⟩;have Z:=(((bO.trans bQ).trans bR).trans cB).new (o:=.tup [.str L,.int G,.str M]) cC;have aL:c' bS al (.tup [.str L,.int G,.str M]) al=some (.tup [.str L,.int G,.str M]):=zd;generalize c' bS al (.tup [.str L,.int G,.str M])=ay at Z aL;obtain⟨bT,vs,aM,bj⟩:=aI.aft Z.1;have a8:vs.length=b.length:=by have:=bj.length;simpa using this
   refine⟨_,J,a,vs,J,.inl (Ad.of aM),λl I=>ae _ _ (zt λbe ae=>?_)⟩;have bU:B<b.length:=zU bi D;have aN:=ad _ (yE zk bU);obtain⟨c,d,ys,cD,cE,cF,cG,aH,aE,cH⟩:=vh (vi (b:=b) (i:=B) bj bU);have aE:ys.length=(b.getD B zk).2.length:=aE;have bk:vs[B]?=some (.ref c):=by
    have h1:B<vs.length:=by exact iU D bi a8
    have h2:vs.getD B .non=vs[B]:=by simp[h1]
    rw[X1 h1,←h2,cD]
   generalize cV:b.getD B zk=tt at *;have bl:=(qx cG).2;have bW:=(qx aH).2;have am:Aa ay (c' ay l (.lst vs)):=Aa.new I;have cW:=aN.2.1;have el:tt.1.length<=1:=by have:=aN.1;unfold vA at this;simp at this;exact this.1
   refine⟨_,J,_,J,a,vs,B,_,J,J,Ad.of (am _ _ aM),zy bk,c,_,0,_,J,J,Ah.of (am _ _ bl),zy (j:=0) J,_,J,_,J,a,vs,B,_,J,J,Ad.of (am _ _ aM),zy bk,c,_,1,_,J,J,Ah.of (am _ _ bl),zy (j:=1) J,_,J,by show (1:Nat)<=_;exact Qy _,λq1 a6=>?_⟩;have bm:=Aa.new (o:=.tup [.ref al]) a6;refine⟨d,q1,ys,[.ref al],J,J,bm _ _ (am _ _ bW),zd,by show ys.length+1<=_;omega,λp2 bn bX aB=>⟨by show (2:Nat)<=_;exact X6 _ _,λO cI=>?_⟩⟩;have bo:=Aa.new (o:=.tup [.str tt.1,.ref p2]) cI;have aO:c' bn O (.tup [.str tt.1,.ref p2]) O=some (.tup [.str tt.1,.ref p2]):=zd;have az:=bo _ _ (bX _ _ (bm _ _ (zd (H:=ay) (a:=l) (o:=.lst vs))));have aP:=bo _ _ aB;have aa:Aa ay (c' bn O (.tup [.str tt.1,.ref p2])):=am.trans (bm.trans (bX.trans bo));generalize c' bn O (.tup [.str tt.1,.ref p2])=af at aO az aP aa;refine⟨_,J,_,J,l,vs,B,B,J,J,az,Vx (by exact iU D bi a8),ae _ _ ?_⟩;have bp:=Z.2.ne I;have aA:AA z ak (c' af l (.lst (vs.set B (.ref O)))):=(Z.same aa).c' (Z.none I) bp;have aQ:AA z ay (c' af l (.lst (vs.set B (.ref O)))):=((AA.refl Z.2).same aa).c' I bp;have bY:c' af l (.lst (vs.set B (.ref O))) l=some (.lst (vs.set B (.ref O))):=zd;have bZ:wI l (c' af l (.lst (vs.set B (.ref O))))=wI l af:=eR;generalize c' af l (.lst (vs.set B (.ref O)))=cJ at aA aQ bY bZ;have b0:LBk z l (b.set B (tt.1,tt.2++[(L,(G:Int),M)])) cJ:=by
    refine⟨bp,_,bY,?_⟩;rw[bZ,List.map_set];have n3:O≠l:=zj aO az (by intro z;cases z);have n2:p2≠l:=zj aP az (by intro z;cases z);have cK:al≠l:=zj (aa _ _ aL) az (by intro z;cases z);have b1:Am z af:=(Z.same aa).2;have aR:=wm ao;have cL:=wm ap;refine Ab.set (.tup (by rw[tY n3];exact aO) (b1.neT aO) (.cons (.str tt.1 (zC el)) (.cons (.tup (by rw[tY n2];exact aP) (b1.neT aP) ?_) .nil))) B (bj.mono (eU I aa.x));rw[T5];exact(cH.mono (eU I aa.x)).append (.cons (.tup (by rw[tY cK];exact aa _ _ aL) (Z.2.neT aL) (.cons (.str L (zC aR.1)) (.cons (.int (G:Int)) (.cons (.str M (zC cL.1)) .nil)))) .nil)
   have b2:=aI.aft aA.1;refine⟨_,J,_,J,a,vs,B,_,J,J,Ad.of (aQ.1 _ _ bT aM),zy bk,c,_,1,_,J,J,Ah.of (aQ.1 _ _ cE bl),zy (j:=1) J,d,ys,J,.inr (Ah.of (aQ.1 _ _ cF bW)),_,_,J,J,_,J,?_⟩;refine yc (λaR=>?_) (λaR=>?_)
   .have cM:tt.2.length<6:=by
     have:=Qxc aR;omega
    have bq:(b.set B (tt.1,tt.2++[(L,(G:Int),M)])).length=b.length:=by simp
    have b3:∀t∈b.set B (tt.1,tt.2++[(L,(G:Int),M)]),An (b.set B (tt.1,tt.2++[(L,(G:Int),M)])).length t:=by
     rw[bq];intro t ht;rcases List.mem_or_eq_of_mem_set ht with ht|ht
     .exact ad t ht
     .subst ht;refine⟨aN.1,by simp;exact R5 cM,λb4 hdr=>?_⟩;rcases T6.mp hdr with hdr|hdr
      .exact aN.2.2 b4 hdr
      .have:b4=(L,(G:Int),M):=by simpa using hdr
       subst this;exact⟨ao,⟨by show (0:Int)<=G;exact RC _,by show (G:Int)<b.length;exact bV D cA⟩,ap⟩
    obtain⟨_,cN,hw,cO⟩:=id b0;refine⟨_,J,z,l,cN,_,J,.inr hw,cO.mono eT,by exact aj ag ah D bq,b3,λcX aS=>⟨_,J,?_⟩⟩;cases gf:vE (b.set B (tt.1,tt.2++[(L,(G:Int),M)])) with
    |true=>exact yS ⟨_,J,bd _ _ ⟨l,_,_,_,_,_,J,ac.trans (aA.same aS),b0.aft aS.x,by exact Jt bq D,b3,gf⟩⟩
    |false=>exact yi (bd _ _ ⟨a,b,_,_,_,_,J,ac.trans (aA.same aS),b2.aft aS.x,D,ad,aK⟩)
   .exact yi (bd _ _ ⟨a,b,_,_,_,_,J,ac.trans aA,b2,D,ad,aK⟩)
  .rintro σ ak ⟨a,b,a9,ba,bb,bc,rfl,ac,aI,D,ad,aK⟩;obtain⟨bT,vs,cP,cQ⟩:=aI;refine Y _ _ ⟨_,J,a,vs,J,.inl ⟨Ad.of cP,λl I=>k _ b _ (ac.new I) (.tup zd (ac.2.ne I) ((cQ.mono eT).mono (Aa.new I).x)) ⟨by exact iQ D,by exact ax ag ah D,ad,?_⟩⟩⟩;rw[←Vp ad];exact aK
noncomputable def Sm(m:Str):Prop:=1<=m.length/\m.length<=4
inductive ny:Sp where
 |mk {vs:List V} {H:Hp} {Q:VK} {E:XK} (z v b:_) (c1:vs=[v]) (c2:Aj z H v (yp b)) (c3:yn b) (c4:∀p (ms:List Str) H',Aa H H'->H p=none->H' p=some (.lst (ms.map V.str))->ms.length<=100->(∀m∈ms,Sm m)->Q (.ref p) H'):ny vs H Q E
inductive nA:Sp where
 |mk {vs:List V} {H:Hp} {Q:VK} {E:XK} (z v b:_) (n:Nat) (c1:vs=[.ref z,v,.int n]) (c2:Am z H) (c3:Aj z H v (yp b)) (c4:yn b) (c5:0<n) (c6:n<=4000) (c7:∀x H',AA z H H'->x.length<=4*n->Q (.str x) H'):nA vs H Q E
theorem Bi:zK ["book","found","escape","doors","door"] ["book"] (zq jp):=zP
theorem VI(F:Ao K "_law_marks" "_law_marks" jp f fd):Ag P w K mg base zD 1 f fd ["book"] ny:=by
 refine F.okA Bi λg4 A outer s H vs Q E aF h=>?_;obtain⟨z,v,b,rfl,ar,as,k⟩:=h;obtain⟨a,xs,rfl,aG,aa,au,R⟩:=uS ar;obtain⟨aH,aI,av,_⟩:=as;have L:=Bi.nd;refine⟨_,ze (zu (i:=1) L (zV zf))
  (ze (xu Rn J (xX (pv 0)) (yR J (zF (zw (i:=2) L) (zF (zw (i:=3) L) yJ)))
   (ze (xu Rn J (xX (pv 3)) (zw (i:=4) L) (zm (zu (i:=1) L (zG vP (pv 1) (zV (zc (zx Ai (pv 4) zg (λ_ _=>rfl)) (zc (zx Ai (pv 4) zg (λ_ _=>rfl)) zf)))))))
   (zm (ya (zZ sV (pv 2) z0 (zR _)) (zm (yy (yW U1 S8 S9 xC (pv 1) (zz 2)))) ye))))
  (zm (zB (pv 1)))),?_⟩
 dsimp only[zH,Cx.nox,Cx.wish];have aJ:=yV;refine⟨X7 _,λab ac=>?_⟩;have ad:Aa H (c' H ab (.lst [])):=Aa.new ac;refine⟨_,J,a,J,⟨_,Ah.of (ad _ _ aa)⟩,ux (K:=K) (a:=a) (xs:=xs) (λi σ H2=>∃p ms U W I,σ=[some (.ref a),some (.ref p),U,W,I]/\Aa H H2/\H p=none/\H2 p=some (.lst (ms.map V.str))/\ms.length<=13*i/\∀m∈ms,Sm m)
  ⟨ab,[],none,none,none,J,ad,ac,by rw[zd];rfl,by simp,by simp⟩ (λi σ H2 _ ⟨_,_,_,_,_,_,s,_⟩=>Ah.of (s _ _ aa)) ?_ ?_⟩
 .rintro i y σ H2 hi ⟨p,ms,U,W,I,rfl,M,D,B,S,G⟩;have ae:i<b.length:=by have:=(W5.mp hi).1;exact zU this (RH au)
  have aw:y=xs.getD i .non:=by rw[XP,hi];rfl
  have Y:=av _ (yE zk ae);obtain⟨c,d,ys,e,aK,aL,ax,af,ag,ay⟩:=vh (vi (b:=b) (i:=i) R ae);have ag:ys.length=(b.getD i zk).2.length:=ag;rw[aw,e];generalize aM:b.getD i zk=tt at *;have aN:=Y.2.1;refine⟨c,_,J,Ah.of (M _ _ ax),J,_,_,J,_,_,J,J,?_⟩;refine yT λaO ah _ _ _=>?_;refine⟨_,J,d,J,⟨_,Ah.of (M _ _ af)⟩,ux (K:=K) (a:=d) (xs:=ys) (λj σ O=>∃p ms I,σ=[some (.ref a),some (.ref p),some (.str tt.1),some (.ref d),I]/\Aa H O/\H p=none/\O p=some (.lst (ms.map V.str))/\ms.length<=13*i+2*j/\∀m∈ms,Sm m)
   ⟨p,ms,_,J,M,D,B,by exact S,G⟩ (λj σ O _ ⟨_,_,_,_,s,_⟩=>Ah.of (s _ _ af)) ?_ ?_⟩
  .rintro j az σ O ai ⟨p,ms,I,rfl,J0,D,B,S,G⟩;have aj:j<tt.2.length:=by have:=(W5.mp ai).1;omega
   have aA:az=ys.getD j .non:=by rw[XP,ai];rfl
   obtain⟨q,aB,aP,ak⟩:=vB (vC (ds:=tt.2) (i:=j) ay aj);have al:=Y.2.2 _ (yE yd aj);rw[aA,aB];refine⟨_,J,_,J,q,_,0,_,J,J,Ah.of (J0 _ _ ak),zy (j:=0) J,_,J,q,_,2,_,J,J,Ah.of (J0 _ _ ak),zy (j:=2) J,by show (2:Nat)<=_;exact X6 _ _,λl aC=>?_⟩;have Z:=Aa.new (o:=.lst [.str (tt.2.getD j yd).1,.str (tt.2.getD j yd).2.2]) aC;refine⟨p,l,ms.map V.str,_,J,J,Z _ _ B,zd,by rw[X5];show _+2<=_;omega,λp2 am=>?_⟩;have aD:=Aa.new (o:=.lst (ms.map V.str++[.str (tt.2.getD j yd).1,.str (tt.2.getD j yd).2.2])) am;refine⟨p2,ms++[(tt.2.getD j yd).1,(tt.2.getD j yd).2.2],_,J,(J0.trans Z).trans aD,(J0.trans Z).free am,by rw[zd];simp,by rw[X4];show _+2<=_;omega,λm hm=>?_⟩;rcases T6.mp hm with hm|hm
   .exact G m hm
   .have ao:=wm al.1;have ap:=wm al.2.2;simp only[S7,QD,or_false] at hm;rcases hm with rfl|rfl
    .exact⟨ao.2,ao.1⟩
    .exact⟨ap.2,ap.1⟩
  .rintro σ O ⟨p,ms,I,rfl,J0,D,B,S,G⟩;refine⟨_,J,J,_,J,?_⟩;have el:tt.1.length<=1:=by have:=Y.1;unfold vA at this;simp at this;exact this.1
   refine yc (λg=>?_) (λg=>?_)
   .refine⟨_,J,.inl ⟨J,_,Ad.of B⟩,_,J,p,_,_,J,J,B,by rw[X5];omega,?_⟩;refine ah _ _ ⟨p,ms++[tt.1],_,_,_,J,λaE o aq=>by rw[zh (zi aq D)];exact J0 aE o aq,D,by rw[zd];simp,by rw[X4];show _+1<=_;omega,λm hm=>?_⟩;rcases T6.mp hm with hm|hm
    .exact G m hm
    .have:m=tt.1:=by simpa using hm
     subst this;refine⟨?_,by exact zC el⟩;rcases eN tt.1 el with⟨ex,_⟩|⟨aQ,ex,_⟩
     .rw[ex] at g;simp at g
     .rw[ex];show 1<=1;exact X2 _
   .exact ah _ _ ⟨p,ms,_,_,_,J,J0,D,B,by omega,G⟩
 .rintro σ H2 ⟨p,ms,U,W,I,rfl,M,D,B,S,G⟩;exact⟨_,J,k p ms H2 M D B (by omega) G⟩
theorem BW:zK ["bag","book","most","some","found","turn","one"] ["bag","book","most"] (zq jq):=zP
theorem VJ(z:Str)(lo hi:Option Int):(yC z lo hi).length<=z.length:=by
 unfold yC;show (Jw _).size<=_;rw[T4,QQ,Qw];have:z.cps.toList.length=z.length:=by simp;rfl
 exact b0 this
theorem VL:∀m∈[YP "x",YP " ",YP "a",YP "b",YP "\n"],1<=m.length/\m.length<=4:=by lia
theorem VM(F:Ao K "_law_text" "_law_text" jq f fd)(T:yu mg)(O:Cl P w K mg base 1 "_law_take" ["bag","many"] re)(ax:Cl P w K mg base 1 "_law_marks" ["book"] ny):Ag P w K mg base zD 2 f fd ["bag","book","most"] nA:=by
 refine F.okA BW λg4 A outer s H vs Q E I h=>?_;obtain⟨z,v,b,n,rfl,ag,R,ay,az,aN,k⟩:=h;have D:=BW.nd;refine⟨_,ze (zu (i:=3) D (zG vP (zA ax I (zz 1)) (zV (yY z0 (yY z0 (yY z0 (yY z0 (yY z0 zf))))))))
  (ze (zu (i:=4) D z0)
  (ze (xu Rn J (rX J T.range (zc (zA O I (yk 0 2)) zf)) (zw (i:=5) D)
   (ze (zu (i:=6) D (zx Ae (pv 3) (zA O I (zc (pv 0) (zc (zT xB (by rfl) T.len b_len (zz 3)) zf))) (λ_ _=>rfl)))
   (ze (ya (zZ xI (zA O I (zc (pv 0) (zc zg zf))) zg (zR _))
    (zm (zu (i:=6) D (x0 v9 (pv 6) vd (xz (zG yO zg (zA O I (zc (pv 0) (zc (zT yL (by rfl) T.len b_len (zz 6)) zf)))))))) ye)
   (zm (zu (i:=4) D (zG uC (pv 4) (pv 6)))))))
  (zm (zB (pv 4))))),?_⟩
 dsimp only[zH,Cx.nox,Cx.wish];have aO:=yV;have aP:=yB;refine⟨_,J,z,v,b,J,R,ay,λaA ms H1 ah aQ aB aR aC=>⟨by show (5:Nat)<=_;exact X6 _ _,λl aD=>?_⟩⟩;have aa:=Aa.new (o:=.lst ([YP "x",YP " ",YP "a",YP "b",YP "\n"].map V.str)) aD;refine⟨aA,l,ms.map V.str,[YP "x",YP " ",YP "a",YP "b",YP "\n"].map V.str,J,J,aa _ _ aB,zd,by rw[X5];show _+5<=_;omega,λp2 J0=>?_⟩;have J0:c' H1 l (.lst ([YP "x",YP " ",YP "a",YP "b",YP "\n"].map V.str)) p2=none:=J0;have ai:ms.map V.str++[YP "x",YP " ",YP "a",YP "b",YP "\n"].map V.str=(ms++[YP "x",YP " ",YP "a",YP "b",YP "\n"]).map V.str:=(T5 ..).symm;rw[ai];have aE:=VL;show (xH _ _) _ _ (c' (c' H1 l (.lst ([YP "x",YP " ",YP "a",YP "b",YP "\n"].map V.str))) p2 (.lst ((ms++[YP "x",YP " ",YP "a",YP "b",YP "\n"]).map V.str)));clear ai;have aS:[YP "x",YP " ",YP "a",YP "b",YP "\n"].length=5:=rfl;generalize [YP "x",YP " ",YP "a",YP "b",YP "\n"]=B at *;have aT:=Aa.new (o:=.lst ((ms++B).map V.str)) J0;have aF:=((ag.same ah).same aa);have S:=aF.ne J0;have ab:AA z H (c' (c' H1 l (.lst (B.map V.str))) p2 (.lst ((ms++B).map V.str))):=(((AA.refl ag).same ah).same aa).new J0;have aj:c' (c' H1 l (.lst (B.map V.str))) p2 (.lst ((ms++B).map V.str)) p2=some (.lst ((ms++B).map V.str)):=zd;generalize c' (c' H1 l (.lst (B.map V.str))) p2 (.lst ((ms++B).map V.str))=aU at ab aj;have aG:∀m∈ms++B,Sm m:=λm aH=>(T6.mp aH).elim (aC m) (aE m);have aV:(ms++B).length<=105:=by rw[X4];omega
 have aW:1<=(ms++B).length:=by rw[X4];omega
 generalize ms++B=so at *;refine⟨_,J,_,J,z,n,J,ab.2,by exact wx az,by omega,λr aX aI ak=>⟨r,J,by exact RC _,by omega,?_⟩⟩;have aJ:=ak.1 _ _ S aj;have aK:=ab.trans ak;have aL:((r:Int)).toNat=r:=Jp r;rw[aL];have aY:(so.map V.str).length=so.length:=X5 ..;refine rY (λi σ L=>∃x ac ad,σ=[some (.ref z),some v,some (.int n),some (.ref p2),some (.str x),ac,ad]/\AA z H L/\L p2=some (.lst (so.map V.str))/\x.length<=4*i) ⟨_,none,none,J,aK,aJ,by lia⟩ ?_ ?_
 .rintro i σ L hi ⟨x,ac,ad,rfl,W,ae,Y⟩;show (xH _ _) _ _ _;refine yT λaZ al _ _ _=>zt λU Z=>?_;refine⟨_,J,_,J,_,J,p2,_,J,.inl (Ad.of ae),z,(so.map V.str).length,J,W.2,by omega,by omega,λM a0 a1 am=>?_⟩;have ao:M<so.length:=by omega
  have ap:=W.trans am;have aq:=am.1 _ _ S ae;obtain⟨ar,G⟩:=aG so[M] (RT ao);refine⟨p2,_,M,.str so[M],J,J,Ad.of aq,zy (by simp[ao]),Z _ _ (zt λU Z=>?_)⟩;generalize so[M]=m at ar G;refine⟨_,J,z,6,J,ap.2,by decide,by decide,λa2 a3 a4 as=>⟨J,_,J,?_⟩⟩;have af:=ap.trans as;have au:=as.1 _ _ S aq;refine yc (λg=>?_) (λg=>?_)
  .refine⟨_,J,_,J,_,J,m,J,by exact zC G,z,m.length,J,af.2,by exact wx ar,by exact Zl G,λav a5 a6 aw=>⟨1,av,J,J,_,J,m,J,by exact zC G,Z _ _ ?_⟩⟩;have aM:=VJ m none (some (1+(av:Int)));exact⟨_,J,_,J,_,_,J,J,by omega,al _ _ ⟨_,_,_,J,af.trans aw,aw.1 _ _ S au,by rw[qw];exact Zj Y G aM⟩⟩
  .exact Z _ _ ⟨_,J,_,J,_,_,J,J,by omega,al _ _ ⟨_,_,_,J,af,au,by rw[qw];exact O8 Y G⟩⟩
 .rintro σ L ⟨x,ac,ad,rfl,W,ae,Y⟩;exact⟨_,J,k x L W (by exact Zn aI Y)⟩
noncomputable abbrev zp:=Int×Int×Str
variable {d:zp}{ds:List zp}
noncomputable def wK(d:zp):D:=.tup [.int d.1,.int d.2.1,.str d.2.2]
noncomputable abbrev zX:zp:=(0,0,⟨#[]⟩)
theorem uU:∀ds:List zp,Av (ds.map wK)
 |[]=>.nil
 |d::r=>.cons (.tup (.cons (.int _) (.cons (.int _) (.cons (.str _) .nil)))) (uU r)
theorem jv(r:Aj z H v (wK d)):∃a,v=.ref a/\a≠z/\H a=some (.tup [.int d.1,.int d.2.1,.str d.2.2]):=by
 cases r with
 |tup h B r=>
  cases r with
  |cons D r=>
   cases r with
   |cons F r=>
    cases r with
    |cons G r=>
     cases r;cases D;cases F;cases G;exact⟨_,J,B,h⟩
theorem jw(r:Ab z H xs (ds.map wK))(hi:i<ds.length):Aj z H (xs.getD i .non) (wK (ds.getD i zX)):=by
 have:=r.get (i:=i) (by simpa using hi);simpa [hi] using this
noncomputable def wn(b:Bk)(ds:List zp):Prop:=∀d∈ds,(0<=d.2.1/\d.2.1<b.length)/\Sm d.2.2
noncomputable def zI(ds:List zp):Int:=match ds.getLast? with
 |some d=>d.2.1
 |none=>0
noncomputable def yo(ds:List zp):List zp:=ds.drop (ds.length-1)
noncomputable def xc(x:Str)(i:Nat)(m:Str):Bool:=decide (V.str (yC x (some (i:Int)) (some ((i:Int)+m.length)))=V.str m)
noncomputable def xw(b:Bk)(ds:List zp):List Str:=yD (b.getD (zI ds).toNat zk).2++(yo ds).map (·.2.2)
noncomputable def xP(b:Bk)(ds:List zp)(x:Str)(i:Nat):List Str:=(xw b ds).filter (xc x i)
theorem VN(vs:List V):xh vs (some (-1)) none=vs.drop (vs.length-1):=by
 unfold xh;have e:HT.sIx vs.length 0 (some (-1))=vs.length-1:=by
  show (if (-1:Int)<0 then ((-1:Int)+(vs.length:Int)).toNat else min (-1:Int).toNat vs.length)=_;rw[Qxb (by decide)];exact sL
 rw[e,HT.sIx_none];rw[Q9];rw[Qw];exact X2 _
theorem eX(so:List Str)(d:Str)(p:Str->Bool):∀n,n<=so.length->yM (λi=>(if p (so.getD i d) then some (V.str (so.getD i d)) else none).toList) n=((so.take n).filter p).map V.str
 |0,_=>by simp[yM]
 |n+1,h=>by
  have B:n<so.length:=h;simp only[yM];rw[eX so d p n (RL h),QK,OQ,T5];congr 1;have e:so.getD n d=so[n]:=by simp[B]
  rw[e,X1 B];cases g:p so[n]<;>simp[g]
noncomputable def Ce(z:Addr)(H:Hp)(q:Addr)(ds:List zp):Prop:=∃vs,H q=some (.lst vs)/\Ab z H vs (ds.map wK)
theorem Ce.same(h:Ce z H q ds)(s:Aa H H'):Ce z H' q ds:=let ⟨vs,a,r⟩:=h;⟨vs,s _ _ a,r.mono s.x⟩
structure eY(G:Prop):Prop where
 out:G
theorem jx{c A B G:Prop} [Decidable c] (h1:c->eY G->A) (h2:¬c->eY G->B) (g:G):if c then A else B:=by
 by_cases h:c
 .rw[Qxb h];exact h1 h ⟨g⟩
 .rw[Qxa h];exact h2 h ⟨g⟩
inductive nE:Sp where
 |mk {vs:List V} {H:Hp} {Q:VK} {E:XK} (z v b q ds x:_) (i:Nat) (c1:vs=[v,.ref q,.str x,.int i]) (c2:Aj z H v (yp b)) (c3:yn b) (c4:Ce z H q ds) (c5:wn b ds) (c6:x.length<=20000) (c7:∀p (ys:List Str) H',Aa H H'->H p=none->H' p=some (.lst (ys.map V.str))->ys.Perm (xP b ds x i)->ys.Pairwise (λa c=>c.length<=a.length)->Q (.ref p) H'):nE vs H Q E
theorem Ba:zK ["book","doors","text","place","tongue","some"] ["book","doors","text","place"] (zq rj):=zP
theorem VO:(["mark","place","text"]:List Str).Nodup:=by lia
theorem VP(F:Ao K "_law_fitting" "_law_fitting" rj f fd)(T:yu mg):Ag P w K mg base zD 1 f fd ["book","doors","text","place"] nE:=by
 refine F.okA Ba λg4 A outer s H vs Q E aW h=>?_;obtain⟨z,v,b,q,ds,x,i,rfl,aX,aY,⟨vs,U,aa⟩,ax,aZ,k⟩:=h;obtain⟨a,xs,rfl,bB,a0,a1,R⟩:=uS aX;obtain⟨a2,bC,a3,_⟩:=aY;have ab:=Ba.nd;refine⟨_,ze (zu (i:=4) ab zg)
  (ze (ya (zZ (uN aW.units0) (pv 1) (zV zf) (zR _)) (zm (zu (i:=4) ab (zx Ai (zx Ae (pv 1) (wB wC zg) (λ_ _=>rfl)) zg (λ_ _=>rfl)))) ye)
  (ze (zu (i:=5) ab (zG vP
    (xS (N':=["door"]) (js:=[none]) J J (yZ (zq rj) (by lia)) trivial (xX (zx Ai (zx Ai (pv 0) (pv 4) (λ_ _=>rfl)) zg (λ_ _=>rfl)))
     (λcl s H fp=>zw (i:=0) kT) (λcl s H fp=>wG) (λcl s H fp=>zx wg (pv 0) zg (λ_ _=>rfl)))
    (xS (N':=["door"]) (js:=[none]) J J (yZ (zq rj) (by lia)) trivial (xb (x0 tP (pv 1) (xz (wB wC zg)) vd))
     (λcl s H fp=>zw (i:=0) kT) (λcl s H fp=>wG) (λcl s H fp=>zx wg (pv 0) zg (λ_ _=>rfl)))))
  (zm (zB (XJ (XE T.sorted T.len (xS (N':=["mark","place","text"]) (js:=[none,some 3,some 2]) J J (yZ (zq rj) (by lia)) ⟨J,Or.inr (Or.inl J),J,J,Or.inr (Or.inl J),J,trivial⟩ (xb (pv 5))
    (λcl s H fp=>zw (i:=0) VO) (λcl s H fp=>vt (zZ xI (x0 v9 (pv 2) (xz (pv 1)) (xz (zG yO (pv 1) (zT yL (by rfl) T.len b_len (zz 0))))) (pv 0) (zR _))) (λcl s H fp=>pv 0))) (wB wC zg) (λσ H Q bD ⟨i,e,h⟩ hm=>⟨i,e,hm _ _ h⟩)))))),?_⟩
 dsimp only[zH,Cx.nox,Cx.wish];have bE:=yV;have I:vs.length=ds.length:=by have:=aa.length;simpa using this
 refine⟨_,J,X7 _,λl ay=>?_⟩;have D:=Aa.new (o:=.lst []) ay;have bF:q≠l:=zi U ay;refine⟨q,l,vs,J,J,D _ _ U,zd,_,J,?_⟩;generalize c' H l (.lst [])=H1 at D;obtain⟨B,ac,ae⟩:∃B:Nat,zI ds=(B:Int)/\B<b.length:=by
  unfold zI;cases g:ds.getLast? with
  |none=>exact⟨0,J,by exact a2⟩
  |some d=>
   have:=(ax d (Kq g)).1;exact⟨d.2.1.toNat,by show d.2.1=_;exact sK this.1,by exact lm this.1 this.2⟩
 refine jx (G:=?G) (λaf g=>?g1) (λaf g=>?g2) ?g3
 case g1=>
  have ag:0<ds.length:=by
   cases vs with
   |nil=>simp at af
   |cons _ _=>simp at I;exact pY I
  have a4:ds.getLast?=some (ds.getD (ds.length-1) zX):=by
   rw[N3];have:ds.length-1<ds.length:=wN ag;simp[this]
  have ah:(ds.getD (ds.length-1) zX).2.1=(B:Int):=by
   rw[←ac];unfold zI;rw[a4]
  obtain⟨ad,a5,bG,a6⟩:=jv ((jw (ds:=ds) (i:=ds.length-1) aa (wN ag)).mono D.x);have a7:xi vs (-1)=some (.ref ad):=by
   have a8:xA vs.length (-1)=some (vs.length-1):=by
    unfold xA;rw[Qxa (by decide),Qxb (by omega)];congr 1;exact sL
   unfold xi;rw[a8];show vs[vs.length-1]?=_;have h1:vs.length-1<vs.length:=rL ag I;have h2:vs.getD (vs.length-1) .non=vs[vs.length-1]:=by simp[h1]
   rw[X1 h1,←h2,I,a5]
  refine⟨_,J,1,J,q,vs,-1,_,J,J,Ad.of (D _ _ U),a7,ad,_,1,_,J,J,Ah.of a6,zy (j:=1) J,?_⟩;show (xH _ _) _ [some (.ref a),some (.ref q),some (.str x),some (.int i),some (.int (ds.getD (ds.length-1) zX).2.1),none] _;rw[ah];exact g.out
 case g2=>
  have a9:ds.length=0:=by
   cases vs with
   |nil=>simp at I;exact RH I
   |cons _ _=>simp at af
  have ah:(some (V.int 0):Option V)=some (V.int (B:Int)):=by
   rw[←ac];unfold zI;have:ds=[]:=Ry a9;rw[this];rfl
  show (xH _ _) _ [some (.ref a),some (.ref q),some (.str x),some (.int i),some (.int 0),none] _;rw[ah];exact g.out
 case g3=>
  obtain⟨c,d,ys,ba,bH,bI,bb,ai,aj,bc⟩:=vh ((vi (b:=b) (i:=B) R ae).mono D.x);have bd:xs[B]?=some (.ref c):=by
   have h1:B<xs.length:=zU ae a1;have h2:xs.getD B .non=xs[B]:=by simp[h1]
   rw[X1 h1,←h2,ba]
  have az:=a3 _ (yE zk ae);have aj:ys.length=(b.getD B zk).2.length:=aj;have aA:b.getD (zI ds).toNat zk=b.getD B zk:=by rw[ac];rfl
  have aB:xP b ds x i=(yD (b.getD B zk).2++(yo ds).map (·.2.2)).filter (xc x i):=by unfold xP xw;rw[aA]
  rw[aB] at k;clear aB aA;generalize bJ:b.getD B zk=tt at *;have be:=az.2.1;refine⟨_,J,_,J,a,xs,B,_,J,J,Ah.of (D _ _ a0),zy bd,c,_,1,_,J,J,Ah.of bb,zy (j:=1) J,d,J,⟨_,Ah.of ai⟩,λak aC=>?_⟩;have aD:d≠ak:=zi ai aC;refine kq (λj=>.str (tt.2.getD j yd).1) (λσ=>∃v,σ=[v]) ⟨none,J⟩ aC (by omega) (tS (xs:=ys) (by rw[zh aD];exact ai) aD) (λj σ H2 C W ⟨v,J0⟩ bf L=>?_) (λσ H2 al bg=>?_)
  .subst J0;obtain⟨am,ao,bh,ap⟩:=vB ((vC (ds:=tt.2) (i:=j) bc (by omega)).mono bf.x);rw[ao];exact⟨_,J,am,_,0,_,J,J,Ah.of ap,zy (j:=0) J,L _ H2 ⟨_,J⟩ (Aa.refl _)⟩
  have bi:H2 ak=some (.lst ((yD tt.2).map V.str)):=by
   rw[bg,aj];unfold yD;rw[R6];exact congrArg (λx=>some (HO.lst x)) (range_map tt.2 yd λd=>V.str d.1)
  have bj:=al _ _ (D _ _ U);refine⟨_,J,1,J,-1,J,q,vs,J,Ad.of bj,λM bk=>⟨M,J,⟨_,Ad.of zd⟩,λaq aE=>?_⟩⟩;have aF:=Aa.new (o:=.lst (xh vs (some (-1)) none)) bk;have aG:c' H2 M (.lst (xh vs (some (-1)) none)) M=some (.lst (vs.drop (vs.length-1))):=by rw[zd,VN]
  have aH:M≠aq:=zi aG aE;have aI:Ab z (c' H2 M (.lst (xh vs (some (-1)) none))) (vs.drop (vs.length-1)) ((yo ds).map wK):=by
   unfold yo;rw[Iv,I];exact(aa.mono ((D.trans al).trans aF).x).drop _
  have ar:(vs.drop (vs.length-1)).length=(yo ds).length:=by have:=aI.length;simpa using this
  have as:(yo ds).length<=1:=by unfold yo;rw[Qw];exact lr
  refine kq (λj=>.str ((yo ds).getD j zX).2.2) (λσ=>∃v,σ=[v]) ⟨none,J⟩ aE (ww ar as) (x8 (xs:=vs.drop (vs.length-1)) (by rw[zh aH];exact aG) aH) (λj σ O C W ⟨v,J0⟩ bl L=>?_) (λσ O bm bn=>?_)
  .subst J0;obtain⟨am,ao,bh,ap⟩:=jv ((jw (ds:=yo ds) (i:=j) aI (zU W (RH ar))).mono bl.x);rw[ao];exact⟨_,J,am,_,2,_,J,J,Ah.of ap,zy (j:=2) J,L _ O ⟨_,J⟩ (Aa.refl _)⟩
  have bo:O aq=some (.lst (((yo ds).map (·.2.2)).map V.str)):=by
   rw[bn,ar,R6];exact congrArg (λx=>some (HO.lst x)) (range_map (yo ds) zX λd=>V.str d.2.2)
  have aJ:=aF.trans bm;have aK:((yD tt.2).map V.str).length<=6:=by unfold yD;simp;exact be
  have bp:(((yo ds).map (·.2.2)).map V.str).length<=1:=by simp;exact as
  refine⟨ak,aq,_,_,J,J,aJ _ _ bi,bo,by omega,λpS bq=>?_⟩;rw[←T5];have br:=Aa.new (o:=.lst ((yD tt.2++(yo ds).map (·.2.2)).map V.str)) bq;have Y:c' O pS (.lst ((yD tt.2++(yo ds).map (·.2.2)).map V.str)) pS=some (.lst ((yD tt.2++(yo ds).map (·.2.2)).map V.str)):=zd;have au:=((D.trans al).trans aJ).trans br;generalize c' O pS (.lst ((yD tt.2++(yo ds).map (·.2.2)).map V.str))=bK at au Y;have aL:∀m∈yD tt.2++(yo ds).map (·.2.2),Sm m:=λm hm=>by
   rcases T6.mp hm with hm|hm
   .obtain⟨dd,av,rfl⟩:=S4.mp hm;have g:=wm (az.2.2 dd av).1;exact⟨g.2,g.1⟩
   .obtain⟨dd,av,rfl⟩:=S4.mp hm;exact(ax dd (Ou av)).2
  have aM:(yD tt.2++(yo ds).map (·.2.2)).length<=7:=by simp at aK bp ⊢;exact O8 aK as
  generalize yD tt.2++(yo ds).map (·.2.2)=so at *;have aw:(so.map V.str).length=so.length:=X5 ..;refine⟨_,J,pS,J,⟨_,Ad.of Y⟩,λaN aO=>?_⟩;have aP:pS≠aN:=zi Y aO;refine vf (λj=>if xc x i (so.getD j ⟨#[]⟩) then some (.str (so.getD j ⟨#[]⟩)) else none) (λσ=>∃v,σ=[v,some (.int i),some (.str x)]) ⟨none,J⟩ aO (ww aw aM) (x8 (xs:=so.map V.str) (by rw[zh aP];exact Y) aP) (λj σ aQ C W ⟨v,J0⟩ bL L=>?_) (λσ aQ aR aS=>?_)
  .subst J0;have aT:j<so.length:=zU W (RH aw);have bs:(so.map V.str).getD j .non=.str (so.getD j ⟨#[]⟩):=by simp[aT]
   have g:=aL _ (yE ⟨#[]⟩ aT);rw[bs];have Z:=L [some (.str (so.getD j ⟨#[]⟩)),some (.int i),some (.str x)] aQ ⟨_,J⟩ (Aa.refl _);have bt:x.length<=sizeLine:=by have:(20000:Nat)<=sizeLine:=(by rw[Qo];decide);exact zC aZ
   refine⟨_,J,_,J,i,J,_,J,_,J,_,J,by have:=g.2;exact zC this,i,_,J,J,_,J,x,J,bt,_,J,J,_,J,?_⟩;show if xc x i (so.getD j ⟨#[]⟩)=true then _ else _;cases g2:xc x i (so.getD j ⟨#[]⟩) with
   |true=>
    rw[g2,Qxb rfl] at Z;exact yS ⟨_,J,Z⟩
   |false=>
    rw[g2,Qxa (by simp)] at Z;exact yi Z
  rw[aw,eX so ⟨#[]⟩ (xc x i) _ (X2 _),R1] at aS;have bu:(so.filter (xc x i)).length<=7:=S5 (Py _ _) aM;refine⟨aN,so.filter (xc x i),J,Ad.of aS,by exact vJ bu,λy bv=>by have:=(aL y (T3.mp bv).1).2;exact zC this,λpT S bw bx pw=>?_⟩;have aU:=Aa.new (o:=.lst (S.map V.str)) bw;refine⟨1,J,pT,S.map V.str,J,J,Ad.of zd,λbz aV=>?_⟩;have bA:=Aa.new (o:=.lst (S.map V.str).reverse) aV;refine k bz S.reverse _ ((au.trans aR).trans (aU.trans bA)) (((au.trans aR).trans aU).free aV) (by rw[zd,MG]) ((List.reverse_perm S).trans bx) ?_;rw[List.pairwise_reverse];exact pw.imp λh=>by simpa using h
noncomputable abbrev zQ:=Int×Int×Str×Int×Int
noncomputable def xQ(s:zQ):List V:=[.int s.1,.int s.2.1,.str s.2.2.1,.int s.2.2.2.1,.int s.2.2.2.2]
noncomputable def yb(s:zQ):D:=.tup [.int s.1,.int s.2.1,.str s.2.2.1,.int s.2.2.2.1,.int s.2.2.2.2]
noncomputable def zN(b:Bk)(ds:List zp)(x:Str)(i:Nat)(m:Str):zQ×List zp:=
 if (b.getD (zI ds).toNat zk).1≠YP ""/\(⟨#[x.cps.getD i 0]⟩:Str)=(b.getD (zI ds).toNat zk).1 then
  (if i+1=x.length then (((i:Int),1,YP "cut",zI ds,(ds.length:Int)),ds) else (((i:Int),2,YP "escape",zI ds,(ds.length:Int)),ds))
 else if m=YP "" then (((i:Int),1,YP "sign",zI ds,(ds.length:Int)),ds)
 else if ds≠[]/\m=(ds.getD (ds.length-1) zX).2.2 then (((i:Int),(m.length:Int),YP "close",zI ds.dropLast,(ds.length:Int)-1),ds.dropLast)
 else match (b.getD (zI ds).toNat zk).2.filter (λd=>d.1==m) with
  |d::_=>(((i:Int),(m.length:Int),YP "open",zI ds,(ds.length:Int)),ds++[((i:Int),d.2.1,d.2.2)])
  |[]=>(((i:Int),0,YP "",0,0),ds)
theorem nF{q:Addr}(F:Ab z H vs (ds.map wK))(B:0<ds.length):∃ad,xi vs (-1)=some (.ref ad)/\H ad=some (.tup [.int (ds.getD (ds.length-1) zX).1,.int (ds.getD (ds.length-1) zX).2.1,.str (ds.getD (ds.length-1) zX).2.2]):=by
 have D:vs.length=ds.length:=by have:=F.length;simpa using this
 obtain⟨ad,G,L,I⟩:=jv (jw (ds:=ds) (i:=ds.length-1) F (wN B));refine⟨ad,?_,I⟩;have J0:xA vs.length (-1)=some (vs.length-1):=by
  unfold xA;rw[Qxa (by decide),Qxb (by exact hX B D)];congr 1;exact sL
 unfold xi;rw[J0];show vs[vs.length-1]?=_;have h1:vs.length-1<vs.length:=rL B D;have h2:vs.getD (vs.length-1) .non=vs[vs.length-1]:=by simp[h1]
 rw[X1 h1,←h2,D,G]
theorem jy(h:0<ds.length):zI ds=(ds.getD (ds.length-1) zX).2.1:=by
 have B:ds.getLast?=some (ds.getD (ds.length-1) zX):=by
  rw[N3];have:ds.length-1<ds.length:=wN h;simp[this]
 unfold zI;rw[B]
theorem ue(D:wn b ds)(F:1<=b.length):∃B:Nat,zI ds=(B:Int)/\B<b.length:=by
 unfold zI;cases g:ds.getLast? with
 |none=>exact⟨0,J,by exact F⟩
 |some d=>
  have:=(D d (Kq g)).1;exact⟨d.2.1.toNat,by show d.2.1=_;exact sK this.1,by exact lm this.1 this.2⟩
mutual
theorem Aj.butL{z q:Addr}{H H':Hp}{l:List V}(B:H q=some (.lst l))(s:Ac q H H'):∀ {v:V}{d:D},Aj z H v d->xJ d->Aj z H' v d
 |_,_,.non,_=>.non
 |_,_,.bl b,_=>.bl b
 |_,_,.int i,_=>.int i
 |_,_,.str x h,_=>.str x h
 |_,_,.tup h F r,.tup t=>.tup (s _ _ (zj h B) h) F (Ab.butL B s r t)
theorem Ab.butL{z q:Addr}{H H':Hp}{l:List V}(B:H q=some (.lst l))(s:Ac q H H'):∀ {vs:List V}{ds:List D},Ab z H vs ds->Av ds->Ab z H' vs ds
 |_,_,.nil,_=>.nil
 |_,_,.cons h t,.cons h' t'=>.cons (Aj.butL B s h h') (Ab.butL B s t t')
end
theorem eZ{D:Type}(ds:List D)(B:D)(p:D->Bool)(g:Nat->V):∀n,n<=ds.length->((ds.take n).filter p=[]/\yM (λi=>(if p (ds.getD i B) then some (g i) else none).toList) n=[]) ∨
  ∃d r j,(ds.take n).filter p=d::r/\j<n/\ds.getD j B=d/\(yM (λi=>(if p (ds.getD i B) then some (g i) else none).toList) n)[0]?=some (g j)
 |0,_=>.inl ⟨by simp,J⟩
 |n+1,h=>by
  have G:n<ds.length:=h;have e:ds.getD n B=ds[n]:=by simp[G]
  have I:(ds.take (n+1)).filter p=(ds.take n).filter p++(if p ds[n] then [ds[n]] else []):=by
   rw[QK,OQ,X1 G];cases F:p ds[n]<;>simp[F]
  have J0:yM (λi=>(if p (ds.getD i B) then some (g i) else none).toList) (n+1)=yM (λi=>(if p (ds.getD i B) then some (g i) else none).toList) n++(if p ds[n] then [g n] else []):=by
   simp only[yM];rw[e];cases F:p ds[n]<;>rfl
  rcases eZ ds B p g n (RL h) with⟨h1,h2⟩|⟨d,r,j,h1,h2,M,L⟩
  .rw[I,J0,h1,h2];cases F:p ds[n] with
   |false=>exact .inl ⟨J,J⟩
   |true=>exact .inr ⟨ds[n],[],n,J,by exact X2 _,e,J⟩
  .refine .inr ⟨d,r++(if p ds[n] then [ds[n]] else []),j,by rw[I,h1];rfl,by exact R9 h2,M,?_⟩;rw[J0,Qr]
   .exact L
   .exact(W5.mp L).1
theorem Ab.dropLast{z:Addr}{H:Hp}{vs:List V}{ds:List D}(r:Ab z H vs ds):Ab z H vs.dropLast ds.dropLast:=by
 rw[Kf,Kf,r.length];exact r.take _
inductive nH:Sp where
 |mk {vs:List V} {H:Hp} {Q:VK} {E:XK} (z v b q ds x m:_) (i:Nat) (c1:vs=[v,.ref q,.str x,.int i,.str m]) (c2:Am z H) (c3:q≠z) (c4:Aj z H v (yp b)) (c5:yn b) (c6:Ce z H q ds) (c7:wn b ds) (c8:i<x.length) (c9:x.length<=20000) (ho:ds.length<=20000) (hD:(m=YP ""∨m∈xw b ds)) (c12:∀p H',Ac q H H'->H p=none->H' p=some (.tup (xQ (zN b ds x i m).1))->Ce z H' q (zN b ds x i m).2->Q (.ref p) H'):nH vs H Q E
theorem By:zK ["book","doors","text","place","mark","tongue","depth","cut","around","door"] ["book","doors","text","place","mark"] (zq nv):=zP
theorem VQ:(["one","mark"]:List Str).Nodup:=by lia
theorem VR(F:Ao K "_law_step" "_law_step" nv f fd)(T:yu mg):Ag P w K mg base zD 1 f fd ["book","doors","text","place","mark"] nH:=by
 refine F.okA By λg4 A outer s H vs Q E aD h=>?_;obtain⟨z,v,b,q,ds,x,m,i,rfl,br,bX,bs,bt,⟨vs,M,W⟩,aE,hi,aF,bu,bv,k⟩:=h;obtain⟨a,xs,rfl,bY,ap,bw,R⟩:=uS bs;obtain⟨a3,bZ,bx,_⟩:=bt;have aa:=By.nd;refine⟨_,ze (zu (i:=5) aa zg)
  (ze (ya (zZ (uN aD.units0) (pv 1) (zV zf) (zR _)) (zm (zu (i:=5) aa (zx Ai (zx Ae (pv 1) (wB wC zg) (λ_ _=>rfl)) zg (λ_ _=>rfl)))) ye)
  (ze (zu (i:=6) aa (zT xB (by rfl) T.len b_len (zz 1)))
  (ze (ya (PW.pt (ut (zZ sV (zx Ai (zx Ai (pv 0) (pv 5) (λ_ _=>rfl)) zg (λ_ _=>rfl)) z0 (zR _)) (ur (zZ xI (zx rZ (pv 2) (pv 3) (λ_ _=>rfl)) (zx Ai (zx Ai (pv 0) (pv 5) (λ_ _=>rfl)) zg (λ_ _=>rfl)) (zR _)))))
   (ze (zu (i:=7) aa (vc Yh (by rfl) T.int oI (zc (vZ xI (zG yO (pv 3) zg) (zT yL (by rfl) T.len b_len (zz 2)) (zR _)) zf)))
   (zm (zB (yl (zc (pv 3) (tZ (zG vY zg (pv 7)) (zc (zx Ae (zV (yY z0 (yY z0 zf))) (pv 7) (λ_ _=>rfl)) (yk 5 6)))))))) ye)
  (ze (ya (zZ xI (pv 4) z0 (zR _)) (zm (zB (yl (zc (pv 3) (yY zg (yY z0 (yk 5 6))))))) ye)
  (ze (ya (PW.pt (ut (zZ (uN aD.units0) (pv 1) (zV zf) (zR _)) (ur (zZ xI (pv 4) (zx Ai (zx Ae (pv 1) (wB wC zg) (λ_ _=>rfl)) zg (λ_ _=>rfl)) (zR _)))))
   (ze (yy (tQ U1 Ob Oc oC (pv 1)))
   (ze (zu (i:=8) aa zg)
   (ze (ya (zZ (uN aD.units0) (pv 1) (zV zf) (zR _)) (zm (zu (i:=8) aa (zx Ai (zx Ae (pv 1) (wB wC zg) (λ_ _=>rfl)) zg (λ_ _=>rfl)))) ye)
   (zm (zB (yl (zc (pv 3) (zc (zT yL (by rfl) T.len b_len (zz 4)) (yY z0 (zc (pv 8) (tZ (zG vY (pv 6) zg) zf)))))))))))  ye)
  (ze (zu (i:=9) aa (zx Ae (xS (N':=["one","mark"]) (js:=[none,some 4]) J J (yZ (zq nv) (by lia)) ⟨J,Or.inr (Or.inl J),J,trivial⟩ (xX (zx Ai (zx Ai (pv 0) (pv 5) (λ_ _=>rfl)) zg (λ_ _=>rfl)))
    (λcl s H fp=>zw (i:=0) VQ) (λcl s H fp=>vt (zZ xI (zx wg (pv 0) zg (λ_ _=>rfl)) (pv 1) (zR _))) (λcl s H fp=>pv 0)) zg (λ_ _=>rfl)))
  (ze (yy (yW U1 S8 S9 xC (pv 1) (VA (yl (zc (pv 3) (zc (zx Ai (pv 9) zg (λ_ _=>rfl)) (zc (zx Ai (pv 9) zg (λ_ _=>rfl)) zf)))) zf)))
  (zm (zB (yl (zc (pv 3) (zc (zT yL (by rfl) T.len b_len (zz 4)) (yY z0 (yk 5 6)))))))))))))),?_⟩
 dsimp only[zH,Cx.nox,Cx.wish];have b0:=yV;have b1:=yB;have L:vs.length=ds.length:=by have:=W.length;simpa using this
 obtain⟨I,aq,aG⟩:=ue aE a3;refine⟨_,J,X7 _,λl bz=>?_⟩;have B:=Aa.new (o:=.lst []) bz;refine⟨q,l,vs,J,J,B _ _ M,zd,_,J,?_⟩;generalize c' H l (.lst [])=H1 at B;have a4:(zI ds).toNat=I:=by rw[aq];rfl
 have aH:=bx _ (yE zk aG);obtain⟨c,d,ys,bA,b2,b3,ar,ag,aI,a5⟩:=vh ((vi (b:=b) (i:=I) R aG).mono B.x);have as:xs[I]?=some (.ref c):=by
  have h1:I<xs.length:=zU aG bw;have h2:xs.getD I .non=xs[I]:=by simp[h1]
  rw[X1 h1,←h2,bA]
 have aI:ys.length=(b.getD I zk).2.length:=aI;have a6:m=YP ""∨m∈yD (b.getD I zk).2∨m∈(yo ds).map (·.2.2):=by
  rcases bv with h|h
  .exact .inl h
  .unfold xw at h;rw[a4] at h;exact .inr (T6.mp h)
 unfold zN at k;rw[a4,aq] at k;generalize b4:b.getD I zk=tt at *;have b5:=aH.2.1;have a7:x.cps.toList[i]?=some (x.cps.getD i 0):=by
  have:i<x.cps.size:=hi;simp[Je,this]
 have a8:m.length<=1000:=by
  rcases a6 with rfl|h|h
  .lia
  .obtain⟨dd,U,rfl⟩:=S4.mp h;have:=(wm (aH.2.2 dd U).1).1;exact zC this
  .obtain⟨dd,U,rfl⟩:=S4.mp h;have:=(aE dd (Ou U)).2.2;exact zC this
 refine jx (G:=?G) (λaJ g=>?g1) (λaJ g=>?g2) ?g3
 case g1=>
  have O:0<ds.length:=by
   cases vs with
   |nil=>simp at aJ
   |cons _ _=>simp at L;exact pY L
  obtain⟨ad,ah,ai⟩:=nF (q:=q) (W.mono B.x) O;refine⟨_,J,1,J,q,vs,-1,_,J,J,Ad.of (B _ _ M),ah,ad,_,1,_,J,J,Ah.of ai,zy (j:=1) J,?_⟩;have aK:=jy O;show (xH _ _) _ [some (.ref a),some (.ref q),some (.str x),some (.int i),some (.str m),some (.int (ds.getD (ds.length-1) zX).2.1),none,none,none,none] _;rw[←aK,aq];exact g.out
 case g2=>
  have bB:ds.length=0:=by
   cases vs with
   |nil=>simp at L;exact RH L
   |cons _ _=>simp at aJ
  have aK:(some (V.int 0):Option V)=some (V.int (I:Int)):=by
   rw[←aq];unfold zI;have:ds=[]:=Ry bB;rw[this];rfl
  show (xH _ _) _ [some (.ref a),some (.ref q),some (.str x),some (.int i),some (.str m),some (.int 0),none,none,none,none] _;rw[aK];exact g.out
 case g3=>
  refine⟨_,J,q,vs,J,.inl (Ad.of (B _ _ M)),?_⟩;refine⟨_,J,_,J,a,xs,I,_,J,J,Ah.of (B _ _ ap),zy as,c,_,0,_,J,J,Ah.of ar,zy (j:=0) J,J,_,J,?_⟩;by_cases aj:tt.1≠YP ""/\(⟨#[x.cps.getD i 0]⟩:Str)=tt.1
  .rw[Qxb aj] at k;have bC:(!decide (V.str tt.1=V.str (YP "")))=true:=by
    have:¬(V.str tt.1=V.str (YP "")):=λq=>aj.1 (by injection q);rw[decide_eq_false this];rfl
   rw[bC];refine yS ⟨_,J,_,J,x,i,_,J,J,by exact zC aF,zy a7,_,J,_,J,a,xs,I,_,J,J,Ah.of (B _ _ ap),zy as,c,_,0,_,J,J,Ah.of ar,zy (j:=0) J,J,_,J,?_⟩;rw[aj.2,Qxd rfl];refine yS ⟨_,J,(i:Int),1,J,J,_,J,x,J,by exact zC aF,J,.inr ⟨_,J,?_⟩⟩;by_cases au:i+1=x.length
   .rw[Qxb au] at k;have aL:decide (V.int ((i:Int)+1)=V.int (x.length:Int))=true:=by
     have:((i:Int)+1)=(x.length:Int):=congrArg Int.ofNat au;rw[this];simp
    rw[aL];refine⟨_,J,_,J,2,1,J,J,by show (2:Nat)<=_;exact X6 _ _,λab ac=>⟨_,J,ab,_,1,_,J,J,Ad.of zd,zy (j:=1) J,_,J,_,J,by show (5:Nat)<=_;exact X6 _ _,λp J0=>?_⟩⟩;have D:=(Aa.new (o:=.lst [.str (YP "escape"),.str (YP "cut")]) ac);have S:=D.trans (Aa.new (o:=.tup [.int i,.int (2-1),.str (YP "cut"),.int I,.int vs.length]) J0);refine k p _ (B.trans S).x ((B.trans D).free J0) ?_ ⟨vs,(B.trans S) _ _ M,W.mono (B.trans S).x⟩;rw[zd,L];rfl
   .rw[Qxa au] at k;have aL:decide (V.int ((i:Int)+1)=V.int (x.length:Int))=false:=by
     have:¬(V.int ((i:Int)+1)=V.int (x.length:Int)):=λq=>au (by injection q with q;exact Q7 q);exact decide_eq_false this
    rw[aL];refine⟨_,J,_,J,2,0,J,J,by show (2:Nat)<=_;exact X6 _ _,λab ac=>⟨_,J,ab,_,0,_,J,J,Ad.of zd,zy (j:=0) J,_,J,_,J,by show (5:Nat)<=_;exact X6 _ _,λp J0=>?_⟩⟩;have D:=(Aa.new (o:=.lst [.str (YP "escape"),.str (YP "cut")]) ac);have S:=D.trans (Aa.new (o:=.tup [.int i,.int (2-0),.str (YP "escape"),.int I,.int vs.length]) J0);refine k p _ (B.trans S).x ((B.trans D).free J0) ?_ ⟨vs,(B.trans S) _ _ M,W.mono (B.trans S).x⟩;rw[zd,L];rfl
  .rw[Qxa aj] at k;refine fH (λa9 g=>?_) ?_
   .refine⟨_,J,_,J,x,i,_,J,J,by exact zC aF,zy a7,_,J,_,J,a,xs,I,_,J,J,Ah.of (B _ _ ap),zy as,c,_,0,_,J,J,Ah.of ar,zy (j:=0) J,J,_,J,?_⟩;have av:decide (V.str (⟨#[x.cps.getD i 0]⟩:Str)=V.str tt.1)=false:=by
     have:¬(V.str (⟨#[x.cps.getD i 0]⟩:Str)=V.str tt.1):=λq=>aj ⟨λbD=>by rw[bD] at a9;simp at a9,by injection q⟩;exact decide_eq_false this
    rw[av];exact g.out
   .refine yi ⟨_,J,J,_,J,?_⟩;by_cases ak:m=YP ""
    .rw[Qxb ak] at k;rw[ak,Qxd rfl];refine yS ⟨_,J,_,J,_,J,by show (5:Nat)<=_;exact X6 _ _,λp J0=>?_⟩;have S:=Aa.new (o:=.tup [.int i,.int 1,.str (YP "sign"),.int I,.int vs.length]) J0;refine k p _ (B.trans S).x (B.free J0) ?_ ⟨vs,(B.trans S) _ _ M,W.mono (B.trans S).x⟩;rw[zd,L];rfl
    rw[Qxa ak] at k;have bE:decide (V.str m=V.str (YP ""))=false:=by
     have:¬(V.str m=V.str (YP "")):=λq=>ak (by injection q);exact decide_eq_false this
    rw[bE];refine yi ⟨_,J,X7 _,λab ac=>?_⟩;have D:=B.trans (Aa.new (o:=.lst []) ac);have Z:=Aa.new (o:=.lst []) ac;refine⟨q,ab,vs,J,J,D _ _ M,zd,_,J,?_⟩;have bF:∀aw o,H1 aw=some o->c' H1 ab (.lst []) aw=some o:=λaw o e=>Z aw o e;generalize c' H1 ab (.lst [])=H2 at D Z bF;by_cases ae:ds≠[]/\m=(ds.getD (ds.length-1) zX).2.2
    .rw[Qxb ae] at k;have O:0<ds.length:=QA.mpr ae.1;have bG:(!vs.isEmpty)=true:=by
      cases vs with
      |nil=>simp at L;exact(i9 O L).elim
      |cons _ _=>rfl
     rw[bG];obtain⟨ad,ah,ai⟩:=nF (q:=q) (W.mono D.x) O;refine yS ⟨_,J,_,J,1,J,q,vs,-1,_,J,J,Ad.of (D _ _ M),ah,ad,_,2,_,J,J,Ah.of ai,zy (j:=2) J,J,_,J,?_⟩;rw[←ae.2,Qxd rfl];refine yS ⟨_,J,.inl ⟨J,_,Ad.of (D _ _ M)⟩,q,vs,_,J,J,D _ _ M,kU (rL O L),?_⟩;have al:c' H2 q (.lst vs.dropLast) q=some (.lst vs.dropLast):=zd;have ba:Ab z (c' H2 q (.lst vs.dropLast)) vs.dropLast (ds.dropLast.map wK):=by
      rw[Q2];exact Ab.updL (D _ _ M) (W.mono D.x).dropLast (by rw[←Q2];exact uU _)
     have bb:Ac q H (c' H2 q (.lst vs.dropLast)):=D.x.c';generalize c' H2 q (.lst vs.dropLast)=bc at al ba bb;refine⟨_,J,X7 _,λaM bH=>?_⟩;have ax:=Aa.new (o:=.lst []) bH;refine⟨q,aM,vs.dropLast,J,J,ax _ _ al,zd,_,J,?_⟩;have ay:=ax _ _ al;have aN:=ba.mono ax.x (z:=z);have aO:Ac q H (c' bc aM (.lst [])):=bb.trans ax.x;generalize c' bc aM (.lst [])=b6 at ay aN aO;obtain⟨bd,aP,_⟩:=ue (b:=b) (ds:=ds.dropLast) (λd ag=>aE d (Nu _ ag)) a3;rw[aP] at k;have be:vs.dropLast.length=ds.dropLast.length:=by simp;exact congrArg I4 L
     have bI:(!vs.dropLast.isEmpty)=true->0<ds.dropLast.length:=λY=>by
      rw[←be];cases hv2:vs.dropLast with
      |nil=>rw[hv2] at Y;simp at Y
      |cons _ _=>simp
     have bJ:¬(!vs.dropLast.isEmpty)=true->ds.dropLast.length=0:=λY=>by
      rw[←be];cases hv2:vs.dropLast with
      |nil=>rfl
      |cons _ _=>rw[hv2] at Y;simp at Y
     refine jx (G:=?G2) (λY g=>?h1) (λY g=>?h2) ?h3
     case h1=>
      have bf:=bI Y;obtain⟨bK,bL,bM⟩:=nF (q:=q) aN bf;refine⟨_,J,1,J,q,_,-1,_,J,J,Ad.of ay,bL,bK,_,1,_,J,J,Ah.of bM,zy (j:=1) J,?_⟩;have aQ:=jy bf;rw[←aQ,aP];exact g.out
     case h2=>
      have bN:=bJ Y;have aQ:(some (V.int 0):Option V)=some (V.int (bd:Int)):=by
       rw[←aP];unfold zI;have:ds.dropLast=[]:=Ry bN;rw[this];rfl
      rw[aQ];exact g.out
     case h3=>
      refine⟨_,J,_,J,m,J,by exact zC a8,_,J,_,J,_,_,J,J,by show (5:Nat)<=_;exact X6 _ _,λp J0=>?_⟩;have aR:H p=none:=by
       cases e:H p with
       |none=>rfl
       |some o=>
        have aS:p≠q:=(zi ay J0).symm;rw[aO p o aS e] at J0;cases J0
      have aT:=Aa.new (o:=.tup [.int i,.int m.length,.str (YP "close"),.int bd,.int ((vs.length:Int)-1)]) J0;refine k p _ (aO.trans aT.x) aR ?_ ⟨_,aT _ _ ay,aN.mono aT.x⟩;rw[zd,L];rfl
    .rw[Qxa ae] at k;refine fH (λaU g=>?_) ?_
     .have O:0<ds.length:=by
       cases vs with
       |nil=>simp at aU
       |cons _ _=>simp at L;exact pY L
      obtain⟨ad,ah,ai⟩:=nF (q:=q) (W.mono D.x) O;refine⟨_,J,_,J,1,J,q,vs,-1,_,J,J,Ad.of (D _ _ M),ah,ad,_,2,_,J,J,Ah.of ai,zy (j:=2) J,J,_,J,?_⟩;have bO:decide (V.str m=V.str (ds.getD (ds.length-1) zX).2.2)=false:=by
       have:¬(V.str m=V.str (ds.getD (ds.length-1) zX).2.2):=λq=>ae ⟨QA.mp O,by injection q⟩;exact decide_eq_false this
      rw[bO];exact g.out
     .have bP:m∈yD tt.2:=by
       rcases a6 with h|h|h
       .exact absurd h ak
       .exact h
       .exfalso;obtain⟨dd,U,az⟩:=S4.mp h;unfold yo at U;have O:0<ds.length:=by
         cases ds with
         |nil=>simp at U
         |cons _ _=>simp
        have:ds.drop (ds.length-1)=[ds.getD (ds.length-1) zX]:=by
         have aV:ds.length-1<ds.length:=wN O;rw[QZ aV];have:ds.length-1+1=ds.length:=by exact lv aV
         rw[this,Nk];simp[aV]
        rw[this] at U;have:dd=ds.getD (ds.length-1) zX:=by simpa using U
        rw[this] at az;exact ae ⟨QA.mp O,az.symm⟩
      refine yi ?_;refine⟨_,J,_,J,a,xs,I,_,J,J,Ah.of (D _ _ ap),zy as,c,_,1,_,J,J,Ah.of (Z _ _ ar),zy (j:=1) J,d,J,⟨_,Ah.of (Z _ _ ag)⟩,λbg bh=>?_⟩;have bi:d≠bg:=zi (Z _ _ ag) bh;refine vf (λj=>if (tt.2.getD j yd).1==m then some (ys.getD j .non) else none) (λσ=>∃v,σ=[v,some (.str m)]) ⟨none,J⟩ bh (by omega) (tS (xs:=ys) (by rw[zh bi];exact Z _ _ ag) bi) (λj σ am C b7 ⟨v,aU⟩ bQ bR=>?_) (λσ am bj bk=>?_)
      .subst aU;obtain⟨bl,av,b8,al⟩:=vB ((vC (ds:=tt.2) (i:=j) a5 (by omega)).mono (Z.trans bQ).x);have aA:=bR [some (.ref bl),some (.str m)] am ⟨_,J⟩ (Aa.refl _);rw[av];refine⟨_,J,bl,_,0,_,J,J,Ah.of al,zy (j:=0) J,_,J,J,_,J,?_⟩;rw[lP];show if ((tt.2.getD j yd).1==m)=true then _ else _;cases g:(tt.2.getD j yd).1==m with
       |true=>
        rw[g,Qxb J,av] at aA;exact yS ⟨_,J,aA⟩
       |false=>
        rw[g,Qxa (by simp)] at aA;exact yi aA
      rw[aI] at bk;rcases eZ tt.2 yd (λd=>d.1==m) (λj=>ys.getD j .non) tt.2.length (X2 _) with⟨h1,h2⟩|⟨d',b9,af,h1,h2,h3,aB⟩
      .exfalso;rw[R1] at h1;obtain⟨dd,U,az⟩:=S4.mp bP;have:dd∈tt.2.filter (λd=>d.1==m):=T3.mpr ⟨U,by simpa using az⟩;rw[h1] at this;cases this
      rw[R1] at h1;rw[h1] at k;dsimp only at k;have aW:=D.trans bj;have bS:=Z.trans bj;obtain⟨aX,bT,ca,ao⟩:=vB ((vC (ds:=tt.2) (i:=af) a5 h2).mono bS.x);have h3:tt.2.getD af yd=d':=h3;have ao:am aX=some (.tup [.str (tt.2.getD af yd).1,.int (tt.2.getD af yd).2.1,.str (tt.2.getD af yd).2.2]):=ao;rw[h3] at ao;have aB:(yM (λi=>(if (tt.2.getD i yd).1==m then some (ys.getD i .non) else none).toList) tt.2.length)[0]?=some (ys.getD af .non):=aB;rw[bT] at aB;refine⟨bg,_,0,_,J,J,Ad.of bk,zy (j:=0) aB,?_⟩;have bm:=aW _ _ M;refine⟨_,J,.inl ⟨J,_,Ad.of bm⟩,_,J,_,J,aX,_,1,_,J,J,Ah.of ao,zy (j:=1) J,_,J,aX,_,2,_,J,J,Ah.of ao,zy (j:=2) J,by show (3:Nat)<=_;exact X6 _ _,λpt bn=>?_⟩;have bo:=Aa.new (o:=.tup [.int i,.int d'.2.1,.str d'.2.2]) bn;have bp:c' am pt (.tup [.int i,.int d'.2.1,.str d'.2.2]) pt=some (.tup [.int i,.int d'.2.1,.str d'.2.2]):=zd;have aY:=bo _ _ bm;have aZ:=aW.trans bo;have bU:pt≠z:=(br.same aW).ne bn;generalize c' am pt (.tup [.int i,.int d'.2.1,.str d'.2.2])=aC at bp aY aZ;refine⟨q,vs,_,J,J,aY,by exact pW L bu,?_⟩;have bV:d'.2.2.length<=1000:=by
       have bW:d'∈tt.2:=(T3.mp (by rw[h1];exact W8)).1;have:=(wm (aH.2.2 d' bW).2.2).1;exact zC this
      have bq:Ab z (c' aC q (.lst (vs++[.ref pt]))) (vs++[.ref pt]) ((ds++[((i:Int),d'.2.1,d'.2.2)]).map wK):=by
       refine Ab.updL aY ?_ (uU _);rw[T5];exact(W.mono aZ.x).append (.cons (.tup bp bU (.cons (.int _) (.cons (.int _) (.cons (.str _ bV) .nil)))) .nil)
      have a0:c' aC q (.lst (vs++[.ref pt])) q=some (.lst (vs++[.ref pt])):=zd;have a1:Ac q H (c' aC q (.lst (vs++[.ref pt]))):=aZ.x.c';generalize c' aC q (.lst (vs++[.ref pt]))=cb at bq a0 a1;refine⟨_,J,_,J,m,J,by exact zC a8,_,J,_,J,by show (5:Nat)<=_;exact X6 _ _,λp J0=>?_⟩;have aR:H p=none:=by
       cases e:H p with
       |none=>rfl
       |some o=>
        have aS:p≠q:=(zi a0 J0).symm;rw[a1 p o aS e] at J0;cases J0
      have a2:=Aa.new (o:=.tup [.int i,.int m.length,.str (YP "open"),.int I,.int vs.length]) J0;refine k p _ (a1.trans a2.x) aR ?_ ⟨_,a2 _ _ a0,bq.mono a2.x⟩;rw[zd,L];rfl
noncomputable abbrev eS:Str:=⟨#[]⟩
noncomputable def t9(l:List Str):Str:=l.foldl (λB m=>if B.length<m.length then m else B) eS
theorem db:∀(l:List Str) (B:Str),let r:=l.foldl (λB m=>if B.length<m.length then m else B) B
  (r=B∨r∈l)/\B.length<=r.length/\∀m∈l,m.length<=r.length
 |[],B=>⟨.inl J,X2 _,λm hm=>nomatch hm⟩
 |a::l,B=>by
  have F:=db l (if B.length<a.length then a else B);obtain⟨h1,h2,D⟩:=F;simp only[Nx];by_cases h:B.length<a.length
  .rw[Qxb h] at h1 h2 D ⊢;refine⟨?_,by exact S5 (RL h) h2,λm hm=>?_⟩
   .rcases h1 with h1|h1
    .exact .inr (by rw[h1];exact W8)
    .exact .inr (T7 _ h1)
   .rcases S7.mp hm with rfl|hm
    .exact h2
    .exact D m hm
  .rw[Qxa h] at h1 h2 D ⊢;refine⟨?_,h2,λm hm=>?_⟩
   .rcases h1 with h1|h1
    .exact .inl h1
    .exact .inr (T7 _ h1)
   .rcases S7.mp hm with rfl|hm
    .exact S5 (Qt.1 h) h2
    .exact D m hm
theorem qE{l:List Str}(D:∀m∈l,Sm m):(l=[]/\t9 l=eS)∨(t9 l∈l/\∀m∈l,m.length<=(t9 l).length):=by
 obtain⟨h1,h2,B⟩:=db l eS;cases l with
 |nil=>exact .inl ⟨J,J⟩
 |cons a r=>
  refine .inr ⟨?_,B⟩;rcases h1 with h1|h1
  .exfalso;have:=B a W8;have g:=(D a W8).1;rw[h1] at this;have:a.length<=0:=this;exact iK g this
  .exact h1
theorem de{x:Str}{m B:Str}(h:xc x i m=true)(h':xc x i B=true)(D:m.length=B.length):m=B:=by
 have a:=Qxc h;have c:=Qxc h';rw[D] at a;have:V.str m=V.str B:=a.symm.trans c;injection this
theorem VS{x:Str}{l ys:List Str}(G:∀m∈l,Sm m)(D:∀m∈l,xc x i m=true)(B:ys.Perm l)(hw:ys.Pairwise (λa c=>c.length<=a.length)):ys.headD eS=t9 l:=by
 rcases qE G with⟨h1,h2⟩|⟨h1,h2⟩
 .subst h1;have:ys=[]:=JJ B;subst this;rfl
 .cases ys with
  |nil=>
   have:l=[]:=JJ B.symm;rw[this] at h1;cases h1
  |cons a r=>
   show a=_;have F:a∈l:=B.mem_iff.mp W8;have hb:t9 l∈a::r:=B.mem_iff.mpr h1;have I:=h2 a F;have J0:(t9 l).length<=a.length:=by
    rcases S7.mp hb with e|hb
    .rw[e];exact X2 _
    .exact(List.pairwise_cons.mp hw).1 _ hb
   exact de (D a F) (D _ h1) (RU I J0)
noncomputable def zL(b:Bk)(ds:List zp)(x:Str)(i:Nat):Str:=t9 (xP b ds x i)
structure wR where
 b':Nat
 ds:List zp
 ss:List zQ
noncomputable def yQ(b:Bk)(x:Str)(r:wR):wR:=
 if r.b'<x.length then ⟨r.b'+((zN b r.ds x r.b' (zL b r.ds x r.b')).1.2.1).toNat,(zN b r.ds x r.b' (zL b r.ds x r.b')).2,r.ss++[(zN b r.ds x r.b' (zL b r.ds x r.b')).1]⟩ else r
noncomputable def zb(b:Bk)(x:Str):Nat->wR
 |0=>⟨0,[],[]⟩
 |n+1=>yQ b x (zb b x n)
noncomputable def As(b:Bk)(ds:List zp):Prop:=∀d∈ds,∃t∈b,∃B∈t.2,d.2.1=B.2.1/\d.2.2=B.2.2
theorem As.ok(h:As b ds)(B:∀t∈b,An b.length t):wn b ds:=λd D=>by
 obtain⟨t,ht,F,G,I,J0⟩:=h d D;obtain⟨O,L,M⟩:=(B t ht).2.2 F G;have g:=wm M;rw[I,J0];exact⟨L,g.2,g.1⟩
theorem se{x:Str}{i:Nat}(F:∀t∈b,An b.length t)(G:wn b ds):∀m∈xw b ds,Sm m:=λm hm=>by
 unfold xw at hm;rcases T6.mp hm with hm|hm
 .obtain⟨dd,B,rfl⟩:=S4.mp hm;by_cases D:(zI ds).toNat<b.length
  .have g:=wm ((F _ (yE zk D)).2.2 dd B).1;exact⟨g.2,g.1⟩
  .have e:b.getD (zI ds).toNat zk=zk:=by simp[D]
   rw[e] at B;cases B
 .obtain⟨dd,B,rfl⟩:=S4.mp hm;exact(G dd (Ou B)).2
theorem df{m:Str}(h:m∈(yo ds).map (·.2.2)):ds≠[]/\m=(ds.getD (ds.length-1) zX).2.2:=by
 obtain⟨dd,B,F⟩:=S4.mp h;unfold yo at B;have G:0<ds.length:=by
  cases ds with
  |nil=>simp at B
  |cons _ _=>simp
 have:ds.drop (ds.length-1)=[ds.getD (ds.length-1) zX]:=by
  have D:ds.length-1<ds.length:=wN G;rw[QZ D];have:ds.length-1+1=ds.length:=by exact lv D
  rw[this,Nk];simp[D]
 rw[this] at B;have:dd=ds.getD (ds.length-1) zX:=by simpa using B
 rw[this] at F;exact⟨QA.mp G,F.symm⟩
theorem jz{x m:Str}(h:xc x i m=true)(hi:i<=x.length):i+m.length<=x.length:=by
 have a:=Qxc h;have a:yC x (some (i:Int)) (some ((i:Int)+m.length))=m:=by injection a
 have B:(yC x (some (i:Int)) (some ((i:Int)+m.length))).length=m.length:=by rw[a]
 have e:((i:Int)+(m.length:Int))=((i+m.length:Nat):Int):=rfl;rw[e] at B;unfold yC at B;have B:(Jw ((x.cps.toList.drop (HT.sIx x.length 0 (some (i:Int)))).take (HT.sIx x.length x.length (some ((i+m.length:Nat):Int))-HT.sIx x.length 0 (some (i:Int))))).size=m.length:=B;rw[T4,QQ,Qw,HT.sIx_nat,HT.sIx_nat] at B;have:x.cps.toList.length=x.length:=by simp;rfl
 exact aq hi B
theorem vj{x:Str}(J0:∀t∈b,An b.length t)(B:As b ds)(W:1<=b.length)(hi:i<x.length) :
  let r:=zN b ds x i (zL b ds x i)
  1<=r.1.2.1/\r.1.2.1<=4/\(i:Int)+r.1.2.1<=x.length/\As b r.2/\r.2.length<=ds.length+1/\r.1.2.2.1.length<=10:=by
 have L:=B.ok J0;obtain⟨F,Y,Z⟩:=ue L W;have M:(zI ds).toNat=F:=by rw[Y];rfl
 have O:=se (x:=x) (i:=i) J0 L;have aa:=qE (l:=xP b ds x i) λm G=>O m (T3.mp G).1;have ab:∀m,m≠YP ""->m=zL b ds x i->m∈xw b ds/\xc x i m=true:=λm ac e=>by
  rcases aa with⟨_,h2⟩|⟨h1,_⟩
  .exfalso;apply ac;rw[e];unfold zL;rw[h2,wk]
  .rw[e];exact T3.mp h1
 intro r;show 1<=r.1.2.1/\_;have R:r=zN b ds x i (zL b ds x i):=rfl;generalize G:zL b ds x i=m at R;rw[R];unfold zN;rw[M];have ad:=yE zk Z;split
 .split
  .exact⟨by show (1:Int)<=1;decide,by show (1:Int)<=4;decide,by show (i:Int)+1<=_;omega,B,by show ds.length<=_;exact PF _,by show (YP "cut").length<=10;lia⟩
  .exact⟨by show (1:Int)<=2;decide,by show (2:Int)<=4;decide,by show (i:Int)+2<=_;omega,B,by show ds.length<=_;exact PF _,by show (YP "escape").length<=10;lia⟩
 .split
  .exact⟨by show (1:Int)<=1;decide,by show (1:Int)<=4;decide,by show (i:Int)+1<=_;exact wx hi,B,by show ds.length<=_;exact PF _,by show (YP "sign").length<=10;lia⟩
  .rename_i ae;obtain⟨D,af⟩:=ab m ae G.symm;obtain⟨S,U⟩:=O m D;have V:=jz af (RL hi);split
   .refine⟨by show (1:Int)<=m.length;exact uo S,by show (m.length:Int)<=4;exact uo U,by show (i:Int)+m.length<=_;exact uo V,λd hA=>B d (Nu _ hA),by show ds.dropLast.length<=_;simp;omega,by show (YP "close").length<=10;lia⟩
   .rename_i ag;split
    .rename_i d aj I;have ah:d∈(b.getD F zk).2:=(T3.mp (by rw[I];exact W8)).1;refine⟨by show (1:Int)<=m.length;exact uo S,by show (m.length:Int)<=4;exact uo U,by show (i:Int)+m.length<=_;exact uo V,λd' hA=>?_,by show (ds++[_]).length<=_;simp,by show (YP "open").length<=10;lia⟩;rcases T6.mp hA with hA|hA
     .exact B d' hA
     .have:d'=((i:Int),d.2.1,d.2.2):=by simpa using hA
      subst this;exact⟨_,ad,d,ah,J,J⟩
    .rename_i I;exfalso;unfold xw at D;rw[M] at D;rcases T6.mp D with h|h
     .obtain⟨dd,hA,ai⟩:=S4.mp h;have:dd∈(b.getD F zk).2.filter (λd=>d.1==m):=T3.mpr ⟨hA,by simpa using ai⟩;rw[I] at this;cases this
     .exact ag (df h)
theorem xf:∀B:List zQ,Av (B.map yb)
 |[]=>.nil
 |d::r=>.cons (.tup (.cons (.int _) (.cons (.int _) (.cons (.str _) (.cons (.int _) (.cons (.int _) .nil)))))) (xf r)
theorem VT(ys:List Str):xh (ys.map V.str) none (some (1:Int))=(ys.take 1).map V.str:=by
 unfold xh;have e:HT.sIx (ys.map V.str).length (ys.map V.str).length (some (1:Int))=min 1 (ys.map V.str).length:=HT.sIx_nat _ _ 1;rw[e,HT.sIx_none,Ot,Iw];cases ys<;>simp
structure dg(b:Bk)(x:Str)(r:wR):Prop where
 le:r.b'<=x.length
 bk:As b r.ds
 dl:r.ds.length<=r.b'
 sl:r.ss.length<=r.b'
theorem xm{b:Bk}{x:Str}(D:∀t∈b,An b.length t)(F:1<=b.length):∀n,dg b x (zb b x n)
 |0=>⟨X7 _,(λd G=>nomatch G),X7 _,X7 _⟩
 |n+1=>by
  have B:=xm D F (x:=x) n;show dg b x (yQ b x (zb b x n));unfold yQ;split
  .rename_i h;obtain⟨h1,h2,L,I,M,O⟩:=vj (x:=x) D B.bk F h;have R:=B.dl;have J0:=B.sl;refine⟨?_,I,?_,?_⟩
   .show (zb b x n).b'+_<=_;omega
   .show (zN b (zb b x n).ds x (zb b x n).b' (zL b (zb b x n).ds x (zb b x n).b')).2.length<=(zb b x n).b'+_;omega
   .show ((zb b x n).ss++[_]).length<=(zb b x n).b'+_;rw[X4];show _+1<=_;exact Ze h1 J0
  .exact B
theorem uV{x:Str}(h:(zb b x n).b'<x.length):zb b x (n+1)=⟨(zb b x n).b'+((zN b (zb b x n).ds x (zb b x n).b' (zL b (zb b x n).ds x (zb b x n).b')).1.2.1).toNat,(zN b (zb b x n).ds x (zb b x n).b' (zL b (zb b x n).ds x (zb b x n).b')).2,(zb b x n).ss++[(zN b (zb b x n).ds x (zb b x n).b' (zL b (zb b x n).ds x (zb b x n).b')).1]⟩:=by
 show yQ b x (zb b x n)=_;unfold yQ;rw[Qxb h]
theorem qF{x:Str}(h:(zb b x n).b'<x.length):(zb b x (n+1)).ds=(zN b (zb b x n).ds x (zb b x n).b' (zL b (zb b x n).ds x (zb b x n).b')).2:=by rw[uV h]
theorem uW{x:Str}(h:(zb b x n).b'<x.length):(zb b x (n+1)).ss=(zb b x n).ss++[(zN b (zb b x n).ds x (zb b x n).b' (zL b (zb b x n).ds x (zb b x n).b')).1]:=by rw[uV h]
inductive qG:Sp where
 |mk {vs:List V} {H:Hp} {Q:VK} {E:XK} (z v b x:_) (c1:vs=[v,.str x]) (c2:Am z H) (c3:Aj z H v (yp b)) (c4:yn b) (c5:x.length<=20000) (c6:∀p pf pd n H',Aa H H'->H' p=some (.lst [.ref pf,.ref pd])->(zb b x n).b'=x.length->Aj z H' (.ref pf) (.lst ((zb b x n).ss.map yb))->Ce z H' pd (zb b x n).ds->Q (.ref p) H'):qG vs H Q E
theorem BA:zK ["book","text","doors","found","place","marks"] ["book","text"] (zq jr):=zP
theorem VU(F:Ao K "_law_steps" "_law_steps" jr f fd)(T:yu mg)(aU:Cl P w K mg base 1 "_law_fitting" ["book","doors","text","place"] nE)(aV:Cl P w K mg base 1 "_law_step" ["book","doors","text","place","mark"] nH):Ag P w K mg base zD 2 f fd ["book","text"] qG:=by
 refine F.okA BA λg4 A outer s H vs Q E ay h=>?_;obtain⟨z,v,b,x,rfl,ad,R,ae,af,k⟩:=h;have aW:=ae;obtain⟨az,bB,Z,_⟩:=aW;have S:=BA.nd;refine⟨_,ze (zu (i:=2) S (zV zf))
  (ze (zu (i:=3) S (zV zf))
  (ze (zu (i:=4) S zg)
  (ze (uw Rn (zZ vb (pv 4) (zT yL (by rfl) T.len b_len (zz 1)) (zR _))
   (ze (zu (i:=5) S (zA aU ay (xO 0 2 1 4)))
   (ze (yy (yW U1 S8 S9 xC (pv 3) (zc (zA aV ay (zc (pv 0) (zc (pv 2) (zc (pv 1) (zc (pv 4) (zc (yW QM Od Oe XN z0 (zc (x0 tP (pv 5) vd (xz zg)) zf)) zf)))))) zf)))
   (zm (zu (i:=4) S (zG yO (pv 4) (zx Ai (zx Ae (pv 3) (wB wC zg) (λ_ _=>rfl)) zg (λ_ _=>rfl))))))))
  (zm (zB (zV (yk 3 2))))))),?_⟩
 dsimp only[zH,Cx.nox,Cx.wish];have bC:=yV;have bD:=yB;refine⟨X7 _,λG ag=>⟨X7 _,λB aa=>?_⟩⟩;have ah:=Aa.new (o:=.lst []) ag;have aA:=Aa.new (o:=.lst []) aa;have aB:=ah.trans aA;have aX:H B=none:=ah.free aa;have aC:G≠B:=zi (zd (H:=H) (a:=G) (o:=.lst [])) aa;have aY:G≠z:=ad.ne ag;have aZ:B≠z:=(ad.same ah).ne aa;refine uy (λσ J0=>∃n u,σ=[some v,some (.str x),some (.ref G),some (.ref B),some (.int (zb b x n).b'),u]/\Aa H J0/\Aj z J0 v (yp b)/\Ce z J0 G (zb b x n).ds/\∃D,J0 B=some (.lst D)/\Ab z J0 D ((zb b x n).ss.map yb))
  (λσ J0=>match σ[4]? with|some (some (V.int i))=>x.length-i.toNat|_=>0) ⟨0,none,J,aB,R.mono aB.x,⟨[],aA _ _ zd,.nil⟩,[],zd,.nil⟩ ?_ ?_
 .rintro σ J0 ⟨n,u,rfl,ai,aD,aj,D,ak,al⟩;have W:=xm (x:=x) Z az n;have a0:=W.le;refine⟨_,J,_,J,x,J,by exact zC af,_,_,J,J,_,J,?_⟩;refine yc (λI=>?_) (λI=>?_)
  .have I:(zb b x n).b'<x.length:=by have:=Qxc I;exact Qs.1 this
   show (xH _ _) _ _ _;refine yT λbE a1 _ _ _=>zt λU am=>?_;have bF:=W.dl;have bG:=W.sl;have ao:=W.bk.ok Z;have a2:=ad.same ai;refine⟨_,J,_,J,_,J,_,J,z,v,b,G,(zb b x n).ds,x,(zb b x n).b',J,aD,ae,aj,ao,af,λpm ys a3 M bH a4 aE pw=>am _ _ (zt λU am=>?_)⟩;have ap:∀m∈xP b (zb b x n).ds x (zb b x n).b',Sm m:=λm aq=>se (x:=x) (i:=(zb b x n).b') Z ao m (T3.mp aq).1;have a5:=VS ap (λm aq=>(T3.mp aq).2) aE pw;have a6:=M _ _ ak;refine⟨_,J,.inl ⟨J,_,Ad.of a6⟩,_,J,_,J,_,J,_,J,J,_,J,1,J,pm,_,J,Ad.of a4,λl a7=>?_⟩;have aF:=Aa.new (o:=.lst (xh (ys.map V.str) none (some (1:Int)))) a7;have a8:∀y∈ys.take 1,y.length<=1000:=λy a9=>by have:=(ap y (aE.mem_iff.mp (PM a9))).2;exact zC this
   refine⟨_,l,ys.take 1,J,J,Ad.of (by rw[zd,VT]),by rw[QQ];exact aS,by lia,a8,?_⟩;have ba:fG (ys.take 1)=zL b (zb b x n).ds x (zb b x n).b':=by
    unfold zL;rw[←a5];cases ys<;>rfl
   rw[ba];have O:=M.trans aF;have ar:=aD.mono O.x (z:=z);have as:=aj.same O;have aG:=O _ _ ak;have aH:=al.mono O.x (z:=z);have au:=a2.same O;have aI:=ai.trans O;generalize c' a3 l (.lst (xh (ys.map V.str) none (some (1:Int))))=bI at O ar as aG aH au aI aF;have bb:zL b (zb b x n).ds x (zb b x n).b'=YP ""∨zL b (zb b x n).ds x (zb b x n).b'∈xw b (zb b x n).ds:=by
    rcases qE ap with⟨_,h2⟩|⟨h1,_⟩
    .exact .inl (by unfold zL;rw[h2,wk])
    .exact .inr (T3.mp h1).1
   obtain⟨aJ,p2,p3,p4,p5,bc⟩:=vj (x:=x) Z W.bk az I;refine⟨z,v,b,G,(zb b x n).ds,x,_,(zb b x n).b',J,au,aY,ar,ae,as,ao,I,af,by omega,bb,λp L ab av aw aK=>?_⟩;rw[←qF I] at aK;have bd:p≠z:=au.ne av;obtain⟨bJ,aL,_⟩:=as;have be:=Aj.butL aL ab ar (.tup (wa b));have bf:=Ab.butL aL ab aH (xf _);have Y:=ab _ _ aC.symm aG;have bg:Aa H L:=λac o e=>ab ac o (zi e ag) (aI ac o e);have bK:D.length=(zb b x n).ss.length:=by have:=al.length;simpa using this
   refine⟨B,D,_,J,J,Y,by omega,am _ _ ?_⟩;have ax:c' L B (.lst (D++[.ref p])) B=some (.lst (D++[.ref p])):=zd;have bh:Aj z L (.ref p) (yb (zN b (zb b x n).ds x (zb b x n).b' (zL b (zb b x n).ds x (zb b x n).b')).1):=.tup aw bd (.cons (.int _) (.cons (.int _) (.cons (.str _ (zC bc)) (.cons (.int _) (.cons (.int _) .nil)))));have aM:Ab z (c' L B (.lst (D++[.ref p]))) (D++[.ref p]) ((zb b x (n+1)).ss.map yb):=by
    rw[uW I,T5];exact Ab.updL Y (bf.append (.cons bh .nil)) ((xf _).append (xf [_]))
   have aN:=Aj.updL (l':=D++[.ref p]) Y be (.tup (wa b));obtain⟨aO,bi,bj⟩:=aK;have aP:c' L B (.lst (D++[.ref p])) G=some (.lst aO):=by rw[zh aC];exact bi
   have aQ:=Ab.updL (l':=D++[.ref p]) Y bj (uU _);have aR:c' L B (.lst (D++[.ref p])) p=some (.tup (xQ (zN b (zb b x n).ds x (zb b x n).b' (zL b (zb b x n).ds x (zb b x n).b')).1)):=by
    rw[zh (zj aw Y)];exact aw
   have aT:Aa H (c' L B (.lst (D++[.ref p]))):=λac o e=>by rw[zh (zi e aX)];exact bg ac o e
   generalize c' L B (.lst (D++[.ref p]))=bL at ax aM aN aP aQ aR aT;refine⟨_,J,_,J,1,J,B,_,-1,_,J,J,Ad.of ax,YJ D (.ref p),p,_,1,_,J,J,Ah.of aR,zy (j:=1) J,_,_,J,J,?_⟩;have bk:((zb b x n).b':Int)+(zN b (zb b x n).ds x (zb b x n).b' (zL b (zb b x n).ds x (zb b x n).b')).1.2.1=((zb b x (n+1)).b':Int):=by
    rw[uV I];show _=((_+_:Nat):Int);exact lx aJ
   refine a1 _ _ ⟨⟨n+1,some (.ref pm),?_,aT,aN,⟨aO,aP,aQ⟩,_,ax,aM⟩,?_⟩
   .show [some v,some (.str x),some (.ref G),some (.ref B),some (V.int (((zb b x n).b':Int)+(zN b (zb b x n).ds x (zb b x n).b' (zL b (zb b x n).ds x (zb b x n).b')).1.2.1)),some (.ref pm)]=_;rw[bk]
   .show x.length-(((zb b x n).b':Int)+(zN b (zb b x n).ds x (zb b x n).b' (zL b (zb b x n).ds x (zb b x n).b')).1.2.1).toNat<x.length-((zb b x n).b':Int).toNat;exact lu I aJ
  .have bl:(zb b x n).b'=x.length:=by
    have:¬(((zb b x n).b':Int)<(x.length:Int)):=λq=>I (Qxd q);exact lC a0 this
   refine⟨_,J,_,J,by show (2:Nat)<=_;exact X6 _ _,λp av=>?_⟩;have M:=Aa.new (o:=.lst [.ref B,.ref G]) av;exact k p B G n _ (ai.trans M) zd bl (.lst (M _ _ ak) aZ (al.mono M.x)) (aj.same M)
 .rintro σ J0 bM bN bm ⟨bn,bo,bp,bq,br,bs,bt,bu,bv,bw,bx,bz,bA,h⟩;exact⟨bn,bo,bp,bq,br,bs,bt,bu,bv,bw,bx,bz,bA,bm _ _ h⟩
noncomputable def pdD(d:zp):D:=.tup [.int d.2.1,.str d.2.2]
theorem vF:∀ds:List zp,Av (ds.map pdD)
 |[]=>.nil
 |d::r=>.cons (.tup (.cons (.int _) (.cons (.str _) .nil))) (vF r)
noncomputable def AD(z:Addr)(H:Hp)(q:Addr)(ds:List zp):Prop:=∃vs,H q=some (.lst vs)/\Ab z H vs (ds.map pdD)
theorem AD.same(h:AD z H q ds)(s:Aa H H'):AD z H' q ds:=let ⟨vs,a,r⟩:=h;⟨vs,s _ _ a,r.mono s.x⟩
theorem nI(r:Aj z H v (pdD d)):∃a,v=.ref a/\a≠z/\H a=some (.tup [.int d.2.1,.str d.2.2]):=by
 cases r with
 |tup h B r=>
  cases r with
  |cons D r=>
   cases r with
   |cons F r=>
    cases r;cases D;cases F;exact⟨_,J,B,h⟩
theorem jA(r:Ab z H xs (ds.map pdD))(hi:i<ds.length):Aj z H (xs.getD i .non) (pdD (ds.getD i zX)):=by
 have:=r.get (i:=i) (by simpa using hi);simpa [hi] using this
theorem dh(F:Ab z H vs (ds.map pdD))(B:0<ds.length):∃ad,xi vs (-1)=some (.ref ad)/\H ad=some (.tup [.int (ds.getD (ds.length-1) zX).2.1,.str (ds.getD (ds.length-1) zX).2.2]):=by
 have D:vs.length=ds.length:=by have:=F.length;simpa using this
 obtain⟨ad,G,L,I⟩:=nI (jA (ds:=ds) (i:=ds.length-1) F (wN B));refine⟨ad,?_,I⟩;have J0:xA vs.length (-1)=some (vs.length-1):=by
  unfold xA;rw[Qxa (by decide),Qxb (by exact hX B D)];congr 1;exact sL
 unfold xi;rw[J0];show vs[vs.length-1]?=_;have h1:vs.length-1<vs.length:=rL B D;have h2:vs.getD (vs.length-1) .non=vs[vs.length-1]:=by simp[h1]
 rw[X1 h1,←h2,D,G]
inductive sf:Sp where
 |mk {vs:List V} {H:Hp} {Q:VK} {E:XK} (z q ds:_) (c1:vs=[.ref q]) (c2:AD z H q ds) (c3:Q (.int (zI ds)) H):sf vs H Q E
theorem Bp:zK ["doors","inner","close"] ["doors"] (zq kX):=zP
theorem VW(F:Ao K "tongue_within" "tongue_within" kX f fd):Ag P w K mg base zD 1 f fd ["doors"] sf:=by
 refine F.okA Bp λg4 A outer s H vs Q E R h=>?_;obtain⟨z,q,ds,rfl,⟨vs,I,J0⟩,k⟩:=h;have L:=Bp.nd;have B:vs.length=ds.length:=by have:=J0.length;simpa using this
 refine⟨_,ze (ya (xr (uB (pv 0) (λ_=>rfl))) (zm (zB zg)) ye)
  (ze (xt (zx Ae (pv 0) (wB wC zg) (λ_ _=>rfl)) (yR J (zF (zw (i:=1) L) (zF (zw (i:=2) L) yJ))))
  (zm (zB (pv 1)))),?_⟩
 dsimp only[zH,Cx.nox,Cx.wish];refine⟨_,J,_,.inl ⟨vs,Ad.of I,J⟩,?_⟩;by_cases D:0<ds.length
 .have G:(!vs.isEmpty)=true:=by
   cases vs with
   |nil=>simp at B;exact(i9 D B).elim
   |cons _ _=>rfl
  rw[G];obtain⟨ad,M,O⟩:=dh J0 D;refine yi ?_;refine⟨_,J,1,J,q,vs,-1,_,J,J,Ad.of I,M,ad,_,J,Ah.of O,J,_,_,J,_,_,J,J,_,J,?_⟩;rw[jy D] at k;exact k
 .have G:(!vs.isEmpty)=false:=by
   cases vs with
   |nil=>rfl
   |cons _ _=>simp at B;omega
  rw[G];refine yS ?_;have:ds=[]:=Ry (by omega);subst this;exact k
noncomputable abbrev Mk:=Str×Option Dr
variable {y:Mk}
noncomputable def nJ:Option Dr->D
 |none=>.non
 |some d=>vg d
noncomputable def wb(m:Mk):D:=.tup [.str m.1,nJ m.2]
noncomputable def zY(b:Bk)(ds:List zp):List Mk:=(yo ds).map (λd=>(d.2.2,none))++(b.getD (zI ds).toNat zk).2.map λd=>(d.1,some d)
theorem di(d:Dr):xJ (vg d):=.tup (.cons (.str _) (.cons (.int _) (.cons (.str _) .nil)))
theorem jB(m:Mk):xJ (wb m):=by
 obtain⟨x,o⟩:=m;cases o with
 |none=>exact .tup (.cons (.str _) (.cons .non .nil))
 |some d=>exact .tup (.cons (.str _) (.cons (di d) .nil))
theorem nK:∀ms:List Mk,Av (ms.map wb)
 |[]=>.nil
 |d::r=>.cons (jB d) (nK r)
inductive qH:Sp where
 |mk {vs:List V} {H:Hp} {Q:VK} {E:XK} (z v b q ds:_) (c1:vs=[v,.ref q]) (c2:Am z H) (c3:Aj z H v (yp b)) (c4:yn b) (c5:AD z H q ds) (c6:wn b ds) (c7:∀p ws H',Aa H H'->H p=none->H' p=some (.lst ws)->Ab z H' ws ((zY b ds).map wb)->Q (.ref p) H'):qH vs H Q E
theorem dj(h:0<ds.length):yo ds=[ds.getD (ds.length-1) zX]:=by
 have B:ds.length-1<ds.length:=wN h;unfold yo;rw[QZ B];have:ds.length-1+1=ds.length:=by exact lv B
 rw[this,Nk];simp[B]
theorem uf{B:Type}{xs:List B}(d:B)(h:i<xs.length):xs.getD i d=xs[i]:=by simp[h]
theorem BP:zK ["book","doors","marks","inner","close","escape","ways","door"] ["book","doors"] (zq kY):=zP
theorem VX(F:Ao K "possible_marks" "possible_marks" kY f fd)(aO:Cl P w K mg base 1 "tongue_within" ["doors"] sf):Ag P w K mg base zD 2 f fd ["book","doors"] qH:=by
 refine F.okA BP λg4 A outer s H vs Q E aP h=>?_;obtain⟨z,v,b,q,ds,rfl,ak,aQ,aR,⟨vs,ae,al⟩,aB,k⟩:=h;obtain⟨a,xs,rfl,bc,aS,aT,R⟩:=uS aQ;obtain⟨aU,bd,aV,_⟩:=aR;have L:=BP.nd;have be:=yV;have af:vs.length=ds.length:=by have:=al.length;simpa using this
 refine⟨_,ze (zu (i:=2) L (zV zf))
  (ze (ya (uB (pv 1) (λ_=>rfl)) (ze (xt (zx Ae (pv 1) (wB wC zg) (λ_ _=>rfl)) (yR J (zF (zw (i:=3) L) (zF (zw (i:=4) L) yJ))))
   (zm (yy (yW U1 S8 S9 xC (pv 2) (zc (yl (zc (pv 4) (zc sM zf))) zf))))) ye)
  (ze (xt (zx Ai (pv 0) (zA aO aP (zz 1)) (λ_ _=>rfl)) (yR J (zF (zw (i:=5) L) (zF (zw (i:=6) L) yJ))))
  (ze (xu Rn J (xX (pv 6)) (zw (i:=7) L)
   (zm (yy (yW U1 S8 S9 xC (pv 2) (zc (yl (zc (zx Ai (pv 7) zg (λ_ _=>rfl)) (zz 7))) zf)))))
  (zm (zB (pv 2)))))),?_⟩
 dsimp only[zH,Cx.nox,Cx.wish];refine⟨X7 _,λpm M=>?_⟩;have O:=Aa.new (o:=.lst []) M;have bf:q≠pm:=zi ae M;have bg:pm≠z:=ak.ne M;dsimp only;refine qf (J0:=λσ' H2=>∃(S W:Option V),σ'=[some (.ref a),some (.ref q),some (.ref pm),S,W,none,none,none]/\Aa H H2/\∃B,H2 pm=some (.lst B)/\Ab z H2 B (((yo ds).map λd=>((d.2.2,none):Mk)).map wb)) (λU J0=>?g1) ?g2
 case g1=>
  refine⟨_,J,_,.inl ⟨vs,Ad.of (O _ _ ae),J⟩,?_⟩;refine yc (λam=>?_) (λam=>?_)
  case refine_1=>
   have ao:0<ds.length:=by
    cases vs with
    |nil=>simp at am
    |cons _ _=>simp at af;exact pY af
   obtain⟨ad,aW,aX⟩:=dh (al.mono O.x) ao;refine⟨_,J,1,J,q,vs,-1,_,J,J,Ad.of (O _ _ ae),aW,ad,_,J,Ah.of aX,J,_,_,J,_,_,J,J,_,J,.inl ⟨J,_,Ad.of zd⟩,_,J,by show (2:Nat)<=_;exact X6 _ _,λpt Y=>?_⟩;have aC:=Aa.new (o:=.tup [.str (ds.getD (ds.length-1) zX).2.2,.non]) Y;have Z:c' (c' H pm (.lst [])) pt (.tup [.str (ds.getD (ds.length-1) zX).2.2,.non]) pt=some (.tup [.str (ds.getD (ds.length-1) zX).2.2,.non]):=zd;have ap:pt≠z:=(ak.same O).ne Y;have aq:=aC pm _ zd;have aD:=O.trans aC;generalize c' (c' H pm (.lst [])) pt (.tup [.str (ds.getD (ds.length-1) zX).2.2,.non])=H1 at Z aq aD;refine⟨pm,[],_,J,J,aq,by show (0:Nat)<_;exact Qy _,?_⟩;have G:Aa H (c' H1 pm (.lst ([]++[.ref pt]))):=λar o e=>by rw[zh (zi e M)];exact aD ar o e
   have as:∃B,c' H1 pm (.lst ([]++[.ref pt])) pm=some (.lst B)/\Ab z (c' H1 pm (.lst ([]++[.ref pt]))) B (((yo ds).map λd=>((d.2.2,none):Mk)).map wb):=by
    refine⟨_,zd,Ab.updL aq ?_ (nK _)⟩;rw[dj ao];have aY:=(aB _ (yE zX (i:=ds.length-1) (wN ao))).2;exact .cons (.tup Z ap (.cons (.str _ (by have:=aY.2;exact zC this)) (.cons .non .nil))) .nil
   exact J0 _ _ ⟨_,_,J,G,as⟩
  case refine_2=>
   have aZ:ds.length=0:=by
    cases vs with
    |nil=>simp at af;exact RH af
    |cons _ _=>simp at am
   have G:=O;have as:∃B,c' H pm (.lst []) pm=some (.lst B)/\Ab z (c' H pm (.lst [])) B (((yo ds).map λd=>((d.2.2,none):Mk)).map wb):=by
    refine⟨[],zd,?_⟩;have:ds=[]:=Ry aZ;rw[this];exact .nil
   exact J0 _ _ ⟨_,_,J,G,as⟩
 case g2=>
  rintro σ' H2 ⟨S,W,rfl,G,B,hw,a0⟩;obtain⟨I,aE,av⟩:=ue aB aU;obtain⟨c,d,ys,a1,bh,bi,a2,aw,ax,a3⟩:=vh ((vi (b:=b) (i:=I) R av).mono G.x);have a4:xs[I]?=some (.ref c):=by
   have h1:I<xs.length:=zU av aT;have h2:xs.getD I .non=xs[I]:=by simp[h1]
   rw[X1 h1,←h2,a1]
  have aF:b.getD (zI ds).toNat zk=b.getD I zk:=by rw[aE];rfl
  have aG:=aV _ (yE zk av);have ax:ys.length=(b.getD I zk).2.length:=ax;have aH:zY b ds=(yo ds).map (λd=>((d.2.2,none):Mk))++(b.getD I zk).2.map λd=>(d.1,some d):=by unfold zY;rw[aF]
  rw[aH] at k;clear aH aF;generalize bj:b.getD I zk=tt at *;have a5:=aG.2.1;have a6:(yo ds).length<=1:=by unfold yo;rw[Qw];exact lr
  refine⟨_,J,_,J,z,q,ds,J,⟨vs,G _ _ ae,al.mono G.x⟩,a,xs,zI ds,_,J,J,Ah.of (G _ _ aS),by rw[aE];exact zy a4,c,_,J,Ah.of a2,J,_,_,J,_,_,J,J,?_⟩;refine⟨_,J,d,J,⟨_,Ah.of aw⟩,ux (K:=K) (a:=d) (xs:=ys) (λi σ D=>∃S W u,σ=[some (.ref a),some (.ref q),some (.ref pm),S,W,some (.str tt.1),some (.ref d),u]/\Aa H D/\Ac pm H2 D/\∃B,D pm=some (.lst B)/\Ab z D B (((yo ds).map (λd=>((d.2.2,none):Mk))++(tt.2.take i).map λd=>(d.1,some d)).map wb))
   ⟨_,_,none,J,G,.refl,B,hw,by simpa using a0⟩ (λj σ D _ ⟨_,_,_,_,_,s,_⟩=>Ah.of (s _ _ (zj aw hw) aw)) ?_ ?_⟩
  .rintro j y σ D aI ⟨S,W,u,rfl,ag,ay,ah,ai,aa⟩;have aj:j<tt.2.length:=by have:=(W5.mp aI).1;omega
   have a7:y=ys.getD j .non:=by rw[XP,aI];rfl
   have az:Aj z D (ys.getD j .non) (vg (tt.2.getD j yd)):=Aj.butL hw ay (vC (ds:=tt.2) (i:=j) a3 aj) (di _);obtain⟨ab,aJ,bk,a8⟩:=vB az;have a9:=aG.2.2 _ (yE yd aj);rw[aJ] at az;rw[a7,aJ];have ba:ah.length<=10:=by
    have:=aa.length;simp at this;exact au a5 a6 this
   refine⟨_,J,.inl ⟨J,_,Ad.of ai⟩,_,J,ab,_,0,_,J,J,Ah.of a8,zy (j:=0) J,_,J,by show (2:Nat)<=_;exact X6 _ _,λpt Y=>?_⟩;have ac:=Aa.new (o:=.tup [.str (tt.2.getD j yd).1,.ref ab]) Y;have Z:c' D pt (.tup [.str (tt.2.getD j yd).1,.ref ab]) pt=some (.tup [.str (tt.2.getD j yd).1,.ref ab]):=zd;have ap:pt≠z:=(ak.same ag).ne Y;have aA:=ac _ _ ai;have aK:=aa.mono ac.x (z:=z);have aL:=az.mono ac.x (z:=z);have aM:=ag.trans ac;have aN:=ay.trans ac.x;generalize c' D pt (.tup [.str (tt.2.getD j yd).1,.ref ab])=bl at Z aA aK aL aM aN;refine⟨pm,ah,_,J,J,aA,by exact vJ ba,?_⟩;have g1:=wm a9.1;refine⟨_,_,_,J,λar o e=>by rw[zh (zi e M)];exact aM ar o e,aN.c',_,zd,?_⟩;refine Ab.updL aA ?_ (nK _);have bb:(tt.2.take (j+1)).map (λd=>((d.1,some d):Mk))=(tt.2.take j).map (λd=>((d.1,some d):Mk))++[((tt.2.getD j yd).1,some (tt.2.getD j yd))]:=by
    rw[QK,X1 aj,uf yd aj,T5];rfl
   rw[bb,←Q8,T5];exact aK.append (.cons (.tup Z ap (.cons (.str _ (zC g1.1)) (.cons aL .nil))) .nil)
  .rintro σ D ⟨S,W,u,rfl,ag,ay,ah,ai,aa⟩;rw[ax,R1] at aa;exact⟨_,J,k pm ah D ag M ai aa⟩
theorem qI{J0:It}{g:TG}{tt:TT}{te:TE}{Qe:St->Hp->Prop}{Z:St}{H0:Hp}{item:Nat->V}(keep:Nat->Bool)(G:Nat->D)(I:St->Prop)(ai:I Z)(aa:H0 p=none)(aq:n<=100000)(S:uK J0 n item (c' H0 p (.lst [])) p)(aj:∀i,xJ (G i))(turn:∀i σ H (ab:V->St->Hp->Prop) (ac:St->Hp->Prop),i<n->I σ->Aa H0 H->(keep i=true->∀F v B,I F->Aa H B->Aj z B v (G i)->ab v F B)->(keep i=false->∀F B,I F->Aa H B->ac F B) ->
   g (item i) σ H λF H2=>tt F H2 λb ad=>if b=true then te F ad λv B=>ab v F B else ac F ad)(ak:∀σ H vs,Aa H0 H->H p=some (.lst vs)->Ab z H vs (((RO n).filter keep).map G)->Qe σ H):vw J0 g tt (tR p te) Qe Z (c' H0 p (.lst [])):=by
 have al:Aa H0 (c' H0 p (.lst [])):=Aa.new aa;have ae:∀ {H},Ac p (c' H0 p (.lst [])) H->Aa H0 H:=λ{H} h b o e=>h b o (zi e aa) (al b o e);have am:∀l:List Nat,Av (l.map G):=λl=>by
  induction l with
  |nil=>exact .nil
  |cons a r ao=>exact .cons (aj a) ao
 refine⟨λi m σ H=>m=n-i/\i<=n/\I σ/\Ac p (c' H0 p (.lst [])) H/\∃vs,H p=some (.lst vs)/\vs.length<=i/\Ab z H vs (((RO i).filter keep).map G),⟨n,J,X7 _,ai,.refl,[],zd,X2 _,.nil⟩,?_⟩;rintro i m σ H ⟨rfl,hi,ap,L,vs,U,af,R⟩;by_cases O:i<n
 .refine .inr ⟨S.go i H O L,λσ' H'=>I σ'/\Ac p (c' H0 p (.lst [])) H'/\∃vs,H' p=some (.lst vs)/\vs.length<=i+1/\Ab z H' vs (((RO (i+1)).filter keep).map G),λσ' H' ⟨a,b,c⟩=>⟨n-(i+1),by exact vK O,J,O,a,b,c⟩,λx H' y=>?_⟩;obtain⟨rfl,rfl⟩:=S.yld i H x H' O L y;have ag:((RO (i+1)).filter keep).map G=((RO i).filter keep).map G++(if keep i then [G i] else []):=by
   rw[M5,OQ,T5];cases g:keep i<;>simp[g]
  refine turn i σ H' (λv F B=>∃ys,B p=some (.lst ys)/\ys.length<sizeLine/\(I F/\Ac p (c' H0 p (.lst [])) (c' B p (.lst (ys++[v])))/\∃vs,c' B p (.lst (ys++[v])) p=some (.lst vs)/\vs.length<=i+1/\Ab z (c' B p (.lst (ys++[v]))) vs (((RO (i+1)).filter keep).map G))) _ O ap (ae L) (λW F v B Y M R2=>?_) λW F B Y M=>?_
  .have ah:=M _ _ U;have ar:(100000:Nat)<sizeLine:=by rw[Qo];decide
   refine⟨vs,ah,by omega,Y,(L.trans M.x).c',vs++[v],zd,by simp;exact af,?_⟩;refine Ab.updL ah ?_ (am _);rw[ag,W];exact(R.mono M.x).append (.cons R2 .nil)
  .refine⟨Y,L.trans M.x,vs,M _ _ U,by exact R9 af,?_⟩;rw[ag,W];simpa using R.mono M.x
 .have e:i=n:=RU hi (Qt.1 O);subst e;exact .inl ⟨S.stop H L,ak σ H vs (ae L) U R⟩
theorem dk{B D:Type}(xs:List B)(d:B)(p:B->Bool)(f:B->D):((RO xs.length).filter λi=>p (xs.getD i d)).map (λi=>f (xs.getD i d))=(xs.filter p).map f:=by
 have e:(RO xs.length).map (λi=>xs.getD i d)=xs:=by
  refine Pt (by simp) λi h1 h2=>?_;simp at h1;simp[h1]
 have:(xs.filter p).map f=(((RO xs.length).map (λi=>xs.getD i d)).filter p).map f:=by rw[e]
 rw[this,OJ,R6];rfl
noncomputable def zE(b:Bk)(ds:List zp)(x:Str)(i:Nat):List Mk:=(zY b ds).filter λm=>xk x m.1 i
noncomputable abbrev yq:Mk:=(⟨#[]⟩,none)
theorem uX{m:Mk}(r:Aj z H v (wb m)):∃a u,v=.ref a/\a≠z/\H a=some (.tup [.str m.1,u])/\m.1.length<=1000/\Aj z H u (nJ m.2):=by
 cases r with
 |tup h B r=>
  cases r with
  |cons D r=>
   cases r with
   |cons F r=>
    cases r;cases D with
    |str _ h1=>exact⟨_,_,J,B,h,h1,F⟩
theorem uY{ms:List Mk}(r:Ab z H xs (ms.map wb))(hi:i<ms.length):Aj z H (xs.getD i .non) (wb (ms.getD i yq)):=by
 have:=r.get (i:=i) (by simpa using hi);simpa [hi] using this
inductive sg:Sp where
 |mk {vs:List V} {H:Hp} {Q:VK} {E:XK} (z v b q ds x:_) (i:Nat) (c1:vs=[v,.str x,.int i,.ref q]) (c2:Am z H) (c3:Aj z H v (yp b)) (c4:yn b) (c5:AD z H q ds) (c6:wn b ds) (c7:∀p ws H',Aa H H'->H p=none->H' p=some (.lst ws)->Ab z H' ws ((zE b ds x i).map wb)->Q (.ref p) H'):sg vs H Q E
theorem VY:zK ["book","text","place","doors"] ["book","text","place","doors"] (zq o5):=zP
theorem dm:(["mark","door","place","text"]:List Str).Nodup:=by lia
theorem jC(B:∀t∈b,An b.length t):(zY b ds).length<=10:=by
 unfold zY;have h1:(yo ds).length<=1:=by unfold yo;rw[Qw];exact lr
 have h2:(b.getD (zI ds).toNat zk).2.length<=6:=by
  by_cases h:(zI ds).toNat<b.length
  .exact(B _ (yE zk h)).2.1
  .have:b.getD (zI ds).toNat zk=zk:=by simp[h]
   rw[this];exact X7 _
 rw[X4,X5,X5];omega
theorem VZ(F:Ao K "fitting_marks" "fitting_marks" o5 f fd)(W:Cl P w K mg base 2 "possible_marks" ["book","doors"] qH):Ag P w K mg base zD 3 f fd ["book","text","place","doors"] sg:=by
 refine F.okA VY λg4 A outer s H vs Q E Y h=>?_;obtain⟨z,v,b,q,ds,x,i,rfl,J0,Z,L,aa,ab,k⟩:=h;refine⟨_,zm (zB (xS (N':=["mark","door","place","text"]) (js:=[none,none,some 2,some 1]) J J (yZ (zq o5) (by lia)) ⟨J,Or.inr (Or.inl J),J,J,Or.inr (Or.inl J),J,trivial⟩ (xb (zA W Y (yk 0 3)))
   (λcl s H fp=>qc 2 rfl (zF (wA (i:=0) dm J (Or.inl J) (Or.inr J)) (zF (wA (i:=1) dm J (Or.inl J) (Or.inr J)) yJ)))
   (λcl s H fp=>vt (xa (kP QM Oj Ol Xh (pv 3) (yk 0 2))))
   (λcl s H fp=>yl (yk 0 1)))),?_⟩
 dsimp only[zH,Cx.nox,Cx.wish];have ao:=yV;refine⟨_,J,_,J,z,v,b,q,ds,J,J0,Z,L,aa,ab,λl M H1 B ap D O=>?_⟩;have ac:=jC (ds:=ds) L.2.2.1;have G:M.length=(zY b ds).length:=by have:=O.length;simpa using this
 refine⟨l,J,⟨_,Ad.of D⟩,λp I=>?_⟩;have R:l≠p:=zi D I;refine qI (z:=z) (λj=>xk x ((zY b ds).getD j yq).1 i) (λj=>wb ((zY b ds).getD j yq)) (λσ=>∃u v,σ=[u,v,some (.int i),some (.str x)]) ⟨none,none,J⟩ I (ww G ac) (x8 (xs:=M) (by rw[zh R];exact D) R) (λj=>jB _) (λj σ H2 aq ar ad ⟨u,v,ae⟩ S af ag=>?_) (λσ H2 vs ah ai R2=>?_)
 .subst ae;have aj:=(uY (ms:=zY b ds) (i:=j) O (zU ad (RH G))).mono S.x (z:=z);obtain⟨a,u,e,as,ak,al,am⟩:=uX aj;rw[e];refine⟨a,_,J,Ah.of ak,J,_,_,J,_,_,J,J,?_⟩;refine⟨_,J,J,_,J,_,J,_,_,i,J,J,_,J,?_⟩;refine yc (λh=>?_) (λh=>?_)
  .refine⟨_,J,_,J,by show (2:Nat)<=_;exact X6 _ _,λpt U=>?_⟩;have V:=Aa.new (o:=.tup [.str ((zY b ds).getD j yq).1,u]) U;refine af h _ _ _ ⟨_,_,J⟩ V (.tup zd (((J0.same B).same S).ne U) (.cons (.str _ al) (.cons (am.mono V.x) .nil)))
  .exact ag (by simpa using h) _ _ ⟨_,_,J⟩ (Aa.refl _)
 .rw[G,dk (zY b ds) yq (λm=>xk x m.1 i) wb] at R2;exact k p vs H2 (B.trans ah) (B.free I) ai R2
noncomputable def yH(ds:List zp)(i:Nat)(m:Str):Option Dr->zQ×List zp
 |none=>(((i:Int),(m.length:Int),YP "close",zI ds.dropLast,(ds.length:Int)-1),ds.dropLast)
 |some d=>(((i:Int),(m.length:Int),YP "open",zI ds,(ds.length:Int)),ds++[((i:Int),d.2.1,d.2.2)])
theorem dn{d:Dr}(r:Aj z H v (vg d)):∃a,v=.ref a/\a≠z/\H a=some (.tup [.str d.1,.int d.2.1,.str d.2.2])/\d.2.2.length<=1000:=by
 cases r with
 |tup h B r=>
  cases r with
  |cons D r=>
   cases r with
   |cons F r=>
    cases r with
    |cons G r=>
     cases r;cases D;cases F;cases G with
     |str _ I=>exact⟨_,J,B,h,I⟩
inductive rn:Sp where
 |mk {vs:List V} {H:Hp} {Q:VK} {E:XK} (z m u o:_) (i:Nat) (q ds:_) (c1:vs=[.str m,u,.int i,.ref q]) (c2:Am z H) (c3:q≠z) (c4:Aj z H u (nJ o)) (c5:m.length<=1000) (c6:AD z H q ds) (c7:ds.length<=20000) (c8:(o=none->0<ds.length)) (c9:∀p H',Ac q H H'->H p=none->H' p=some (.tup (xQ (yH ds i m o).1))->AD z H' q (yH ds i m o).2->Q (.ref p) H'):rn vs H Q E
noncomputable def yz(b:Bk)(ds:List zp)(x:Str)(i:Nat):zQ:=
 if (⟨#[x.cps.getD i 0]⟩:Str)=(b.getD (zI ds).toNat zk).1 then
  (if i+1<x.length then ((i:Int),2,YP "escape",zI ds,(ds.length:Int)) else ((i:Int),1,YP "cut",zI ds,(ds.length:Int)))
 else ((i:Int),1,YP "sign",zI ds,(ds.length:Int))
inductive rp:Sp where
 |mk {vs:List V} {H:Hp} {Q:VK} {E:XK} (z v b q ds x:_) (i:Nat) (c1:vs=[v,.str x,.int i,.ref q]) (c2:Aj z H v (yp b)) (c3:yn b) (c4:AD z H q ds) (c5:wn b ds) (c6:i<x.length) (c7:x.length<=20000) (c8:∀p H',Aa H H'->H p=none->H' p=some (.tup (xQ (yz b ds x i)))->Q (.ref p) H'):rp vs H Q E
theorem Bv:zK ["mark","door","place","doors","step","opening","inner","close"] ["mark","door","place","doors"] (zq kZ):=zP
theorem V0(F:Ao K "take_mark" "take_mark" kZ f fd)(T:yu mg)(Y:Cl P w K mg base 1 "tongue_within" ["doors"] sf):Ag P w K mg base zD 2 f fd ["mark","door","place","doors"] rn:=by
 refine F.okA Bv λg4 A outer s H vs Q E Z h=>?_;obtain⟨z,m,u,o,i,q,ds,rfl,ag,ap,aa,ab,⟨vs,B,L⟩,ah,ai,k⟩:=h;have M:=Bv.nd;have aq:=yV;have ar:=yB;have O:vs.length=ds.length:=by have:=L.length;simpa using this
 refine⟨_,ze (ya (zZ gu (pv 1) sM (zR _))
   (ze (yy (tQ U1 Ob Oc oC (pv 3)))
   (zm (zB (yl (zc (pv 2) (zc (zT yL (by rfl) T.len b_len (zz 0)) (zc z0 (zc (zA Y Z (zz 3)) (zc (zT xB (by rfl) T.len b_len (zz 3)) zf))))))))) ye)
  (ze (zu (i:=4) M (yl (zc (pv 2) (zc (zT yL (by rfl) T.len b_len (zz 0)) (zc z0 (zc (zA Y Z (zz 3)) (zc (zT xB (by rfl) T.len b_len (zz 3)) zf)))))))
  (ze (xt (pv 1) (yR J (zF (zw (i:=5) M) (zF (zw (i:=6) M) (zF (zw (i:=7) M) yJ)))))
  (ze (yy (yW U1 S8 S9 xC (pv 3) (zc (yl (yk 6 7)) zf)))
  (zm (zB (pv 4)))))),?_⟩
 dsimp only[zH,Cx.nox,Cx.wish];cases o with
 |none=>
  cases aa;have ac:=ai rfl;refine⟨_,J,J,_,J,?_⟩;refine yS ?_;refine⟨_,J,.inl ⟨J,_,Ad.of B⟩,q,vs,_,J,J,B,kU (rL ac O),?_⟩;have I:c' H q (.lst vs.dropLast) q=some (.lst vs.dropLast):=zd;have S:Ab z (c' H q (.lst vs.dropLast)) vs.dropLast (ds.dropLast.map pdD):=by
   rw[Q2];exact Ab.updL B L.dropLast (by rw[←Q2];exact vF _)
  have U:Ac q H (c' H q (.lst vs.dropLast)):=Ac.refl.c';generalize c' H q (.lst vs.dropLast)=H1 at I S U;refine⟨_,J,_,J,m,J,by exact zC ab,_,J,z,q,ds.dropLast,J,⟨_,I,S⟩,_,J,q,_,J,.inl (Ad.of I),by show (5:Nat)<=_;exact X6 _ _,λp D=>?_⟩;have aj:H p=none:=by
   cases e:H p with
   |none=>rfl
   |some o=>
    have ak:p≠q:=(zi I D).symm;rw[U p o ak e] at D;cases D
  have G:=Aa.new (o:=.tup [.int i,.int m.length,.str (YP "close"),.int (zI ds.dropLast),.int vs.dropLast.length]) D;refine k p _ (U.trans G.x) aj ?_ ⟨_,G _ _ I,S.mono G.x⟩;rw[zd];have:((vs.dropLast.length:Nat):Int)=(ds.length:Int)-1:=by simp;exact Zf O ac
  rw[this];rfl
 |some d=>
  obtain⟨a,rfl,as,al,am⟩:=dn aa;refine⟨_,J,J,_,J,?_⟩;refine yi ?_;refine⟨_,J,_,J,m,J,by exact zC ab,_,J,z,q,ds,J,⟨_,B,L⟩,_,J,q,_,J,.inl (Ad.of B),by show (5:Nat)<=_;exact X6 _ _,λp D=>?_⟩;have J0:=Aa.new (o:=.tup [.int i,.int m.length,.str (YP "open"),.int (zI ds),.int vs.length]) D;have ad:c' H p (.tup [.int i,.int m.length,.str (YP "open"),.int (zI ds),.int vs.length]) p=some (.tup (xQ (yH ds i m (some d)).1)):=by
   rw[zd,O];rfl
  generalize c' H p (.tup [.int i,.int m.length,.str (YP "open"),.int (zI ds),.int vs.length])=H1 at J0 ad;refine⟨_,J,a,_,J,Ah.of (J0 _ _ al),J,_,_,J,_,_,J,_,_,J,J,?_⟩;refine⟨_,J,.inl ⟨J,_,Ad.of (J0 _ _ B)⟩,_,J,_,J,by show (2:Nat)<=_;exact X6 _ _,λpt ae=>?_⟩;have G:=Aa.new (o:=.tup [.int d.2.1,.str d.2.2]) ae;have af:c' H1 pt (.tup [.int d.2.1,.str d.2.2]) pt=some (.tup [.int d.2.1,.str d.2.2]):=zd;have ao:pt≠z:=(ag.same J0).ne ae;have R:=J0.trans G;have V:=G _ _ ad;generalize c' H1 pt (.tup [.int d.2.1,.str d.2.2])=H2 at af R V;have W:=R _ _ B;refine⟨q,vs,_,J,J,W,by exact pW O ah,?_⟩;refine⟨_,J,?_⟩;refine k p _ (R.x.c') D ?_ ⟨_,zd,?_⟩
  .rw[zh (zj V W)];exact V
  .refine Ab.updL W ?_ (vF _);show Ab z H2 _ ((ds++[((i:Int),d.2.1,d.2.2)]).map pdD);rw[T5];exact(L.mono R.x).append (.cons (.tup af ao (.cons (.int _) (.cons (.str _ am) .nil))) .nil)
theorem Bl:zK ["book","text","place","doors","tongue","escape","ways"] ["book","text","place","doors"] (zq k9):=zP
theorem V1(F:Ao K "read_plain" "read_plain" k9 f fd)(T:yu mg)(W:Cl P w K mg base 1 "tongue_within" ["doors"] sf):Ag P w K mg base zD 2 f fd ["book","text","place","doors"] rp:=by
 refine F.okA Bl λg4 A outer s H vs Q E Y h=>?_;obtain⟨z,v,b,q,ds,x,i,rfl,Z,aa,⟨vs,G,O⟩,ab,hi,S,k⟩:=h;obtain⟨a,xs,rfl,ak,ac,ad,R⟩:=uS Z;obtain⟨ae,al,am,_⟩:=aa;have I:=Bl.nd;have ao:=yV;have ap:=yB;have J0:vs.length=ds.length:=by have:=O.length;simpa using this
 refine⟨_,ze (zu (i:=4) I (zA W Y (zz 3)))
  (ze (xt (zx Ai (pv 0) (pv 4) (λ_ _=>rfl)) (yR J (zF (zw (i:=5) I) (zF (zw (i:=6) I) yJ))))
  (ze (ya (zZ sV (zx rZ (pv 1) (pv 2) (λ_ _=>rfl)) (pv 5) (zR _)) (zm (zB (yl (zc (pv 2) (zc zg (zc z0 (zc (pv 4) (zc (zT xB (by rfl) T.len b_len (zz 3)) zf)))))))) ye)
  (ze (ya (zZ vb (zG yO (pv 2) zg) (zT yL (by rfl) T.len b_len (zz 1)) (zR _)) (zm (zB (yl (zc (pv 2) (zc zg (zc z0 (zc (pv 4) (zc (zT xB (by rfl) T.len b_len (zz 3)) zf)))))))) ye)
  (zm (zB (yl (zc (pv 2) (zc zg (zc z0 (zc (pv 4) (zc (zT xB (by rfl) T.len b_len (zz 3)) zf))))))))))),?_⟩
 dsimp only[zH,Cx.nox,Cx.wish];have af:x.cps.toList[i]?=some (x.cps.getD i 0):=by
  have:i<x.cps.size:=hi;simp[Je,this]
 obtain⟨B,U,V⟩:=ue ab ae;obtain⟨c,d,ys,ag,aq,ar,ah,as,au,av⟩:=vh (vi (b:=b) (i:=B) R V);have ai:xs[B]?=some (.ref c):=by
  have h1:B<xs.length:=zU V ad;have h2:xs.getD B .non=xs[B]:=by simp[h1]
  rw[X1 h1,←h2,ag]
 have aj:b.getD (zI ds).toNat zk=b.getD B zk:=by rw[U];rfl
 unfold yz at k;rw[aj] at k;refine⟨_,J,z,q,ds,J,⟨_,G,O⟩,?_⟩;refine⟨_,J,_,J,a,xs,zI ds,_,J,J,Ah.of ac,by rw[U];exact zy ai,c,_,J,Ah.of ah,J,_,_,J,_,_,J,J,?_⟩;refine⟨_,J,_,J,x,i,_,J,J,by exact zC S,zy af,_,J,J,_,J,?_⟩;refine yc (λg=>?_) (λg=>?_)
 .have L:¬(⟨#[x.cps.getD i 0]⟩:Str)=(b.getD B zk).1:=λe=>by rw[e] at g;simp at g
  rw[Qxa L] at k;refine⟨_,J,_,J,_,J,q,_,J,.inl (Ad.of G),by show (5:Nat)<=_;exact X6 _ _,λp D=>?_⟩;refine k p _ (Aa.new D) D ?_;rw[zd,J0];rfl
 .have L:(⟨#[x.cps.getD i 0]⟩:Str)=(b.getD B zk).1:=by simpa using g
  rw[Qxb L] at k;refine⟨_,J,_,_,J,J,_,J,x,J,by exact zC S,_,_,J,J,_,J,?_⟩;refine yc (λM=>?_) (λM=>?_)
  .have h2:i+1<x.length:=by have:=Qxc M;exact Qs.1 this
   rw[Qxb h2] at k;refine⟨_,J,_,J,_,J,q,_,J,.inl (Ad.of G),by show (5:Nat)<=_;exact X6 _ _,λp D=>?_⟩;refine k p _ (Aa.new D) D ?_;rw[zd,J0];rfl
  .have h2:¬i+1<x.length:=λh=>M (Qxd (wx h));rw[Qxa h2] at k;refine⟨_,J,_,J,_,J,q,_,J,.inl (Ad.of G),by show (5:Nat)<=_;exact X6 _ _,λp D=>?_⟩;refine k p _ (Aa.new D) D ?_;rw[zd,J0];rfl
theorem jD{x:Str}{k:Nat}(h:i+k<=x.length):yC x (some (i:Int)) (some ((i:Int)+(k:Int)))=⟨x.cps.extract i (i+k)⟩:=by
 have e:((i:Int)+(k:Int))=((i+k:Nat):Int):=rfl;rw[e];unfold yC;rw[HT.sIx_nat,HT.sIx_nat,Pm h,Pm (by omega)];congr 1;apply Array.ext';simp[Kr,N4]
theorem qJ{x m:Str}(hi:i<=x.length):xk x m i=xc x i m:=by
 cases g:xc x i m with
 |true=>
  have B:=jz g hi;have a:=Qxc g;have a:yC x (some (i:Int)) (some ((i:Int)+m.length))=m:=by injection a
  rw[jD B] at a;have D:x.cps.extract i (i+m.length)=m.cps:=congrArg IR a;unfold xk Md;rw[Qxd B,D];simp
 |false=>
  cases g2:xk x m i with
  |false=>rfl
  |true=>
   exfalso;unfold xk Md at g2;rw[R0] at g2;have B:=Qxc g2.1;have D:x.cps.extract i (i+m.length)=m.cps:=by simpa using g2.2
   have:xc x i m=true:=by
    unfold xc;rw[jD B,D];simp
   rw[g] at this;cases this
theorem V2{x m:Str}(hi:i<=x.length)(h:xc x i m=true)(F:1<=m.length):x.cps.getD i 0∈m.cps.toList:=by
 have D:=jz h hi;have a:=Qxc h;have a:yC x (some (i:Int)) (some ((i:Int)+m.length))=m:=by injection a
 rw[jD D] at a;have G:x.cps.extract i (i+m.length)=m.cps:=congrArg IR a;rw[←G];have I:i+m.length<=x.cps.size:=D;have B:i<x.cps.size:=by omega
 rw[Kr,N4];have e:x.cps.getD i 0=x.cps.toList[i]'(by simpa using B):=by simp[Je,B]
 rw[e,QZ (by simpa using B)];have:i+m.length-i=(m.length-1)+1:=by exact bJ F
 rw[this,List.take_succ_cons];exact W8
theorem V3(B:yn b){t:Tg}(ht:t∈b){m:Str}(D:m∈oU b){c:Nat}(F:c∈m.cps.toList):(⟨#[c]⟩:Str)≠t.1:=λe=>by
 have h:=B.2.2.2;unfold qv at h;simp only[R0,QU] at h;have h2:=h.1.2;unfold rc at h2;rw[OZ] at h2;have G:=h2 m D;apply G;unfold kO;rw[Qx];refine⟨c,F,?_⟩;rw[Qx];exact⟨t.1,Qz ht,by rw[e];exact beq_self_eq_true _⟩
theorem V4(F:As b ds){m:Str}(hm:m∈xw b ds):m∈oU b:=by
 unfold xw at hm;rcases T6.mp hm with hm|hm
 .obtain⟨dd,B,rfl⟩:=S4.mp hm;by_cases D:(zI ds).toNat<b.length
  .exact Pd.mpr ⟨_,yE zk D,Pd.mpr ⟨dd,B,W8⟩⟩
  .have e:b.getD (zI ds).toNat zk=zk:=by simp[D]
   rw[e] at B;cases B
 .obtain⟨dd,B,rfl⟩:=S4.mp hm;obtain⟨t,ht,G,I,L,J0⟩:=F dd (Ou B);rw[J0];exact Pd.mpr ⟨t,ht,Pd.mpr ⟨G,I,T7 _ W8⟩⟩
theorem qK(h:y∈zY b ds):y.1∈xw b ds:=by
 unfold zY at h;unfold xw;rcases T6.mp h with h|h
 .obtain⟨d,B,rfl⟩:=S4.mp h;exact S2 _ (Qz B)
 .obtain⟨d,B,rfl⟩:=S4.mp h;exact RW _ (Qz B)
theorem jE{m:Str}(h:m∈xw b ds):∃y∈zY b ds,y.1=m:=by
 unfold xw at h;unfold zY;rcases T6.mp h with h|h
 .obtain⟨d,B,rfl⟩:=S4.mp h;exact⟨_,S2 _ (Qz B),J⟩
 .obtain⟨d,B,rfl⟩:=S4.mp h;exact⟨_,RW _ (Qz B),J⟩
theorem V5{x:Str}{m:Str}{o:Option Dr}{r:List Mk}(F:m≠YP "")(G:(⟨#[x.cps.getD i 0]⟩:Str)≠(b.getD (zI ds).toNat zk).1)(h:(zY b ds).filter (λy=>y.1==m)=(m,o)::r):zN b ds x i m=yH ds i m o:=by
 unfold zN;rw[Qxa (λq=>G q.2),Qxa F];unfold zY at h;rw[OQ,OJ,OJ] at h;by_cases B:ds≠[]/\m=(ds.getD (ds.length-1) zX).2.2
 .rw[Qxb B];have I:0<ds.length:=QA.mpr B.1;rw[dj I] at h;have:((ds.getD (ds.length-1) zX).2.2==m)=true:=by rw[←B.2];exact beq_self_eq_true _
  have D:[ds.getD (ds.length-1) zX].filter ((λy:Mk=>y.1==m)∘λd:zp=>((d.2.2,none):Mk))=[ds.getD (ds.length-1) zX]:=by
   rw[PX]
   .rfl
   .exact this
  rw[D] at h;have h':(((ds.getD (ds.length-1) zX).2.2,none):Mk)=(m,o):=(Ix h).1;have:o=none:=by injection h' with _ q;exact q.symm
  subst this;rfl
 .rw[Qxa B];have D:(yo ds).filter ((λy:Mk=>y.1==m)∘λd:zp=>((d.2.2,none):Mk))=[]:=by
   rw[P5];intro d J0 q;have q:(d.2.2==m)=true:=q;have q:=eq_of_beq q;exact B (df (S4.mpr ⟨d,J0,q⟩))
  rw[D] at h;have L:((λy:Mk=>y.1==m)∘λd:Dr=>((d.1,some d):Mk))=λd:Dr=>d.1==m:=rfl;rw[L] at h;cases g:(b.getD (zI ds).toNat zk).2.filter (λd=>d.1==m) with
  |nil=>
   rw[g] at h;cases h
  |cons d M=>
   rw[g] at h;have h':((d.1,some d):Mk)=(m,o):=(Ix h).1;have:o=some d:=by injection h' with _ q;exact q.symm
   subst this;rfl
theorem V6{x:Str}(hi:i<x.length)(h:zE b ds x i=[]):zN b ds x i (zL b ds x i)=(yz b ds x i,ds):=by
 have D:xP b ds x i=[]:=by
  unfold xP;rw[P5];intro m F q;obtain⟨y,G,rfl⟩:=jE F;unfold zE at h;rw[P5] at h;apply h y G;rw[qJ (RL hi)];exact q
 have I:zL b ds x i=YP "":=by unfold zL;rw[D,wk];rfl
 rw[I];unfold zN yz;by_cases B:(⟨#[x.cps.getD i 0]⟩:Str)=(b.getD (zI ds).toNat zk).1
 .have J0:(b.getD (zI ds).toNat zk).1≠YP "":=λe=>by
   rw[e,wk] at B;have:(#[x.cps.getD i 0]:Array Nat)=#[]:=congrArg IR B;simp at this
  rw[Qxb ⟨J0,B⟩,Qxb B];by_cases h1:i+1=x.length
  .rw[Qxb h1,Qxa (by omega)]
  .rw[Qxa h1,Qxb (Qn hi h1)]
 .rw[Qxa (λq=>B q.2),Qxb J,Qxa B]
theorem V7{l:List Mk}(F:l[j]?=some y)(G:∀B,B<j->∀D,l[B]?=some D->D.1.length<y.1.length):∃r,l.filter (λz=>z.1==y.1)=y::r:=by
 induction l generalizing j with
 |nil=>simp at F
 |cons a l J0=>
  cases j with
  |zero=>
   have:a=y:=by simpa using F
   subst this;exact⟨_,PX (p:=λz:Mk=>z.1==a.1) (beq_self_eq_true a.1)⟩
  |succ j=>
   have I:=G 0 (Qy _) a rfl;have L:¬(a.1==y.1)=true:=λq=>by
    have:=eq_of_beq q;rw[this] at I;exact rM I
   rw[OV (p:=λz:Mk=>z.1==y.1) L];exact J0 (by simpa using F) λB M D O=>G (B+1) (Ra M) D (by simpa using O)
theorem V8{x:Str}(O:yn b)(R:As b ds)(hi:i<x.length){j:Nat}{y:Mk}(S:(zE b ds x i)[j]?=some y)(U:∀D B,(zE b ds x i)[D]?=some B->B.1.length<=y.1.length/\(D<j->B.1.length<y.1.length)):zN b ds x i (zL b ds x i)=yH ds i y.1 y.2:=by
 have V:=O.2.2.1;have W:=Ph S;have F:y∈zY b ds:=(T3.mp W).1;have Y:xk x y.1 i=true:=(T3.mp W).2;have G:xc x i y.1=true:=by rw[←qJ (RL hi)];exact Y
 have Z:=se (x:=x) (i:=i) V (R.ok V);have I:y.1∈xP b ds x i:=T3.mpr ⟨qK F,G⟩;have ad:zL b ds x i=y.1:=by
  unfold zL;rcases qE (l:=xP b ds x i) λm ae=>Z m (T3.mp ae).1 with⟨h1,_⟩|⟨h1,h2⟩
  .rw[h1] at I;cases I
  .have J0:=T3.mp h1;obtain⟨B,L,e⟩:=jE J0.1;have:B∈zE b ds x i:=T3.mpr ⟨L,by rw[e,qJ (RL hi)];exact J0.2⟩;obtain⟨D,M⟩:=List.getElem?_of_mem this;have aa:=(U D B M).1;rw[e] at aa;have af:=h2 y.1 I;exact de J0.2 G (RU aa af)
 rw[ad];have ab:=Z y.1 (qK F);obtain⟨r,ag⟩:=V7 S λD M B L=>(U D B L).2 M;have ah:(zY b ds).filter (λz=>z.1==y.1)=(y.1,y.2)::r:=by
  rw[←ag];unfold zE;rw[List.filter_filter];refine Mh λz _=>?_;cases g:z.1==y.1 with
  |false=>rfl
  |true=>
   rw[eq_of_beq g,Y];rfl
 refine V5 (λe=>?_) (λe=>?_) ah
 .have:=ab.1;rw[e,wk] at this;exact absurd this (by decide)
 .by_cases ac:(zI ds).toNat<b.length
  .exact V3 O (yE zk ac) (V4 R (qK F)) (V2 (RL hi) G ab.1) e
  .have ai:b.getD (zI ds).toNat zk=zk:=by simp[ac]
   rw[ai] at e;have:(#[x.cps.getD i 0]:Array Nat)=#[]:=congrArg IR e;simp at this
end T1
namespace L2
open PySem PySem.Spec PyProof.Rows
section
variable {P:U2}{w:Rz}{K:W.Frag}{mg:Str->Option X3}{base:Heap}
theorem Ao.okC{x B:Str}{st:Stmt}{f c:Addr}{fd:FuncData}{N ps:List Str}{k:Nat}{sp:Sp}(F:Ao K x B st f fd)(D:fd.code=.ref c)(S:zK N ps (zq st))(G:∀vs H Q E,sp vs H Q E->vs.length=ps.length)(I:∀(A:QG) (outer:List Env) (s:X9) (H:Hp) (vs:List V) (Q:VK) (E:XK),Ak k (A.deeper (Nw B (zq st) s.heap.objs.size f (.ref c)))->sp vs H Q E ->
   ∃t,Bf (zH zD P w K mg base N B (zq st) f (.ref c) A outer s H E).nox (wF st) t/\t { nx:=λ_ H'=>Q .non H',rt:=Q } (start N vs) H):Ag P w K mg base zD (k+1) f fd ps sp:=by
 obtain⟨oc,od,kV,doc,pm,an,g4,ct,hj,rfl,J0,L⟩:=F.ex;have D:g4=.ref c:=D;subst D;refine gP J0 L S G λA outer s H vs Q E M O=>?_;obtain⟨t,h,q⟩:=I A outer s H vs Q E M O;exact⟨t,h.nox,q⟩
end
end L2
namespace T1
open PySem L2
variable {b:Bk}{r:wR}{i j n off:Nat}{B:List zp}
variable {P:U2}{w:Rz}{K:W.Frag}{mg:Str->Option X3}{base:Heap}
noncomputable abbrev V9:Str:=(YP "read_step"++YP ".<locals>.")++YP "<lambda>"
noncomputable abbrev zO(tb:Addr)(H:Hp):Prop:=LamT tb VB VC V9 H
theorem _root_.L2.LamT.same{P:Addr}{B cl:Nat}{q:Str}{H H':Hp}(h:LamT P B cl q H)(s:Aa H H'):LamT P B cl q H':=by
 rcases h with h|⟨D,h1,h2⟩
 .exact .inl (s _ _ h)
 .exact .inr ⟨D,s _ _ h1,s _ _ h2⟩
theorem _root_.L2.LamT.sameX{P p:Addr}{D cl:Nat}{q:Str}{H H':Hp}{l:List V}(h:LamT P D cl q H)(B:H p=some (.lst l))(s:Ac p H H'):LamT P D cl q H':=by
 rcases h with h|⟨F,h1,h2⟩
 .exact .inl (s _ _ (zj h B) h)
 .exact .inr ⟨F,s _ _ (zj h1 B) h1,s _ _ (zj h2 B) h2⟩
mutual
theorem Aj.butT{z P:Addr}{H H':Hp}{ps:Array X3}(B:H P=some (.tbl ps))(s:ym P H H'):∀ {v:V}{d:D},Aj z H v d->Aj z H' v d
 |_,_,.non=>.non
 |_,_,.bl b=>.bl b
 |_,_,.int i=>.int i
 |_,_,.str x h=>.str x h
 |_,_,.tup h F r=>.tup (s _ _ (zj h B) h) F (Ab.butT B s r)
 |_,_,.lst h F r=>.lst (s _ _ (zj h B) h) F (Ab.butT B s r)
theorem Ab.butT{z P:Addr}{H H':Hp}{ps:Array X3}(B:H P=some (.tbl ps))(s:ym P H H'):∀ {vs:List V}{ds:List D},Ab z H vs ds->Ab z H' vs ds
 |_,_,.nil=>.nil
 |_,_,.cons h t=>.cons (Aj.butT B s h) (Ab.butT B s t)
end
noncomputable def ug(q t:Addr)(H H':Hp):Prop:=∀b o,b≠q->b≠t->H b=some o->H' b=some o
inductive si(tb:Addr):Sp where
 |mk {vs:List V} {H:Hp} {Q:VK} {E:XK} (z v b q ds x:_) (i:Nat) (c1:vs=[v,.str x,.int i,.ref q]) (c2:Am z H) (c3:q≠z) (c4:Aj z H v (yp b)) (c5:yn b) (c6:AD z H q ds) (c7:As b ds) (c8:i<x.length) (c9:x.length<=20000) (ho:ds.length<=20000) (hD:zO tb H) (c12:∀p H',ug q tb H H'->H p=none->H' p=some (.tup (xQ (zN b ds x i (zL b ds x i)).1))->AD z H' q (zN b ds x i (zL b ds x i)).2->zO tb H'->Q (.ref p) H'):si tb vs H Q E
theorem Bw:zK ["book","text","place","doors","fits","mark","door"] ["book","text","place","doors"] (zq rf):=zP
theorem Ua{f c tb:Addr}{fd:FuncData}(F:Ao K "read_step" "read_step" rf f fd)(aB:fd.code=.ref c)(aC:OO K c tb=true)(aD:base.BuiltinsAt mg tb)(T:yu mg)(aE:mg "max"=none)(aF:Cl P w K mg base 3 "fitting_marks" ["book","text","place","doors"] sg)(aG:Cl P w K mg base 2 "read_plain" ["book","text","place","doors"] rp)(aH:Cl P w K mg base 2 "take_mark" ["mark","door","place","doors"] rn):Ag P w K mg base zD 4 f fd ["book","text","place","doors"] (si tb):=by
 refine F.okC aB Bw (λvs H Q E h=>?_) (λA outer s H vs Q E O h=>?_)
 .obtain⟨z,v,b,q,ds,x,i,rfl,_⟩:=h;rfl
 .obtain⟨z,v,b,q,ds,x,i,rfl,ah,aI,ai,R,S,aj,hi,aJ,aK,ak,k⟩:=h;have V:=Bw.nd;have aL:=R.2.2.1;have al:=aj.ok aL;refine⟨_,ze (zu (i:=4) V (zA aF O (xO 0 1 2 3)))
   (ze (ya (xr (uB (pv 4) (λ_=>rfl))) (zm (zB (zA aG (O.mono (by decide)) (xO 0 1 2 3)))) ye)
   (ze (xt (XV (P:=tb) (c:=c) J O.in1.depth aE T.len J aC aD (pv 4) (λ_ _ _ _=>rfl)) (yR J (zF (zw (i:=5) V) (zF (zw (i:=6) V) yJ))))
   (zm (zB (zA aH (O.mono (by decide)) (xO 5 6 2 3)))))),?_⟩
  dsimp only[zH,Cx.nox,Cx.wish];have a7:=yV;refine⟨_,J,_,J,_,J,_,J,z,v,b,q,ds,x,i,J,ah,ai,R,S,al,λaM D H1 B a8 am Y=>?_⟩;have G:D.length=(zE b ds x i).length:=by have:=Y.length;simpa using this
  refine⟨_,J,_,.inl ⟨D,Ad.of am,J⟩,?_⟩;refine yc (λg=>?_) (λg=>?_)
  .have aN:zE b ds x i=[]:=by
    refine Ry ?_;cases D with
    |nil=>simp at G;exact RH G
    |cons _ _=>simp at g
   have Z:=V6 (b:=b) (ds:=ds) hi aN;rw[Z] at k;refine⟨_,J,_,J,_,J,_,J,z,v,b,q,ds,x,i,J,ai.mono B.x,R,S.same B,al,hi,aJ,λp H2 aa I ab=>?_⟩;exact k p H2 (λM o _ _ e=>(B.trans aa) M o e) (B.free I) ab (S.same (B.trans aa)) (ak.same (B.trans aa))
  .have aO:0<D.length:=by
    cases D with
    |nil=>simp at g
    |cons _ _=>simp
   have ao:=ak.same B;refine⟨_,J,aM,D,(λj=>((zE b ds x i).getD j yq).1),J,am,aO,(λj J0=>?_),ao,λH2 j y L ap J0 aP=>?_⟩
   .obtain⟨a,u,e,aQ,ac,ad,aq⟩:=uX (uY (ms:=zE b ds x i) (i:=j) Y (zU J0 (RH G)));refine⟨a,[u],?_,ac,ad⟩;have h2:D.getD j .non=D[j]:=by simp[J0]
    rw[X1 J0,←h2,e]
   .obtain⟨ps,U⟩:=ao.tbl;have ar:j<D.length:=(W5.mp J0).1;have aR:y=D.getD j .non:=by rw[XP,J0];rfl
    have aS:=Aj.butT U L (uY (ms:=zE b ds x i) (i:=j) Y (zU ar (RH G)));obtain⟨a,u,e,aQ,ac,ad,aq⟩:=uX aS;have as:(zE b ds x i)[j]?=some ((zE b ds x i).getD j yq):=by
     have h1:j<(zE b ds x i).length:=zU ar (RH G);simp[h1]
    have Z:=V8 R aj hi as (λae aT au=>by
     have h1:ae<(zE b ds x i).length:=(W5.mp au).1;have:=aP ae (zU h1 G);have aU:(zE b ds x i).getD ae yq=aT:=by rw[XP,au];rfl
     dsimp only at this;rw[aU] at this;exact this)
    rw[Z] at k;generalize a9:(zE b ds x i).getD j yq=af at *;have av:af∈zY b ds:=(T3.mp (Ph as)).1;obtain⟨vs,aV,aW⟩:=S;have aw:=B _ _ aV;have ax:=L _ _ (zj aw U) aw;have aX:=Ab.butT U L (aW.mono B.x);have aY:Am z H2:=by
     obtain⟨aZ,a0,ay⟩:=ah.same B;exact⟨aZ,a0,L _ _ (zj ay U) ay⟩
    rw[aR,e];refine⟨a,_,J,Ah.of ac,J,_,_,J,_,_,J,J,?_⟩;refine⟨_,J,_,J,_,J,_,J,z,af.1,u,af.2,i,q,ds,J,aY,aI,aq,ad,⟨vs,ax,aX⟩,aK,λaz=>?_,λp a1 aA I ab a2=>?_⟩
    .have a3:0<ds.length:=by
      unfold zY at av;rcases T6.mp av with h|h
      .obtain⟨d,ag,_⟩:=S4.mp h;exact QA.mpr (λq=>by rw[q] at ag;cases ag)
      .obtain⟨d,ag,a4⟩:=S4.mp h;rw[←a4] at az;cases az
     exact a3
    .refine k p a1 (λM o n1 n2 a5=>aA M o n1 (L M o n2 (B M o a5))) ?_ ab a2 (ap.sameX ax aA);cases e4:H p with
     |none=>rfl
     |some o=>
      have:H2 p=some o:=by
       refine L p o (λz=>?_) (B p o e4);subst z;obtain⟨ba,a6⟩:=ap.tbl;rw[a6] at I;cases I
      rw[this] at I;cases I
mutual
theorem Aj.but2{z q t:Addr}{H H':Hp}{l:List V}{ps:Array X3}(B:H q=some (.lst l))(ht:H t=some (.tbl ps))(s:ug q t H H'):∀ {v:V}{d:D},Aj z H v d->xJ d->Aj z H' v d
 |_,_,.non,_=>.non
 |_,_,.bl b,_=>.bl b
 |_,_,.int i,_=>.int i
 |_,_,.str x h,_=>.str x h
 |_,_,.tup h F r,.tup k=>.tup (s _ _ (zj h B) (zj h ht) h) F (Ab.but2 B ht s r k)
theorem Ab.but2{z q t:Addr}{H H':Hp}{l:List V}{ps:Array X3}(B:H q=some (.lst l))(ht:H t=some (.tbl ps))(s:ug q t H H'):∀ {vs:List V}{ds:List D},Ab z H vs ds->Av ds->Ab z H' vs ds
 |_,_,.nil,_=>.nil
 |_,_,.cons h k,.cons h' G=>.cons (Aj.but2 B ht s h h') (Ab.but2 B ht s k G)
end
noncomputable def yx(b:Bk)(x:Str)(r:wR):Nat->wR
 |0=>r
 |n+1=>yQ b x (yx b x r n)
theorem dq(b:Bk)(x:Str)(n:Nat):∀k,zb b x (n+k)=yx b x (zb b x n) k
 |0=>rfl
 |k+1=>by
  show yQ b x (zb b x (n+k))=yQ b x (yx b x (zb b x n) k);rw[dq b x n k]
theorem dt(b:Bk)(x:Str):∀n,zb b x n=yx b x ⟨0,[],[]⟩ n
 |0=>rfl
 |n+1=>by
  show yQ b x (zb b x n)=yQ b x _;rw[dt b x n]
theorem qL{x:Str}(h:(yx b x r n).b'<x.length):yx b x r (n+1)=⟨(yx b x r n).b'+((zN b (yx b x r n).ds x (yx b x r n).b' (zL b (yx b x r n).ds x (yx b x r n).b')).1.2.1).toNat,(zN b (yx b x r n).ds x (yx b x r n).b' (zL b (yx b x r n).ds x (yx b x r n).b')).2,(yx b x r n).ss++[(zN b (yx b x r n).ds x (yx b x r n).b' (zL b (yx b x r n).ds x (yx b x r n).b')).1]⟩:=by
 show yQ b x (yx b x r n)=_;unfold yQ;rw[Qxb h]
theorem Ub{x:Str}(h:¬(yx b x r n).b'<x.length):yx b x r (n+1)=yx b x r n:=by
 show yQ b x (yx b x r n)=_;unfold yQ;rw[Qxa h]
structure sj(b:Bk)(x:Str)(ds0:List zp)(r:wR):Prop where
 le:r.b'<=x.length
 bk:As b r.ds
 dl:r.ds.length<=ds0.length+r.b'
 sl:r.ss.length<=r.b'
 sum:(r.ss.map (·.2.1)).sum=(r.b':Int)
theorem sk{b:Bk}{x:Str}{B:List zp}(F:∀t∈b,An b.length t)(G:1<=b.length)(I:As b B):∀n,sj b x B (yx b x ⟨0,B,[]⟩ n)
 |0=>⟨X7 _,I,X2 _,X7 _,J⟩
 |n+1=>by
  have D:=sk (x:=x) F G I n;by_cases h:(yx b x ⟨0,B,[]⟩ n).b'<x.length
  .rw[qL h];have P:=vj (x:=x) F D.bk G h;obtain⟨L,M,O,R,J0⟩:=D;generalize yx b x ⟨0,B,[]⟩ n=r at *;revert P;generalize zN b r.ds x r.b' (zL b r.ds x r.b')=st;intro P;have h1:1<=st.1.2.1:=P.1;have S:(r.b':Int)+st.1.2.1<=x.length:=P.2.2.1;have U:st.2.length<=r.ds.length+1:=P.2.2.2.2.1;refine⟨?_,P.2.2.2.1,?_,?_,?_⟩
   .show r.b'+st.1.2.1.toNat<=x.length;omega
   .show st.2.length<=B.length+(r.b'+st.1.2.1.toNat);omega
   .show (r.ss++[st.1]).length<=r.b'+st.1.2.1.toNat;rw[X4];show r.ss.length+1<=_;omega
   .show ((r.ss++[st.1]).map (·.2.1)).sum=((r.b'+st.1.2.1.toNat:Nat):Int);rw[T5,JX,J0];show (r.b':Int)+(st.1.2.1+0)=_;omega
  .rw[Ub h];exact D
noncomputable def Ap(ds B:List zp):Prop:=ds.map (·.2)=B.map (·.2)
theorem Ap.len(h:Ap ds B):ds.length=B.length:=by have:=congrArg Np h;simpa using this
theorem Ap.nil(h:Ap ds B):ds=[]↔B=[]:=by
 have:=h.len;rw[←OW,←OW,this]
theorem Ap.get(h:Ap ds B)(i:Nat):(ds.getD i zX).2=(B.getD i zX).2:=by
 have e:=h.len;by_cases hi:i<ds.length
 .have h1:(ds.map (·.2))[i]?=(B.map (·.2))[i]?:=by rw[h]
  rw[RF,RF,X1 hi,X1 (zU hi (RH e))] at h1;rw[XP,XP,X1 hi,X1 (zU hi (RH e))];exact R4 h1
 .rw[XP,XP,Kg (Qt.1 hi),Kg (xq (RH e) (Qt.1 hi))]
theorem du(ds:List zp):zI ds=match (ds.map (·.2)).getLast? with|some d=>d.1|none=>0:=by
 unfold zI;rw[List.getLast?_map];cases ds.getLast?<;>rfl
theorem Ap.tongue(h:Ap ds B):zI ds=zI B:=by rw[du,du,h]
theorem Ap.drop(h:Ap ds B):Ap ds.dropLast B.dropLast:=by
 unfold Ap;rw[Q2,Q2,h]
theorem Ap.some(h:Ap ds B):xw b ds=xw b B:=by
 unfold xw yo;have e:∀l:List zp,(l.drop (l.length-1)).map (·.2.2)=((l.map (·.2)).drop (l.length-1)).map (·.2):=λl=>by
  rw[←Iv,R6];rfl
 rw[h.tongue,e ds,e B,h,h.len]
theorem Uc{B:Type}(l:List B)(i k:Nat):(l.drop (min i l.length)).take (min (i+k) l.length-min i l.length)=(l.drop i).take k:=by
 by_cases h:i<=l.length
 .rw[Pm h];by_cases h2:i+k<=l.length
  .rw[Pm h2,Nat.add_sub_cancel_left]
  .rw[MH (by exact bQ h2),Q9 (by simp),Q9 (by simp;omega)]
 .rw[MH (by omega),MH (by exact lE h),Pa (X2 _),Pa (by exact lE h)];simp
theorem sn{a c:Str}(h:a.cps.toList=c.cps.toList):a=c:=by
 obtain⟨⟨a⟩⟩:=a;obtain⟨⟨c⟩⟩:=c;have h:a=c:=h;rw[h]
theorem xn(x:Str):x.cps.toList.length=x.length:=by simp;rfl
theorem qM(x:Str)(i k:Nat):(yC x (some (i:Int)) (some ((i:Int)+(k:Int)))).cps.toList=(x.cps.toList.drop i).take k:=by
 unfold yC;have e:((i:Int)+(k:Int))=((i+k:Nat):Int):=rfl;rw[e,HT.sIx_nat,HT.sIx_nat];show ((x.cps.toList.drop (min i x.length)).take (min (i+k) x.length-min i x.length))=_;rw[←xn];exact Uc _ _ _
theorem nM(x:Str){i:Nat}(h:i<=x.length):(yC x (some (i:Int)) none).cps.toList=x.cps.toList.drop i:=by
 unfold yC;rw[HT.sIx_nat,HT.sIx_none];show ((x.cps.toList.drop (min i x.length)).take (x.length-min i x.length))=_;rw[Pm h,Q9];rw[Qw,xn];exact X2 _
theorem jF{x m:Str}:xc x i m=true↔m.cps.toList <+: x.cps.toList.drop i:=by
 unfold xc;rw[decide_eq_true_iff,List.prefix_iff_eq_take,xn];constructor
 .intro h;have h:yC x (some (i:Int)) (some ((i:Int)+m.length))=m:=by injection h
  rw[←qM,h]
 .intro h;congr 1;exact sn (by rw[qM,←h])
theorem Ud{a c:Bool}(h:a=true↔c=true):a=c:=QX.mpr h
theorem jG{x:Str}(h:i<x.length):x.cps.toList.drop i=x.cps.getD i 0::x.cps.toList.drop (i+1):=by
 have h1:i<x.cps.toList.length:=by rw[xn];exact h
 rw[QZ h1];congr 1;have:i<x.cps.size:=h;simp[Je,this]
noncomputable def vm(y:Str)(j:Nat):Str:=yC y (some (j:Int)) none
noncomputable def wS(b:Bk)(ds:List zp)(y:Str)(j:Nat):Bool:=!(decide (vm y j=(b.getD (zI ds).toNat zk).1))&&!((zY b ds).any λm=>decide ((vm y j).length<m.1.length)&&xk m.1 (vm y j) 0)
structure jH(b:Bk)(ds:List zp)(x y:Str)(off j:Nat):Prop where
 sign:x.cps.getD (off+j) 0=y.cps.getD j 0
 esc:(⟨#[y.cps.getD j 0]⟩:Str)=(b.getD (zI ds).toNat zk).1->(off+j+1=x.length↔j+1=y.length)
 fit:∀m∈xw b ds,xc x (off+j) m=xc y j m
theorem Ue{x y:Str}{B D:List Nat}(F:x.cps.toList=B++y.cps.toList++D)(G:B.length=off)(I:j<=y.length):x.cps.toList.drop (off+j)=y.cps.toList.drop j++D:=by
 rw[F,Q8,←Ig,←G,Ih,List.drop_append_of_le_length (by rw[xn];exact I)]
theorem Uf{x y:Str}{L F:List Nat}(M:x.cps.toList=L++y.cps.toList++F)(O:L.length=off)(B:j<y.length)(R:F=[]∨wS b ds y j=true):jH b ds x y off j:=by
 have D:x.length=off+y.length+F.length:=by rw[←xn,M,X4,X4,O,xn]
 have G:=Ue M O (RL B);have V:x.cps.getD (off+j) 0=y.cps.getD j 0:=by
  rw[jG (by exact i6 B D),jG B] at G;injection G
 have I:(vm y j).cps.toList=y.cps.toList.drop j:=nM y (RL B);refine⟨V,λW=>?_,λm Y=>?_⟩
 .rcases R with h|h
  .rw[h] at D;have D:x.length=off+y.length+0:=D;exact al D
  .unfold wS at h;simp only[R0,QU,decide_eq_false_iff_not] at h;have Z:=h.1;have ab:j+1<y.length:=by
    by_cases S:j+1<y.length
    .exact S
    .exfalso;apply Z;rw[←W];refine sn ?_;rw[I,jG B,Pa (by rw[xn];exact Qt.1 S)]
   omega
 .refine Ud ?_;rw[jF,jF,G];constructor
  .intro h;by_cases J0:m.cps.toList.length<=(y.cps.toList.drop j).length
   .exact Nb h (OR _ _) J0
   .rcases R with e|e
    .rw[e,QI] at h;exact h
    .exfalso;unfold wS at e;simp only[R0,QU,decide_eq_false_iff_not] at e;have U:=e.2;rw[OZ] at U;obtain⟨p,aa,rfl⟩:=jE Y;apply U p aa;rw[R0];refine⟨Qxd ?_,?_⟩
     .rw[←xn,←xn,I];exact NN.1 J0
     .rw[qJ (X7 _),jF,I,Ot];exact Nb (OR _ _) h (by exact lE J0)
  .intro h;exact h.trans (OR _ _)
noncomputable def xU(d:Int)(s:zQ):zQ:=(s.1+d,s.2)
theorem Ug{D:List zp}{x y:Str}{m:Str}(B:Ap ds D)(F:jH b D x y off j):(zN b ds x (off+j) m).1=xU off (zN b D y j m).1/\Ap (zN b ds x (off+j) m).2 (zN b D y j m).2:=by
 have ht:=B.tongue;have M:=B.len;have G:((off+j:Nat):Int)=(j:Int)+(off:Int):=by omega
 unfold zN;rw[ht,F.sign,M];split
 .rename_i h;have J0:=F.esc h.2;by_cases h1:j+1=y.length
  .rw[Qxb h1,Qxb (J0.mpr h1)];exact⟨by unfold xU;rw[G],B⟩
  .rw[Qxa h1,Qxa (λq=>h1 (J0.mp q))];exact⟨by unfold xU;rw[G],B⟩
 .split
  .exact⟨by unfold xU;rw[G],B⟩
  .have L:(ds≠[]/\m=(ds.getD (D.length-1) zX).2.2)↔(D≠[]/\m=(D.getD (D.length-1) zX).2.2):=by
    rw[B.get];exact⟨λq=>⟨λe=>q.1 (B.nil.mpr e),q.2⟩,λq=>⟨λe=>q.1 (B.nil.mp e),q.2⟩⟩
   by_cases I:D≠[]/\m=(D.getD (D.length-1) zX).2.2
   .rw[Qxb I,Qxb (L.mpr I),B.drop.tongue];exact⟨by unfold xU;rw[G],B.drop⟩
   .rw[Qxa I,Qxa (λq=>I (L.mp q))];split
    .refine⟨by unfold xU;rw[G],?_⟩;unfold Ap;rw[T5,T5,B];rfl
    .exact⟨by unfold xU;rw[G],B⟩
theorem Uh{x y:Str}(D:Ap ds B)(F:jH b B x y off j):zL b ds x (off+j)=zL b B y j:=by
 unfold zL xP;rw[D.some];congr 1;exact Mh λm G=>F.fit m G
structure nO(off:Nat)(S0:List zQ)(R r:wR):Prop where
 b':R.b'=off+r.b'
 pd:Ap R.ds r.ds
 ss:R.ss=S0++r.ss.map (xU off)
theorem Ui{x y:Str}{G B:List Nat}{S0:List zQ}{R:wR}(I:x.cps.toList=G++y.cps.toList++B)(J0:G.length=off)(D:r.b'<y.length)(M:B=[]∨wS b r.ds y r.b'=true)(h:nO off S0 R r):nO off S0 (yQ b x R) (yQ b y r):=by
 have O:x.length=off+y.length+B.length:=by rw[←xn,I,X4,X4,J0,xn]
 have F:=Uf (b:=b) (ds:=r.ds) I J0 D M;have S:=Uh h.pd F;obtain⟨L,U⟩:=Ug (m:=zL b r.ds y r.b') h.pd F;unfold yQ;rw[Qxb D,Qxb (by rw[h.b'];exact i6 D O),h.b',S];refine⟨?_,U,?_⟩
 .show off+r.b'+_=off+(r.b'+_);rw[L];show off+r.b'+(zN b r.ds y r.b' (zL b r.ds y r.b')).1.2.1.toNat=_;omega
 .show R.ss++[_]=_;rw[L,h.ss,T5,Q8];rfl
theorem dw{b:Bk}{x y:Str}{D F:List Nat}{off:Nat}{S0:List zQ}{R r:wR}(G:x.cps.toList=D++y.cps.toList++F)(I:D.length=off)(h:nO off S0 R r):∀k,(∀j,j<k->(yx b y r j).b'<y.length/\(F=[]∨wS b (yx b y r j).ds y (yx b y r j).b'=true))->nO off S0 (yx b x R k) (yx b y r k)
 |0,_=>h
 |k+1,B=>Ui G I (B k (Q5 _)).1 (B k (Q5 _)).2 (dw G I h k λj J0=>B j (PL J0))
end T1
namespace L2
open PySem PySem.Spec PyProof.Rows
noncomputable def Uj:List V->Hp->VK->Prop:=λxs H Q=>∃x a b,xs=[x,.ref a]/\H a=some (.tup [.ty "tuple",.ty "list"]) /\
 ((b=false/\((∃i,x=.int i)∨∃y,x=.str y))∨b=true/\∃l ys,x=.ref l/\(H l=some (.tup ys)∨H l=some (.lst ys)))/\Q (.bl b) H
theorem nQ{X:Cx}:xY X (.builtin "isinstance") Uj:=by
 intro Δ s σ H xs us Q B r h;obtain⟨x,a,b,rfl,J0,L,q⟩:=h;obtain⟨u,V,rfl,F,rt⟩:=lQ r;cases rt;obtain⟨its,D,⟨o,G,M,n,O⟩,_⟩:=B.tuple (Ah.of J0);have R:its=[.type "tuple",.type "list"]:=by
  cases D with
  |cons S D=>
   cases D with
   |cons U D=>
    cases D;cases S;cases U;rfl
 subst R;obtain⟨oc,od,Y,hj⟩:=o;cases M;cases O;refine R7 (n:=X.t0) B.tk ?_;have I:∀tk,X.t0<=tk->EP X Δ σ Q (.bool b) { s with toks:=tk }:=λtk ht=>⟨.bl b,H,B.tok tk ht,J,q⟩;rcases L with⟨rfl,⟨i,rfl⟩|⟨y,rfl⟩⟩|⟨rfl,l,ys,rfl,hl|hl⟩
 .obtain⟨t,rfl⟩:=F;exact JK W.kitx_int B.kIn QT G rfl (λz=>nomatch z) λtk ht=>I tk ht
 .obtain⟨t,rfl⟩:=F;exact JK W.kitx_str B.kIn QT G rfl (λz=>nomatch z) λtk ht=>I tk ht
 .cases F;obtain⟨_,_,_,p⟩:=(show Al X.prog X.w H s.heap l (.tup ys) from B.hok l _ hl);obtain⟨o,h1,h2,_⟩:=p;exact JK W.kitx_tuple B.kIn ⟨o,h1,h2⟩ G rfl (λz=>nomatch z) λtk ht=>I tk ht
 .cases F;obtain⟨_,_,m,_,h1⟩:=(show Al X.prog X.w H s.heap l (.lst ys) from B.hok l _ hl);exact JK JP B.kIn ⟨_,h1,J⟩ G rfl (λz=>nomatch z) λtk ht=>I tk ht
end L2
namespace T1
open PySem L2
variable {H H':Hp}{n t:Nat}{v:V}{f p q tb z:Addr}{fd:FuncData}{B:List zQ}{d:zQ}
variable {P:U2}{w:Rz}{K:W.Frag}{mg:Str->Option X3}{base:Heap}
inductive Pl(H:Hp):Nat->V->Prop where
 |int (n:Nat) (i:Int):Pl H n (.int i)
 |str (n:Nat) (x:Str):Pl H n (.str x)
 |tup {n:Nat} {a:Addr} {xs:List V} (h:H a=some (.tup xs)) (r:∀x∈xs,Pl H n x):Pl H (n+1) (.ref a)
 |lst {n:Nat} {a:Addr} {xs:List V} (h:H a=some (.lst xs)) (r:∀x∈xs,Pl H n x):Pl H (n+1) (.ref a)
theorem Pl.mono(k:∀b o,(∀ps,o≠.tbl ps)->H b=some o->H' b=some o):∀ {n:Nat}{v:V},Pl H n v->Pl H' n v:=by
 intro n v h;induction h with
 |int n i=>exact .int n i
 |str n x=>exact .str n x
 |tup h _ B=>exact .tup (k _ _ (λ_ z=>nomatch z) h) B
 |lst h _ B=>exact .lst (k _ _ (λ_ z=>nomatch z) h) B
theorem Pl.up(h:Pl H n v):Pl H (n+1) v:=by
 induction h with
 |int n i=>exact .int _ i
 |str n x=>exact .str _ x
 |tup h _ B=>exact .tup h B
 |lst h _ B=>exact .lst h B
theorem Pl.same(s:Aa H H'){n:Nat}{v:V}(h:Pl H n v):Pl H' n v:=h.mono λb o _ e=>s b o e
noncomputable def uZ:Nat->D->Bool
 |_,.int _=>true
 |_,.str _=>true
 |n+1,.tup ds=>ds.all (uZ n)
 |n+1,.lst ds=>ds.all (uZ n)
 |_,_=>false
theorem dy:∀ {n:Nat}{v:V}{d:D},uZ n d=true->Aj z H v d->Pl H n v:=by
 have go:∀n,(∀ {v d},uZ n d=true->Aj z H v d->Pl H n v)->∀ {vs ds},ds.all (uZ n)=true->Ab z H vs ds->∀y∈vs,Pl H n y:=λn B vs=>by
  induction vs with
  |nil=>intro _ _ _ y hy;cases hy
  |cons u r G=>
   intro ds h R y hy;cases R with
   |cons h1 h2=>
    rw[Nl,R0] at h;rcases S7.mp hy with rfl|hy
    .exact B h.1 h1
    .exact G h.2 h2 y hy
 intro n;induction n with
 |zero=>
  intro v d h r;cases r with
  |int i=>exact .int _ i
  |str x=>exact .str _ x
  |non=>cases h
  |bl=>cases h
  |tup=>cases h
  |lst=>cases h
 |succ n B=>
  intro v d h r;cases r with
  |int i=>exact .int _ i
  |str x=>exact .str _ x
  |non=>cases h
  |bl=>cases h
  |tup F _ r=>exact .tup F (go n B h r)
  |lst F _ r=>exact .lst F (go n B h r)
theorem qN{vs:List V}{ds:List D}(h:∀d∈ds,uZ n d=true)(R:Ab z H vs ds):∀y∈vs,Pl H n y:=by
 intro y F;obtain⟨i,hi,e⟩:=Pj.mp F;have B:=R.length;have g:=R.get (i:=i) (zU hi (RH B));rw[XP,X1 hi,XP,X1 (zU hi (RH B))] at g;rw[←e];exact dy (h _ (RT _)) g
theorem dz:∀n,yM (λ_=>[]) n=[]
 |0=>rfl
 |n+1=>by show yM (λ_=>[]) n++[]=[];rw[dz n];rfl
theorem nU{J0:It}{g:TG}{tt:TT}{I:TR}{Qe:L2.St->Hp->Prop}{L:L2.St}{H0:Hp}{item:Nat->V}(P:L2.St->Prop)(U:P L)(M:H0 p=none)(W:uK J0 n item (c' H0 p (.lst [])) p)(turn:∀i σ H (N:L2.St->Hp->Prop),i<n->P σ->Aa H0 H->(∀B D,P B->Aa H D->N B D)->g (item i) σ H λB H2=>tt B H2 λb O=>if b=true then I B O N else N B O)(Y:∀σ H,Aa H0 H->H p=some (.lst [])->Qe σ H):vw J0 g tt I Qe L (c' H0 p (.lst [])):=by
 have R:∀ {H},Ac p (c' H0 p (.lst [])) H->Aa H0 H:=λ{H} h b o e=>h b o (zi e M) (Aa.new M b o e);refine fq (cur:=[]) (λ_=>[]) P U zd W (λi σ H N hi Z F G aa=>turn i σ H N hi Z (R F) λB D ab S=>aa B D ab (λb o _ e=>S b o e) ?_) λσ H _ F G=>Y σ H (R F) (by rw[G,dz];rfl);rw[QI];exact S _ _ G
inductive rq:Nat->List V->Hp->VK->XK->Prop where
 |mk {n:Nat} {vs:List V} {H:Hp} {Q:VK} {E:XK} (v:V) (c1:vs=[v]) (c2:Pl H n v) (c3:∀H',Aa H H'->Q (.bl true) H'):rq (n+1) vs H Q E
theorem Uk:zK ["thing"] ["thing"] (zq qC):=⟨J,J,J,by lia,J,by lia,by lia⟩
theorem nV:(["one"]:List Str).Nodup:=by lia
theorem Ul(F:Ao K "_law_plain" "_law_plain" qC f fd)(T:yu mg)(S:ud mg)(ab:P7 K (.ref f)=true)(ac:Binds K fd ["thing"] [])(ad:mg "_law_plain"=some (.ref f)) :
  ∀n,Ag P w K mg base zD n f fd ["thing"] (rq n):=by
 intro n;induction n with
 |zero=>exact⟨λ_ _ _ _ h=>(nomatch h),λ_ _ _ _ _ _ _ _ _ _ _ _ _ h=>(nomatch h)⟩
 |succ n G=>
  refine F.ok Uk (λvs H Q E h=>?_) (λg4 A outer s H vs Q E U h=>?_)
  .obtain⟨v,rfl,_⟩:=h;rfl
  .obtain⟨v,rfl,ae,k⟩:=h;have ai:(100000:Nat)<=sizeLine:=by rw[Qo];decide
   cases ae with
   |int _ i=>
    refine⟨_,ze (ya (xa (zT nQ (by rfl) T.isinst qb (zc (pv 0) (zc (yl (zc (vX (v:=.ty "tuple") J T.tuple v8 J) (zc (vX (v:=.ty "list") J S.list vS J) zf))) zf)))) wZ ye)
     (zm (zB (gc (vT T.isinst T.str oH (pv 0)) (uu (sO (vT T.isinst T.int oI (pv 0)) (uu (lI (vT T.isinst T.bool km (pv 0))))))))),?_⟩
    dsimp only[zH,Cx.nox,Cx.wish];refine⟨_,J,by show (2:Nat)<=_;exact X6 _ _,λp D=>⟨_,p,false,J,zd,.inl ⟨J,.inl ⟨i,J⟩⟩,_,J,yi ?_⟩⟩;have B:=Aa.new (o:=.tup [.ty "tuple",.ty "list"]) D;exact⟨_,J,_,_,_,false,J,.int i,J,_,J,yi ⟨_,J,_,_,_,true,J,.int i,J,_,J,yS ⟨_,J,_,_,_,false,J,.int i,J,_,J,k _ B⟩⟩⟩
   |str _ x=>
    refine⟨_,ze (ya (xa (zT nQ (by rfl) T.isinst qb (zc (pv 0) (zc (yl (zc (vX (v:=.ty "tuple") J T.tuple v8 J) (zc (vX (v:=.ty "list") J S.list vS J) zf))) zf)))) wZ ye)
     (zm (zB (gc (vT T.isinst T.str oH (pv 0)) (uu (sO (vT T.isinst T.int oI (pv 0)) (uu (lI (vT T.isinst T.bool km (pv 0))))))))),?_⟩
    dsimp only[zH,Cx.nox,Cx.wish];refine⟨_,J,by show (2:Nat)<=_;exact X6 _ _,λp D=>⟨_,p,false,J,zd,.inl ⟨J,.inr ⟨x,J⟩⟩,_,J,yi ?_⟩⟩;have B:=Aa.new (o:=.tup [.ty "tuple",.ty "list"]) D;exact⟨_,J,_,_,_,true,J,.str x,J,_,J,yS (k _ B)⟩
   |@tup m a xs h r=>
    refine⟨_,ze (ya (xa (zT nQ (by rfl) T.isinst qb (zc (pv 0) (zc (yl (zc (vX (v:=.ty "tuple") J T.tuple v8 J) (zc (vX (v:=.ty "list") J S.list vS J) zf))) zf))))
      (zm (zB (vZ (kt U.units0) (xS (N':=["one"]) (js:=[none]) J J (yZ (zq qC) (by lia)) trivial (xX (pv 0)) (λcl s H fp=>wA (i:=0) nV J (Or.inl J)) (λcl s H fp=>vt (xr (xa (lW G U J ad ab ac .nil uI (zc (pv 0) zf))))) (λcl s H fp=>pv 0)) (zV zf) (zR _)))) ye) wZ,?_⟩
    dsimp only[zH,Cx.nox,Cx.wish];refine⟨_,J,by show (2:Nat)<=_;exact X6 _ _,λp D=>⟨_,p,true,J,zd,.inr ⟨J,a,xs,J,.inl (Aa.new D _ _ h)⟩,_,J,yS ?_⟩⟩;have B:=Aa.new (o:=.tup [.ty "tuple",.ty "list"]) D;have h1:=B _ _ h;generalize c' H p (.tup [.ty "tuple",.ty "list"])=H1 at B h1;refine⟨_,J,a,J,⟨_,Ah.of h1⟩,λJ0 L=>?_⟩;have M:a≠J0:=zi h1 L;refine nU (λσ=>∃u,σ=[u]) ⟨none,J⟩ L (tS (xs:=xs) (by rw[zh M];exact h1) M) (λj σ H2 af O ⟨ag,hw⟩ I V=>?_) (λσ H2 I Y=>?_)
    .subst hw;have Z:xs.getD j .non∈xs:=by rw[XP,X1 O];exact RT O
     refine⟨_,J,_,J,((r _ Z).same B).same I,λah aa=>⟨_,J,yi (V _ _ ⟨_,J⟩ aa)⟩⟩
    .exact⟨X7 _,λq R=>⟨J0,q,[],J,J,Aa.new R _ _ Y,zd,k _ (B.trans (I.trans (Aa.new R)))⟩⟩
   |@lst m a xs h r=>
    refine⟨_,ze (ya (xa (zT nQ (by rfl) T.isinst qb (zc (pv 0) (zc (yl (zc (vX (v:=.ty "tuple") J T.tuple v8 J) (zc (vX (v:=.ty "list") J S.list vS J) zf))) zf))))
      (zm (zB (vZ (kt U.units0) (xS (N':=["one"]) (js:=[none]) J J (yZ (zq qC) (by lia)) trivial (xb (pv 0)) (λcl s H fp=>wA (i:=0) nV J (Or.inl J)) (λcl s H fp=>vt (xr (xa (lW G U J ad ab ac .nil uI (zc (pv 0) zf))))) (λcl s H fp=>pv 0)) (zV zf) (zR _)))) ye) wZ,?_⟩
    dsimp only[zH,Cx.nox,Cx.wish];refine⟨_,J,by show (2:Nat)<=_;exact X6 _ _,λp D=>⟨_,p,true,J,zd,.inr ⟨J,a,xs,J,.inr (Aa.new D _ _ h)⟩,_,J,yS ?_⟩⟩;have B:=Aa.new (o:=.tup [.ty "tuple",.ty "list"]) D;have h1:=B _ _ h;generalize c' H p (.tup [.ty "tuple",.ty "list"])=H1 at B h1;refine⟨_,J,a,J,⟨_,Ad.of h1⟩,λJ0 L=>?_⟩;have M:a≠J0:=zi h1 L;refine nU (λσ=>∃u,σ=[u]) ⟨none,J⟩ L (x8 (xs:=xs) (by rw[zh M];exact h1) M) (λj σ H2 af O ⟨ag,hw⟩ I V=>?_) (λσ H2 I Y=>?_)
    .subst hw;have Z:xs.getD j .non∈xs:=by rw[XP,X1 O];exact RT O
     refine⟨_,J,_,J,((r _ Z).same B).same I,λah aa=>⟨_,J,yi (V _ _ ⟨_,J⟩ aa)⟩⟩
    .exact⟨X7 _,λq R=>⟨J0,q,[],J,J,Aa.new R _ _ Y,zd,k _ (B.trans (I.trans (Aa.new R)))⟩⟩
inductive qO:Sp where
 |mk {vs:List V} {H:Hp} {Q:VK} {E:XK} (p d st:_) (c1:vs=[.ref p,.int d]) (c2:H p=some (.tup (xQ st))) (c3:∀q H',Aa H H'->H q=none->H' q=some (.tup (xQ (xU d st)))->Q (.ref q) H'):qO vs H Q E
inductive nY:Sp where
 |mk {vs:List V} {H:Hp} {Q:VK} {E:XK} (z v b q ds x:_) (j:Nat) (c1:vs=[v,.str x,.int j,.ref q]) (c2:Am z H) (c3:Aj z H v (yp b)) (c4:yn b) (c5:AD z H q ds) (c6:wn b ds) (c7:j<=x.length) (c8:x.length<=20000) (c9:∀H',Aa H H'->Q (.bl (wS b ds x j)) H'):nY vs H Q E
theorem Um(ms:List Mk):(RO ms.length).map (λj=>V.str (ms.getD j yq).1)=(ms.map (·.1)).map V.str:=by
 refine Pt (by simp) λi h1 h2=>?_;have B:i<ms.length:=by simpa using h2
 simp[B]
theorem Uo{B:Type}(ms:List B)(d:B)(g:B->Bool):((RO ms.length).map λj=>g (ms.getD j d)).any id=ms.any g:=by
 have e:(RO ms.length).map (λj=>g (ms.getD j d))=ms.map g:=by
  refine Pt (by simp) λi h1 h2=>?_;have D:i<ms.length:=by simpa using h2
  simp[D]
 rw[e,List.any_map];rfl
theorem BE:zK ["step","by","place","many","word","tongue","depth"] ["step","by"] (zq jc):=zP
theorem Up(F:Ao K "moved" "moved" jc f fd):Ag P w K mg base zD 1 f fd ["step","by"] qO:=by
 refine F.okA BE λg4 A outer s H vs Q E I h=>?_;obtain⟨p,d,st,rfl,G,k⟩:=h;have B:=BE.nd;refine⟨_,ze (xt (pv 0) (yR J (zF (zw (i:=2) B) (zF (zw (i:=3) B) (zF (zw (i:=4) B) (zF (zw (i:=5) B) (zF (zw (i:=6) B) yJ)))))))
  (zm (zB (yl (zc (zG yO (pv 2) (pv 1)) (xO 3 4 5 6))))),?_⟩
 dsimp only[zH,Cx.nox,Cx.wish];have J0:=yV;refine⟨_,J,p,_,J,Ah.of G,J,_,_,J,_,_,J,_,_,J,_,_,J,_,_,J,J,?_⟩;refine⟨_,J,_,J,_,_,J,J,_,J,_,J,_,J,_,J,by show (5:Nat)<=_;exact X6 _ _,λq D=>?_⟩;exact k q _ (Aa.new D) D zd
theorem BR:zK ["book","part","place","doors","rest","escape","ways","marks"] ["book","part","place","doors"] (zq qy):=zP
theorem dA:(["mark","door"]:List Str).Nodup:=by lia
theorem Uq:(["mark","rest"]:List Str).Nodup:=by lia
theorem Ur(F:Ao K "is_sure" "is_sure" qy f fd)(T:yu mg)(ay:Cl P w K mg base 1 "tongue_within" ["doors"] sf)(az:Cl P w K mg base 2 "possible_marks" ["book","doors"] qH):Ag P w K mg base zD 3 f fd ["book","part","place","doors"] nY:=by
 refine F.okA BR λg4 A outer s H vs Q E ae h=>?_;obtain⟨z,v,b,q,ds,x,j,rfl,aA,af,ag,ah,M,D,ai,k⟩:=h;have G:=BR.nd;have aB:Ak 1 _:=ae.mono (by decide);obtain⟨a,xs,rfl,aW,aC,aD,R⟩:=uS af;obtain⟨aE,aX,aj,_⟩:=id ag;refine⟨_,ze (rT (i:=4) G J (Or.inr J) (x0 v9 (pv 1) (xz (pv 2)) vd))
  (ze (xt (zx Ai (pv 0) (zA ay aB (zz 3)) (λ_ _=>rfl)) (yR J (zF (zw (i:=5) G) (zF (zw (i:=6) G) yJ))))
  (ze (ya (zZ xI (pv 4) (pv 5) (zR _)) (zm (zB wy)) ye)
  (ze (uJ (N':=["mark","door"]) (js:=[none,none]) (i:=7) J J G J (Or.inl J) (yZ (zq qy) (by lia)) trivial
    (xb (zA az ae (yk 0 3)))
    (λcl s H fp=>qc 2 rfl (zF (wA (i:=0) dA J (Or.inl J) (Or.inr J)) (zF (wA (i:=1) dA J (Or.inl J) (Or.inr J)) yJ))) (λcl s H fp=>wG) (λcl s H fp=>pv 0))
  (zm (zB (lI (zT (Xg J) (by rfl) T.any_ Xx (zc (xS (N':=["mark","rest"]) (js:=[none,some 4]) J J (yZ (zq qy) (by lia)) ⟨J,Or.inr (Or.inl J),J,trivial⟩ (xb (pv 7)) (λcl s H fp=>zw (i:=0) Uq) (λcl s H fp=>wG)
    (λcl s H fp=>sO (vZ tM (zT yL (by rfl) T.len b_len (zz 0)) (zT yL (by rfl) T.len b_len (zz 1)) (zR _)) (uu (kP QM Oj Ol fi (pv 0) (zz 1))))) zf)))))))),?_⟩
 dsimp only[zH,Cx.nox,Cx.wish];have aY:=yV;have a0:=yB;obtain⟨B,ak,O⟩:=ue M aE;have al:(zI ds).toNat=B:=by rw[ak];rfl
 obtain⟨c,d,a1,aF,a2,a3,aG,a4,a5,a6⟩:=vh (vi (b:=b) (i:=B) R O);have aH:xs[B]?=some (.ref c):=by
  have h1:B<xs.length:=zU O aD;have h2:xs.getD B .non=xs[B]:=by simp[h1]
  rw[X1 h1,←h2,aF]
 have aI:xi xs (zI ds)=some (.ref c):=by rw[ak];exact zy (j:=B) aH
 refine⟨_,J,_,J,_,J,x,J,by exact zC ai,?_⟩;refine⟨_,J,_,J,z,q,ds,J,ah,a,_,_,_,J,J,Ah.of aC,aI,c,_,J,Ah.of aG,J,_,_,J,_,_,J,J,?_⟩;unfold wS at k;rw[al] at k;have aJ:yC x (some (j:Int)) none=vm x j:=rfl;rw[aJ];have aK:(vm x j).length<=20000:=by
  have:=xn (vm x j);rw[show (vm x j).cps.toList=_ from nM x D,Qw,xn] at this;exact aZ ai this
 generalize vm x j=rs at *;refine⟨_,J,_,J,J,_,J,?_⟩;refine yc (λg=>?_) (λg=>?_)
 .have g':rs=(b.getD B zk).1:=by have:=Qxc g;injection this
  have:=k H (Aa.refl _);rw[Qxd g'] at this;exact this
 .have g':rs≠(b.getD B zk).1:=λe=>g (Qxd (by rw[e]));rw[decide_eq_false g'] at k;refine⟨_,J,_,J,z,.ref a,b,q,ds,J,aA,af,ag,ah,M,λpw vs a7 aL a8 S am=>?_⟩;have U:vs.length=(zY b ds).length:=by have:=am.length;simpa using this
  have ao:(zY b ds).length<=7:=by
   have aM:=(aj _ (yE zk O)).2.1;unfold zY yo;rw[al,X4,X5,X5,Qw];exact bL aM
  have aN:∀m∈zY b ds,m.1.length<=4:=λm aO=>(se (x:=x) (i:=j) aj M m.1 (qK aO)).2;refine⟨pw,J,⟨_,Ad.of S⟩,λW ap=>?_⟩;have aq:pw≠W:=zi S ap;refine vf (λj=>some (V.str ((zY b ds).getD j yq).1)) (λσ=>∃Y ar,σ=[Y,ar]) ⟨none,none,J⟩ ap (ww U ao) (x8 (xs:=vs) (by rw[zh aq];exact S) aq) (λj σ aP C D ⟨aQ,a9,hw⟩ Z aa=>?_) (λσ aP Z I=>?_)
  .subst hw;obtain⟨aR,ar,e,ba,aS,bb,bc⟩:=uX ((uY (ms:=zY b ds) (i:=j) am (zU D (RH U))).mono Z.x);rw[e];refine⟨aR,_,J,Ah.of aS,J,_,_,J,_,_,J,J,?_⟩;dsimp only[ve];rw[Qxb rfl];exact⟨_,J,aa _ _ ⟨_,_,J⟩ (Aa.refl _)⟩
  .rw[v7,U,Um] at I;refine⟨_,J,W,J,⟨_,Ad.of I⟩,λas au=>?_⟩;have av:W≠as:=zi I au;refine vf (λj=>some (V.bl (decide (rs.length<((zY b ds).getD j yq).1.length)&&xk ((zY b ds).getD j yq).1 rs 0))) (λσ=>∃Y,σ=[Y,some (.str rs)]) ⟨none,J⟩ au (by simp;exact zC ao) (x8 (xs:=((zY b ds).map (·.1)).map V.str) (by rw[zh av];exact I) av) (λj σ ab C D ⟨aQ,hw⟩ aw aa=>?_) (λσ ab aw ax=>?_)
   .subst hw;have ac:j<(zY b ds).length:=by simpa using D
    have e:(((zY b ds).map (·.1)).map V.str).getD j .non=V.str ((zY b ds).getD j yq).1:=by simp[ac]
    have aT:=aN ((zY b ds).getD j yq) (by rw[XP,X1 ac];exact RT ac);rw[e];have J0:=aa [some (.str ((zY b ds).getD j yq).1),some (.str rs)] ab ⟨_,J⟩ (Aa.refl _);generalize ((zY b ds).getD j yq).1=L at *;dsimp only[ve,va];rw[Qxb rfl];refine⟨_,J,L,J,by exact zC aT,_,J,rs,J,by exact zC aK,_,_,J,J,_,J,?_⟩;refine yc (λad=>?_) (λad=>?_)
    .have h2:rs.length<L.length:=by have:=Qxc ad;exact Qs.1 this
     rw[Qxd h2,OH] at J0;exact⟨_,J,J,_,J,L,rs,J,J,J0⟩
    .have h2:¬rs.length<L.length:=λh=>ad (Qxd (wx h));rw[decide_eq_false h2,PU] at J0;exact J0
   .have aU:yM (λj=>(some (V.bl (decide (rs.length<((zY b ds).getD j yq).1.length)&&xk ((zY b ds).getD j yq).1 rs 0))).toList) (((zY b ds).map (·.1)).map V.str).length=((RO (zY b ds).length).map λj=>decide (rs.length<((zY b ds).getD j yq).1.length)&&xk ((zY b ds).getD j yq).1 rs 0).map V.bl:=by
     rw[v7,X5,X5,R6];rfl
    rw[aU] at ax;refine⟨as,_,J,Ad.of ax,_,J,?_⟩;have aV:=Uo (zY b ds) yq (λm=>decide (rs.length<m.1.length)&&xk m.1 rs 0);rw[aV];have:=k ab ((aL.trans Z).trans aw);rw[Ko,OH] at this;exact this
noncomputable abbrev zn(b:Bk)(x:Str)(ds:List zp)(n:Nat):wR:=yx b x ⟨0,ds,[]⟩ n
inductive qP(tb:Addr):Sp where
 |mk {vs:List V} {H:Hp} {Q:VK} {E:XK} (z v b q ds x:_) (c1:vs=[v,.str x,.ref q]) (c2:Am z H) (c3:q≠z) (c4:Aj z H v (yp b)) (c5:yn b) (c6:AD z H q ds) (c7:As b ds) (c8:ds.length+x.length<=20000) (c9:zO tb H) (ho:∀p fv n H',ug q tb H H'->H p=none->H' p=some (.lst fv)->(∀j,j<n->(zn b x ds j).b'<x.length/\wS b (zn b x ds j).ds x (zn b x ds j).b'=true)->¬((zn b x ds n).b'<x.length/\wS b (zn b x ds n).ds x (zn b x ds n).b'=true)->Ab z H' fv ((zn b x ds n).ss.map yb)->AD z H' q (zn b x ds n).ds->Am z H'->zO tb H'->Q (.ref p) H'):qP tb vs H Q E
inductive qQ(tb:Addr):Sp where
 |mk {vs:List V} {H:Hp} {Q:VK} {E:XK} (z v b q ds x:_) (c1:vs=[v,.str x,.ref q]) (c2:Am z H) (c3:q≠z) (c4:Aj z H v (yp b)) (c5:yn b) (c6:AD z H q ds) (c7:As b ds) (c8:ds.length+x.length<=20000) (c9:zO tb H) (ho:∀p fv n H',ug q tb H H'->H p=none->H' p=some (.lst fv)->(∀j,j<n->(zn b x ds j).b'<x.length)->(zn b x ds n).b'=x.length->Ab z H' fv ((zn b x ds n).ss.map yb)->AD z H' q (zn b x ds n).ds->Am z H'->zO tb H'->Q (.ref p) H'):qQ tb vs H Q E
structure qR(tb:Addr)(z:Addr)(H:Hp)(b:Bk)(x:Str)(ds:List zp)(v:V)(q pf:Addr)(n:Nat)(H3:Hp):Prop where
 bx:ug q tb H H3
 bag:Am z H3
 rep:Aj z H3 v (yp b)
 pds:AD z H3 q (zn b x ds n).ds
 lam:zO tb H3
 fv:∃fv,H3 pf=some (.lst fv)/\Ab z H3 fv ((zn b x ds n).ss.map yb)
theorem dD{b:Bk}{x:Str}{ds:List zp}{B:Addr}{G D:Hp}{I:List V}(U:∀t∈b,An b.length t)(Y:1<=b.length)(af:As b ds)(M:(zn b x ds n).b'<x.length)(ag:q≠z)(ah:B≠z)(Z:q≠B)(ai:H B=none)(W:qR tb z H b x ds v q B n G)(aa:G B=some (.lst I))(aj:Ab z G I ((zn b x ds n).ss.map yb))(J0:ug q tb G D)(ak:G p=none)(O:D p=some (.tup (xQ (zN b (zn b x ds n).ds x (zn b x ds n).b' (zL b (zn b x ds n).ds x (zn b x ds n).b')).1)))(ab:AD z D q (zN b (zn b x ds n).ds x (zn b x ds n).b' (zL b (zn b x ds n).ds x (zn b x ds n).b')).2)(al:zO tb D) :
  D B=some (.lst I)/\qR tb z H b x ds v q B (n+1) (c' D B (.lst (I++[.ref p])))/\c' D B (.lst (I++[.ref p])) p=some (.tup (xQ (zN b (zn b x ds n).ds x (zn b x ds n).b' (zL b (zn b x ds n).ds x (zn b x ds n).b')).1)):=by
 obtain⟨am,ac,ao,ap,aq,_⟩:=W;have ar:sj b x ds (zn b x ds n):=sk (x:=x) U Y af n;obtain⟨aE,p2,p3,p4,p5,as⟩:=vj (ds:=(zn b x ds n).ds) (x:=x) U ar.bk Y M;obtain⟨aF,ad,_⟩:=ap;obtain⟨ps,L⟩:=aq.tbl;have au:=Aj.but2 ad L J0 ao (.tup (wa b));have av:=Ab.but2 ad L J0 aj (xf _);have F:=J0 _ _ Z.symm (zj aa L) aa;have aw:Am z D:=by
  obtain⟨R,S,e⟩:=ac;exact⟨R,S,J0 _ _ ag.symm (zj e L) e⟩
 have ax:p≠z:=ac.ne ak;have ay:(zn b x ds (n+1)).ss=(zn b x ds n).ss++[(zN b (zn b x ds n).ds x (zn b x ds n).b' (zL b (zn b x ds n).ds x (zn b x ds n).b')).1]:=by show (yx b x _ (n+1)).ss=_;rw[qL M]
 have az:(zn b x ds (n+1)).ds=(zN b (zn b x ds n).ds x (zn b x ds n).b' (zL b (zn b x ds n).ds x (zn b x ds n).b')).2:=by show (yx b x _ (n+1)).ds=_;rw[qL M]
 rw[←az] at ab;have aA:Aj z D (.ref p) (yb (zN b (zn b x ds n).ds x (zn b x ds n).b' (zL b (zn b x ds n).ds x (zn b x ds n).b')).1):=.tup O ax (.cons (.int _) (.cons (.int _) (.cons (.str _ (zC as)) (.cons (.int _) (.cons (.int _) .nil)))));refine⟨F,⟨λae o h1 h2 e=>?_,?_,?_,?_,?_,_,zd,?_⟩,?_⟩
 .rw[zh (zi e ai)];exact J0 ae o h1 h2 (am ae o h1 h2 e)
 .obtain⟨R,S,e⟩:=aw;exact⟨R,S,by rw[zh ah.symm];exact e⟩
 .exact Aj.updL F au (.tup (wa b))
 .obtain⟨aB,aC,aD⟩:=ab;exact⟨aB,by rw[zh Z];exact aC,Ab.updL F aD (vF _)⟩
 .exact al.sameX F Ac.refl.c'
 .rw[ay,T5];exact Ab.updL F (av.append (.cons aA .nil)) ((xf _).append (xf [_]))
 .rw[zh (zj O F)];exact O
theorem Cd:zK ["book","text","doors","told","place","step"] ["book","text","doors"] (zq ja):=zP
theorem Us(F:Ao K "read_on" "read_on" ja f fd)(T:yu mg)(as:Cl P w K mg base 4 "read_step" ["book","text","place","doors"] (si tb)):Ag P w K mg base zD 5 f fd ["book","text","doors"] (qQ tb):=by
 refine F.okA Cd λg4 A outer s H vs Q E au h=>?_;obtain⟨z,v,b,q,ds,x,rfl,af,ag,av,ah,ai,aj,aw,ax,k⟩:=h;have O:=Cd.nd;obtain⟨S,aZ,Y,_⟩:=id ah;refine⟨_,ze (zu (i:=3) O (zV zf))
  (ze (zu (i:=4) O zg)
  (ze (uw Rn (zZ vb (pv 4) (zT yL (by rfl) T.len b_len (zz 1)) (zR _))
   (ze (zu (i:=5) O (zA as au (xO 0 1 4 2)))
   (ze (yy (yW U1 S8 S9 xC (pv 3) (zz 5)))
   (zm (rV (i:=4) O J (Or.inl J) (zx Ai (pv 5) zg (λ_ _=>rfl)) rW)))))
  (zm (zB (pv 3))))),?_⟩
 dsimp only[zH,Cx.nox,Cx.wish];have a0:=yV;have a1:=yB;refine⟨X7 _,λD G=>?_⟩;have I:=Aa.new (o:=.lst []) G;have ay:D≠z:=af.ne G;have az:q≠D:=zi ai.choose_spec.1 G;refine uy (λσ J0=>∃n u,σ=[some v,some (.str x),some (.ref q),some (.ref D),some (.int (zn b x ds n).b'),u]/\(∀j,j<n->(zn b x ds j).b'<x.length)/\qR tb z H b x ds v q D n J0)
  (λσ J0=>match σ[4]? with|some (some (V.int i))=>x.length-i.toNat|_=>0) ⟨0,none,J,λj h=>absurd h (QJ _),λaA o _ _ e=>I aA o e,af.same I,av.mono I.x,ai.same I,ax.same I,[],zd,.nil⟩ ?_ ?_
 .rintro σ J0 ⟨n,u,rfl,ak,W⟩;have L:sj b x ds (zn b x ds n):=sk (x:=x) Y S aj n;have aB:=L.le;refine⟨_,J,_,J,x,J,by omega,_,_,J,J,_,J,?_⟩;refine yc (λB=>?_) (λB=>?_)
  .have B:(zn b x ds n).b'<x.length:=by have:=Qxc B;exact Qs.1 this
   show (xH _ _) _ _ _;refine yT λa2 aC _ _ _=>zt λU Z=>?_;have a3:=L.dl;have a4:=L.sl;obtain⟨al,aa,am,ab,ac,M,ad,R⟩:=id W;refine⟨_,J,_,J,_,J,_,J,z,v,b,q,(zn b x ds n).ds,x,(zn b x ds n).b',J,aa,ag,am,ah,ab,L.bk,B,by exact og aw,by omega,ac,λp aD aE aF aG aH aI=>Z _ _ (zt λU Z=>?_)⟩;obtain⟨ao,ap,aq⟩:=dD Y S aj B ag ay az G W ad R aE aF aG aH aI;have a5:M.length=(zn b x ds n).ss.length:=by have:=R.length;simpa using this
   refine⟨_,J,.inl ⟨J,_,Ad.of ao⟩,_,J,D,M,_,J,J,ao,by omega,Z _ _ ?_⟩;generalize c' aD D (.lst (M++[.ref p]))=a6 at ap aq;refine⟨_,J,_,J,p,_,1,_,J,J,Ah.of aq,zy (j:=1) J,_,_,J,J,?_⟩;obtain⟨ar,p2,p3,p4,p5,a7⟩:=vj (ds:=(zn b x ds n).ds) (x:=x) Y L.bk S B;have aJ:((zn b x ds n).b':Int)+(zN b (zn b x ds n).ds x (zn b x ds n).b' (zL b (zn b x ds n).ds x (zn b x ds n).b')).1.2.1=((zn b x ds (n+1)).b':Int):=by
    have ae:(zn b x ds (n+1)).b'=(zn b x ds n).b'+(zN b (zn b x ds n).ds x (zn b x ds n).b' (zL b (zn b x ds n).ds x (zn b x ds n).b')).1.2.1.toNat:=by
     show (yx b x _ (n+1)).b'=_;rw[qL B]
    rw[ae];exact lx ar
   refine aC _ _ ⟨⟨n+1,some (.ref p),?_,λj aK=>?_,ap⟩,?_⟩
   .show [some v,some (.str x),some (.ref q),some (.ref D),some (V.int (((zn b x ds n).b':Int)+(zN b (zn b x ds n).ds x (zn b x ds n).b' (zL b (zn b x ds n).ds x (zn b x ds n).b')).1.2.1)),some (.ref p)]=_;rw[aJ]
   .rcases Pg.mp aK with h|h
    .exact ak j h
    .rw[h];exact B
   .show x.length-(((zn b x ds n).b':Int)+(zN b (zn b x ds n).ds x (zn b x ds n).b' (zL b (zn b x ds n).ds x (zn b x ds n).b')).1.2.1).toNat<x.length-((zn b x ds n).b':Int).toNat;exact lu B ar
  .have aL:(zn b x ds n).b'=x.length:=by
    have:¬(((zn b x ds n).b':Int)<(x.length:Int)):=λq=>B (Qxd q);exact lC aB this
   obtain⟨al,aa,am,ab,ac,M,ad,R⟩:=W;exact⟨_,J,k D M n J0 al G ad ak aL R ab aa ac⟩
 .rintro σ J0 a8 a9 aM ⟨aN,ae,aO,aP,aQ,aR,aS,aT,aU,aV,aW,aX,aY,h⟩;exact⟨aN,ae,aO,aP,aQ,aR,aS,aT,aU,aV,aW,aX,aY,aM _ _ h⟩
theorem AN:zK ["book","part","doors","told","place","step"] ["book","part","doors"] (zq jg):=zP
theorem Ut(F:Ao K "sure_steps" "sure_steps" jg f fd)(T:yu mg)(aD:Cl P w K mg base 4 "read_step" ["book","text","place","doors"] (si tb))(aE:Cl P w K mg base 3 "is_sure" ["book","part","place","doors"] nY):Ag P w K mg base zD 5 f fd ["book","part","doors"] (qP tb):=by
 refine F.okA AN λg4 A outer s H vs Q E al h=>?_;obtain⟨z,v,b,q,ds,x,rfl,am,ao,aF,af,ap,aq,ar,aG,k⟩:=h;have ac:=AN.nd;have aH:Ak 3 _:=al.mono (by decide);obtain⟨ag,bz,ad,_⟩:=id af;refine⟨_,ze (zu (i:=3) ac (zV zf))
  (ze (zu (i:=4) ac zg)
  (ze (uw Rn (PW.pt (ut (zZ vb (pv 4) (zT yL (by rfl) T.len b_len (zz 1)) (zR _)) (ur (xa (zA aE aH (xO 0 1 4 2))))))
   (ze (zu (i:=5) ac (zA aD al (xO 0 1 4 2)))
   (ze (yy (yW U1 S8 S9 xC (pv 3) (zz 5)))
   (zm (rV (i:=4) ac J (Or.inl J) (zx Ai (pv 5) zg (λ_ _=>rfl)) rW)))))
  (zm (zB (pv 3))))),?_⟩
 dsimp only[zH,Cx.nox,Cx.wish];have bA:=yV;have bB:=yB;refine⟨X7 _,λB J0=>?_⟩;have S:=Aa.new (o:=.lst []) J0;have aI:B≠z:=am.ne J0;have aJ:q≠B:=zi ap.choose_spec.1 J0;refine uy (λσ L=>∃n u,σ=[some v,some (.str x),some (.ref q),some (.ref B),some (.int (zn b x ds n).b'),u]/\(∀j,j<n->(zn b x ds j).b'<x.length/\wS b (zn b x ds j).ds x (zn b x ds j).b'=true)/\qR tb z H b x ds v q B n L)
  (λσ L=>match σ[4]? with|some (some (V.int i))=>x.length-i.toNat|_=>0) ⟨0,none,J,λj h=>absurd h (QJ _),λM o _ _ e=>S M o e,am.same S,aF.mono S.x,ap.same S,aG.same S,[],zd,.nil⟩ ?_ ?_
 .rintro σ aK ⟨n,u,rfl,ah,as⟩;have O:sj b x ds (zn b x ds n):=sk (x:=x) ad ag aq n;have aL:=O.le;refine⟨_,J,_,J,x,J,by omega,_,_,J,J,_,J,?_⟩;refine yc (λD=>?_) (λD=>?_)
  .have D:(zn b x ds n).b'<x.length:=by have:=Qxc D;exact Qs.1 this
   have bC:=O.dl;have bD:=O.sl;obtain⟨aM,au,av,aw,aN,aO,aP,aQ⟩:=id as;refine⟨_,J,_,J,_,J,_,J,z,v,b,q,(zn b x ds n).ds,x,(zn b x ds n).b',J,au,av,af,aw,O.bk.ok ad,by exact aL,by exact og ar,λL G=>?_⟩;have W:qR tb z H b x ds v q B n L:=⟨λM o h1 h2 e=>G M o (aM M o h1 h2 e),au.same G,av.mono G.x,aw.same G,aN.same G,aO,G _ _ aP,aQ.mono G.x⟩;refine⟨_,J,?_⟩;cases hsu:wS b (zn b x ds n).ds x (zn b x ds n).b' with
   |false=>
    refine yi ?_;obtain⟨ae,Y,ai,Z,aa,I,ab,R⟩:=W;exact⟨_,J,k B I n L ae J0 ab ah (λq=>by rw[hsu] at q;exact absurd q.2 (by decide)) R Z Y aa⟩
   |true=>
    refine yS ?_;show (xH _ _) _ _ _;refine yT λbE aR _ _ _=>zt λU aj=>?_;obtain⟨ae,Y,ai,Z,aa,I,ab,R⟩:=id W;refine⟨_,J,_,J,_,J,_,J,z,v,b,q,(zn b x ds n).ds,x,(zn b x ds n).b',J,Y,ao,ai,af,Z,O.bk,D,by exact og ar,by omega,aa,λp aS aT aU aV aW aX=>aj _ _ (zt λU aj=>?_)⟩;obtain⟨ax,ay,az⟩:=dD ad ag aq D ao aI aJ J0 W ab R aT aU aV aW aX;have bF:I.length=(zn b x ds n).ss.length:=by have:=R.length;simpa using this
    refine⟨_,J,.inl ⟨J,_,Ad.of ax⟩,_,J,B,I,_,J,J,ax,by omega,aj _ _ ?_⟩;generalize c' aS B (.lst (I++[.ref p]))=bG at ay az;refine⟨_,J,_,J,p,_,1,_,J,J,Ah.of az,zy (j:=1) J,_,_,J,J,?_⟩;obtain⟨aA,p2,p3,p4,p5,bH⟩:=vj (ds:=(zn b x ds n).ds) (x:=x) ad O.bk ag D;have aY:((zn b x ds n).b':Int)+(zN b (zn b x ds n).ds x (zn b x ds n).b' (zL b (zn b x ds n).ds x (zn b x ds n).b')).1.2.1=((zn b x ds (n+1)).b':Int):=by
     have ak:(zn b x ds (n+1)).b'=(zn b x ds n).b'+(zN b (zn b x ds n).ds x (zn b x ds n).b' (zL b (zn b x ds n).ds x (zn b x ds n).b')).1.2.1.toNat:=by
      show (yx b x _ (n+1)).b'=_;rw[qL D]
     rw[ak];exact lx aA
    refine aR _ _ ⟨⟨n+1,some (.ref p),?_,λj aZ=>?_,ay⟩,?_⟩
    .show [some v,some (.str x),some (.ref q),some (.ref B),some (V.int (((zn b x ds n).b':Int)+(zN b (zn b x ds n).ds x (zn b x ds n).b' (zL b (zn b x ds n).ds x (zn b x ds n).b')).1.2.1)),some (.ref p)]=_;rw[aY]
    .rcases Pg.mp aZ with h|h
     .exact ah j h
     .rw[h];exact⟨D,hsu⟩
    .show x.length-(((zn b x ds n).b':Int)+(zN b (zn b x ds n).ds x (zn b x ds n).b' (zL b (zn b x ds n).ds x (zn b x ds n).b')).1.2.1).toNat<x.length-((zn b x ds n).b':Int).toNat;exact lu D aA
  .have a0:¬(zn b x ds n).b'<x.length:=λq=>D (Qxd (wx q));refine yi ?_;obtain⟨ae,Y,ai,Z,aa,I,ab,R⟩:=as;exact⟨_,J,k B I n aK ae J0 ab ah (λq=>a0 q.1) R Z Y aa⟩
 .rintro σ L bI bJ aB ⟨a1,ak,a2,a3,a4,a5,a6,a7,a8,a9,ba,aC,bb,h⟩;refine⟨a1,ak,a2,a3,a4,a5,a6,a7,a8,a9,ba,aC,bb,?_⟩;cases aC with
  |false=>exact aB _ _ h
  |true=>
   obtain⟨bc,bd,be,bf,bg,bh,bi,bj,z',bk,M,q',bl,x',bm,bn,bo,bp,bq,br,bs,bt,bu,bv⟩:=h;refine⟨bc,bd,be,bf,bg,bh,bi,bj,z',bk,M,q',bl,x',bm,bn,bo,bp,bq,br,bs,bt,bu,λH' bw=>?_⟩;obtain⟨c,bx,h⟩:=bv H' bw;exact⟨c,bx,aB _ _ h⟩
noncomputable abbrev jI:Stmt:=xj qA 0
noncomputable abbrev jJ:Stmt:=xj qA 1
noncomputable abbrev jL:Stmt:=xj qA 2
noncomputable abbrev jM:Stmt:=xj qA 3
noncomputable abbrev qS:Stmt:=xj qA 4
noncomputable def yF(v:V)(rs:Str)(pl:Int)(q:Addr):List (Str×V):=[("book",v),("rest",.str rs),("place",.int pl),("doors",.ref q)]
theorem n1:¬(("book":Str)="rest"):=by lia
theorem n2:¬(("book":Str)="place"):=by lia
theorem n3:¬(("book":Str)="doors"):=by lia
theorem n4:¬(("rest":Str)="place"):=by lia
theorem n5:¬(("rest":Str)="doors"):=by lia
theorem n6:¬(("place":Str)="doors"):=by lia
theorem wL(f g:Str)(v:V)(r:List (Str×V)):((g,v)::r).lookup f=if f=g then some v else r.lookup f:=by
 rw[QC];by_cases h:f=g
 .have B:(f==g)=true:=beq_iff_eq.mpr h;rw[B,Qxb h]
 .have B:(f==g)=false:=beq_eq_false_iff_ne.mpr h;rw[B,Qxa h]
section
variable (v:V)(rs rs':Str)(pl pl':Int)(q q':Addr)
theorem dF:(yF v rs pl q).lookup ("book":Str)=some v:=by unfold yF;rw[wL,Qxb rfl]
theorem nZ:(yF v rs pl q).lookup ("rest":Str)=some (.str rs):=by unfold yF;rw[wL,Qxa (Q3 n1),wL,Qxb rfl]
theorem dG:(yF v rs pl q).lookup ("place":Str)=some (.int pl):=by unfold yF;rw[wL,Qxa (Q3 n2),wL,Qxa (Q3 n4),wL,Qxb rfl]
theorem dH:(yF v rs pl q).lookup ("doors":Str)=some (.ref q):=by unfold yF;rw[wL,Qxa (Q3 n3),wL,Qxa (Q3 n5),wL,Qxa (Q3 n6),wL,Qxb rfl]
theorem Uu{m:Str}(h1:¬m="book")(h2:¬m="rest")(B:¬m="place")(D:¬m="doors"):(yF v rs pl q).lookup m=none:=by unfold yF;rw[wL,Qxa h1,wL,Qxa h2,wL,Qxa B,wL,Qxa D];rfl
theorem jN:zJ "rest" (.str rs') (yF v rs pl q)=yF v rs' pl q:=by
 unfold yF;show (if ("book":Str)="rest" then _ else _::(if ("rest":Str)="rest" then _ else _))=_;rw[Qxa n1,Qxb rfl]
theorem dI:zJ "place" (.int pl') (yF v rs pl q)=yF v rs pl' q:=by
 unfold yF;show (if ("book":Str)="place" then _ else _::(if ("rest":Str)="place" then _ else _::(if ("place":Str)="place" then _ else _)))=_;rw[Qxa n2,Qxa n4,Qxb rfl]
theorem Uv:zJ "doors" (.ref q') (yF v rs pl q)=yF v rs pl q':=by
 unfold yF;show (if ("book":Str)="doors" then _ else _::(if ("rest":Str)="doors" then _ else _::(if ("place":Str)="doors" then _ else _::(if ("doors":Str)="doors" then _ else _))))=_;rw[Qxa n3,Qxa n5,Qxa n6,Qxb rfl]
theorem Uw:zJ "doors" (.ref q) (zJ "place" (.int pl) (zJ "rest" (.str rs) (zJ "book" v [])))=yF v rs pl q:=by
 show zJ "doors" (.ref q) (zJ "place" (.int pl) (if ("book":Str)="rest" then _ else _::[(("rest":Str),V.str rs)]))=_;rw[Qxa n1];show zJ "doors" (.ref q) (if ("book":Str)="place" then _ else _::(if ("rest":Str)="place" then _ else _::[(("place":Str),V.int pl)]))=_;rw[Qxa n2,Qxa n4];show (if ("book":Str)="doors" then _ else _::(if ("rest":Str)="doors" then _ else _::(if ("place":Str)="doors" then _ else _::[(("doors":Str),V.ref q)])))=_;rw[Qxa n3,Qxa n5,Qxa n6];rfl
end
theorem Ux:∀m∈([("__init__":Str),"begin_anew","feed","finish","hand_out","standing","held"]:List Str),¬m="book"/\¬m="rest"/\¬m="place"/\¬m="doors":=by lia
theorem sr{rs:Str}{pl:Int}{m:Str}(h:m∈([("__init__":Str),"begin_anew","feed","finish","hand_out","standing","held"]:List Str)):(yF v rs pl q).lookup m=none:=by
 obtain⟨h1,h2,B,D⟩:=Ux m h;exact Uu v rs pl q h1 h2 B D
structure su(K:W.Frag)(mg:Str->Option X3)(C:Addr):Prop where
 cl:Bh K C
 nB:Aq K C "book"
 nR:Aq K C "rest"
 nP:Aq K C "place"
 nD:Aq K C "doors"
 sum:mg "sum"=none
noncomputable def rA(r q t:Addr)(H H':Hp):Prop:=∀b o,b≠r->b≠q->b≠t->H b=some o->H' b=some o
mutual
theorem Aj.but3{z r q t C dx:Addr}{H H':Hp}{l:List V}{fs:List (Str×V)}{ps:Array X3}(B:H r=some (.ins C dx fs))(F:H q=some (.lst l))(ht:H t=some (.tbl ps))(s:rA r q t H H'):∀ {v:V}{d:D},Aj z H v d->xJ d->Aj z H' v d
 |_,_,.non,_=>.non
 |_,_,.bl b,_=>.bl b
 |_,_,.int i,_=>.int i
 |_,_,.str x h,_=>.str x h
 |_,_,.tup h G I,.tup k=>.tup (s _ _ (zj h B) (zj h F) (zj h ht) h) G (Ab.but3 B F ht s I k)
theorem Ab.but3{z r q t C dx:Addr}{H H':Hp}{l:List V}{fs:List (Str×V)}{ps:Array X3}(B:H r=some (.ins C dx fs))(F:H q=some (.lst l))(ht:H t=some (.tbl ps))(s:rA r q t H H'):∀ {vs:List V}{ds:List D},Ab z H vs ds->Av ds->Ab z H' vs ds
 |_,_,.nil,_=>.nil
 |_,_,.cons h k,.cons h' J0=>.cons (Aj.but3 B F ht s h h') (Ab.but3 B F ht s k J0)
end
mutual
theorem Aj.insU{z r C dx F:Addr}{H:Hp}{fs hz:List (Str×V)}(B:H r=some (.ins C dx fs)):∀ {v:V}{d:D},Aj z H v d->Aj z (c' H r (.ins C F hz)) v d
 |_,_,.non=>.non
 |_,_,.bl b=>.bl b
 |_,_,.int i=>.int i
 |_,_,.str x h=>.str x h
 |_,_,.tup h G I=>.tup (by rw[zh (zj h B)];exact h) G (Ab.insU B I)
 |_,_,.lst h G I=>.lst (by rw[zh (zj h B)];exact h) G (Ab.insU B I)
theorem Ab.insU{z r C dx F:Addr}{H:Hp}{fs hz:List (Str×V)}(B:H r=some (.ins C dx fs)):∀ {vs:List V}{ds:List D},Ab z H vs ds->Ab z (c' H r (.ins C F hz)) vs ds
 |_,_,.nil=>.nil
 |_,_,.cons h k=>.cons (Aj.insU B h) (Ab.insU B k)
end
inductive qT(tb:Addr):Sp where
 |mk {vs:List V} {H:Hp} {Q:VK} {E:XK} (z v b q x:_) (c1:vs=[v,.str x,.ref q]) (c2:Am z H) (c3:q≠z) (c4:Aj z H v (yp b)) (c5:yn b) (c6:H q=some (.lst [])) (c7:x.length<=20000) (c8:zO tb H) (c9:∀p fv n H',ug q tb H H'->H p=none->H' p=some (.lst fv)->(zb b x n).b'=x.length->Ab z H' fv ((zb b x n).ss.map yb)->AD z H' q (zb b x n).ds->Am z H'->zO tb H'->Q (.ref p) H'):qT tb vs H Q E
inductive rB(tb:Addr):Sp where
 |mk {vs:List V} {H:Hp} {Q:VK} {E:XK} (z v b x:_) (c1:vs=[v,.str x]) (c2:Am z H) (c3:Aj z H v (yp b)) (c4:yn b) (c5:x.length<=20000) (c6:zO tb H) (c7:∀p fv n H',ym tb H H'->H p=none->H' p=some (.lst fv)->(zb b x n).b'=x.length->Ab z H' fv ((zb b x n).ss.map yb)->Am z H'->zO tb H'->Q (.ref p) H'):rB tb vs H Q E
theorem jO(vs:List V)(H:Hp)(Q:VK)(E:XK)(h:qT tb vs H Q E):qQ tb vs H Q E:=by
 obtain⟨z,v,b,q,x,G,I,J0,L,M,O,ab,R,S⟩:=h;refine⟨z,v,b,q,[],x,G,I,J0,L,M,⟨[],O,.nil⟩,(λd U=>nomatch U),by show 0+x.length<=20000;omega,R,λp W n H' h1 h2 Y _ B D F Z aa=>?_⟩;have e:=dt b x n;unfold zn at B D F;rw[←e] at B D F;exact S p W n H' h1 h2 Y B D F Z aa
theorem Uy:zK ["book","text"] ["book","text"] (zq jd):=zP
theorem Uz(F:Ao K "steps" "steps" jd f fd)(J0:Cl P w K mg base 5 "read_on" ["book","text","doors"] (qT tb)):Ag P w K mg base zD 6 f fd ["book","text"] (rB tb):=by
 refine F.okA Uy λg4 A outer s H vs Q E L h=>?_;obtain⟨z,v,b,x,rfl,G,M,O,R,S,k⟩:=h;refine⟨_,zm (zB (zA J0 L (zc (pv 0) (zc (pv 1) (zc (zV zf) zf))))),?_⟩;refine⟨_,J,_,J,X7 _,λq D=>?_⟩;have B:=Aa.new (o:=.lst []) D;refine⟨z,v,b,q,x,J,G.same B,G.ne D,M.mono B.x,O,zd,R,S.same B,λp U n H2 V W Y Z aa ad ab ac=>?_⟩;exact k p U n H2 (λI o h e=>V I o (zi e D) h (B I o e)) (B.free W) Y Z aa ab ac
noncomputable abbrev xV:zQ:=(0,0,⟨#[]⟩,0,0)
theorem qU(r:Aj z H v (yb d)):∃a,v=.ref a/\a≠z/\H a=some (.tup (xQ d))/\d.2.2.1.length<=1000:=by
 cases r with
 |tup h B r=>
  cases r with
  |cons D r=>
   cases r with
   |cons F r=>
    cases r with
    |cons G r=>
     cases r with
     |cons I r=>
      cases r with
      |cons J0 r=>
       cases r;cases D;cases F;cases I;cases J0;cases G with
       |str _ L=>exact⟨_,J,B,h,L⟩
theorem qV{D:List V}(R:Ab z H D (B.map yb))(h:t<B.length):Aj z H (D.getD t .non) (yb (B.getD t xV)):=by
 have:=R.get (i:=t) (by simp;exact h);simpa [h] using this
theorem dJ(s:zQ):xJ (yb s):=.tup (.cons (.int _) (.cons (.int _) (.cons (.str _) (.cons (.int _) (.cons (.int _) .nil)))))
theorem jP(h:H p=some (.tup (xQ d)))(B:p≠z)(D:d.2.2.1.length<=1000):Aj z H (.ref p) (yb d):=.tup h B (.cons (.int _) (.cons (.int _) (.cons (.str _ D) (.cons (.int _) (.cons (.int _) .nil)))))
theorem dL{D:Type}(f:zQ->D)(B:List zQ):(RO B.length).map (λi=>f (B.getD i xV))=B.map f:=by
 refine Pt (by simp) λi h1 h2=>?_;have F:i<B.length:=by simpa using h2
 simp[F]
noncomputable def dM(s:zQ):D:=.tup [.int s.2.2.2.1,.int s.2.2.2.2]
noncomputable def wc(B:List zQ):List D:=B.flatMap λs=>R3 s.2.1.toNat (dM s)
theorem jQ(B:List zQ)(s:zQ):wc (B++[s])=wc B++R3 s.2.1.toNat (dM s):=by
 unfold wc;rw[OA];simp
theorem dO(h:t<B.length):B.take (t+1)=B.take t++[B.getD t xV]:=by
 rw[Ks,XP,X1 h];rfl
noncomputable def wo(l:List Int)(s:zQ):List Int:=if s.2.2.1=YP "open" then l++[s.1] else if s.2.2.1=YP "close" then l.dropLast else l
noncomputable def uh(B:List zQ):List Int:=B.foldl wo []
theorem dP(B:List zQ)(s:zQ):uh (B++[s])=wo (uh B) s:=by
 unfold uh;rw[Js];rfl
noncomputable def dQ(B:List zQ):Prop:=∀t,t<B.length->(B.getD t xV).2.2.1=YP "close"->uh (B.take t)≠[]
theorem UA:YP "cut"≠YP "open":=by lia
theorem dR:YP "cut"≠YP "close":=by lia
theorem UB:YP "escape"≠YP "open":=by lia
theorem dS:YP "escape"≠YP "close":=by lia
theorem UC:YP "sign"≠YP "open":=by lia
theorem dU:YP "sign"≠YP "close":=by lia
theorem UD:YP "close"≠YP "open":=by lia
theorem UE:YP "open"≠YP "close":=by lia
theorem UF:YP ""≠YP "open":=by lia
theorem dW:YP ""≠YP "close":=by lia
theorem UG(b:Bk)(ds:List zp)(x:Str)(i:Nat)(m:Str):wo (ds.map (·.1)) (zN b ds x i m).1=(zN b ds x i m).2.map (·.1)/\((zN b ds x i m).1.2.2.1=YP "close"->ds≠[]):=by
 unfold zN;split
 .split
  .exact⟨by unfold wo;rw[Qxa UA,Qxa dR],λe=>absurd e dR⟩
  .exact⟨by unfold wo;rw[Qxa UB,Qxa dS],λe=>absurd e dS⟩
 .split
  .exact⟨by unfold wo;rw[Qxa UC,Qxa dU],λe=>absurd e dU⟩
  .split
   .rename_i h;exact⟨by unfold wo;rw[Qxa UD,Qxb J,Q2],λ_=>h.1⟩
   .split
    .exact⟨by unfold wo;rw[Qxb J,T5];rfl,λe=>absurd e UE⟩
    .exact⟨by unfold wo;rw[Qxa UF,Qxa dW],λe=>absurd e dW⟩
theorem dX(b:Bk)(x:Str):∀n,uh (zb b x n).ss=(zb b x n).ds.map (·.1)/\dQ (zb b x n).ss
 |0=>⟨J,λt h=>nomatch h⟩
 |n+1=>by
  obtain⟨D,G⟩:=dX b x n;by_cases F:(zb b x n).b'<x.length
  .obtain⟨I,J0⟩:=UG b (zb b x n).ds x (zb b x n).b' (zL b (zb b x n).ds x (zb b x n).b');rw[uW F,qF F];refine⟨by rw[dP,D];exact I,λt ht B=>?_⟩;rw[X4] at ht;by_cases h:t<(zb b x n).ss.length
   .rw[List.take_append_of_le_length (RL h)];refine G t h ?_;rw[XP,Qr h,←XP] at B;exact B
   .have e:t=(zb b x n).ss.length:=by
     have:t<(zb b x n).ss.length+1:=ht;exact RU (R5 this) (Qt.1 h)
    subst e;rw[List.take_left,D];have L:(zN b (zb b x n).ds x (zb b x n).b' (zL b (zb b x n).ds x (zb b x n).b')).1.2.2.1=YP "close":=by
     rw[XP,Qp (X2 _)] at B;simpa using B
    have:=J0 L;intro q;exact this (List.map_eq_nil_iff.mp q)
  .have e:zb b x (n+1)=zb b x n:=by
    show yQ b x (zb b x n)=_;unfold yQ;rw[Qxa F]
   rw[e];exact⟨D,G⟩
theorem dY(b:Bk)(x:Str):∀n,(wc (zb b x n).ss).length=(zb b x n).b'
 |0=>rfl
 |n+1=>by
  have D:=dY b x n;by_cases B:(zb b x n).b'<x.length
  .rw[uW B,jQ,X4,D,Oa,uV B]
  .have e:zb b x (n+1)=zb b x n:=by
    show yQ b x (zb b x n)=_;unfold yQ;rw[Qxa B]
   rw[e,D]
noncomputable def qW(B:List zQ):List zp:=if B≠[]/\(B.getD (B.length-1) xV).2.2.1=YP "cut" then [((B.getD (B.length-1) xV).1,(B.getD (B.length-1) xV).2.2.2.1,YP "")] else []
theorem UH(F:List zQ):∀n,Av ((wc F).take n):=λn=>by
 have:∀l:List D,(∀d∈l,xJ d)->Av l:=λl=>by
  induction l with
  |nil=>exact λ_=>.nil
  |cons a r G=>exact λh=>.cons (h a W8) (G λd B=>h d (T7 _ B))
 refine this _ λd B=>?_;have B:=PM B;unfold wc at B;obtain⟨s,_,I⟩:=Pd.mp B;have:=(Jf.mp I).2;subst this;exact .tup (.cons (.int _) (.cons (.int _) .nil))
theorem UI(B:List zQ):Av (wc B):=by
 have:=UH B (wc B).length
 rwa [R1] at this
theorem dZ{z:Addr}{H:Hp}{v:V}{d:D}(r:Aj z H v d):∀n,Ab z H (R3 n v) (R3 n d)
 |0=>.nil
 |n+1=>.cons r (dZ r n)
theorem d6(v:V):∀n,(R3 n [v]).flatten=R3 n v
 |0=>rfl
 |n+1=>by rw[Po,Og,d6 v n];rfl
inductive n8:Sp where
 |mk {vs:List V} {H:Hp} {Q:VK} {E:XK} (z q fv ss:_) (c1:vs=[.ref q]) (c2:H q=some (.lst fv)) (c3:Ab z H fv (ss.map yb)) (c4:dQ ss) (c5:ss.length<=20000) (c6:∀p H',Aa H H'->H p=none->H' p=some (.lst ((uh ss).map V.int))->Q (.ref p) H'):n8 vs H Q E
theorem BS:zK ["told","places","place","many","word","tongue","depth"] ["told"] (zq jb):=zP
theorem UJ(F:Ao K "places_left_open" "places_left_open" jb f fd):Ag P w K mg base zD 1 f fd ["told"] n8:=by
 refine F.okA BS λg4 A outer s H vs Q E ao h=>?_;obtain⟨z,q,M,B,rfl,ae,R,ah,ap,k⟩:=h;have G:=BS.nd;refine⟨_,ze (zu (i:=1) G (zV zf))
  (ze (xu Rn J (xb (pv 0)) (yR J (zF (zw (i:=2) G) (zF (zw (i:=3) G) (zF (zw (i:=4) G) (zF (zw (i:=5) G) (zF (zw (i:=6) G) yJ))))))
   (zm (ya (zZ xI (pv 4) z0 (zR _)) (zm (yy (yW U1 S8 S9 xC (pv 1) (zz 2))))
    (zm (ya (zZ xI (pv 4) z0 (zR _)) (zm (yy (tQ U1 Ob Oc oC (pv 1)))) ye)))))
  (zm (zB (pv 1)))),?_⟩
 dsimp only[zH,Cx.nox,Cx.wish];have aq:=yV;have ar:=yB;have af:M.length=B.length:=by have:=R.length;simpa using this
 refine⟨X7 _,λp O=>?_⟩;have ag:Aa H (c' H p (.lst [])):=Aa.new O;refine⟨_,J,q,J,⟨_,Ad.of (ag _ _ ae)⟩,tJ (K:=K) (a:=q) (xs:=M) (λt σ H2=>∃U W Y Z aa,σ=[some (.ref q),some (.ref p),U,W,Y,Z,aa]/\Aa H H2/\H2 p=some (.lst ((uh (B.take t)).map V.int))/\(uh (B.take t)).length<=t)
  ⟨none,none,none,none,none,J,ag,by rw[zd];rfl,X2 _⟩ (λt σ H2 _ ⟨_,_,_,_,_,_,s,_⟩=>Ad.of (s _ _ ae)) ?_ ?_⟩
 .rintro t y σ H2 ht ⟨U,W,Y,Z,aa,rfl,I,D,S⟩;have ab:t<B.length:=by have:=(W5.mp ht).1;exact zU this (RH af)
  have ai:y=M.getD t .non:=by rw[XP,ht];rfl
  obtain⟨a,e,as,aj,_⟩:=qU (qV (t:=t) R ab);have ak:=ah t ab;rw[ai,e];rw[dO ab,dP];generalize au:B.getD t xV=st at *;generalize av:uh (B.take t)=l at *;refine⟨a,_,J,Ah.of (I _ _ aj),J,_,_,J,_,_,J,_,_,J,_,_,J,_,_,J,J,?_⟩;refine⟨_,J,J,_,J,?_⟩;refine yc (λg=>?_) (λg=>?_)
  .have g':st.2.2.1=YP "open":=by simpa using g
   refine⟨_,J,.inl ⟨J,_,Ad.of D⟩,_,J,p,_,_,J,J,D,by rw[X5];omega,?_⟩;refine⟨_,_,_,_,_,J,λac o L=>by rw[zh (zi L O)];exact I ac o L,?_,?_⟩
   .rw[zd];unfold wo;rw[Qxb g',T5];rfl
   .unfold wo;rw[Qxb g',X4];show _+1<=_;exact Ra S
  .have g':st.2.2.1≠YP "open":=by simpa using g
   refine⟨_,J,J,_,J,?_⟩;refine yc (λad=>?_) (λad=>?_)
   .have J0:st.2.2.1=YP "close":=by simpa using ad
    have al:=ak J0;have am:0<l.length:=QA.mpr al;refine⟨_,J,.inl ⟨J,_,Ad.of D⟩,p,l.map V.int,_,J,J,D,kU (by rw[X5];exact wN am),?_⟩;refine⟨_,_,_,_,_,J,λac o L=>by rw[zh (zi L O)];exact I ac o L,?_,?_⟩
    .rw[zd];unfold wo;rw[Qxa g',Qxb J0,Q2]
    .unfold wo;rw[Qxa g',Qxb J0,Oq];exact iT S
   .have J0:st.2.2.1≠YP "close":=by simpa using ad
    refine⟨_,_,_,_,_,J,I,?_,?_⟩
    .unfold wo;rw[Qxa g',Qxa J0];exact D
    .unfold wo;rw[Qxa g',Qxa J0];exact R9 S
 .rintro σ H2 ⟨U,W,Y,Z,aa,rfl,I,D,S⟩;have e:B.take M.length=B:=by rw[af];exact R1
  rw[e] at D;exact⟨_,J,k p H2 I O D⟩
end T1
namespace L2
open PySem PySem.Spec PyProof.Rows
theorem UK{X:Cx}{sc:Scope}{cl:List (Str×Addr)}{N':List Str}{s:X9}{H:Hp}{fp:List Addr}{e:R8}{f:Str}{pos:Pos}{ta:TE}(B:PE (X.blk sc cl N' s H fp) e ta)(D:PN e f (X.blk sc cl N' s H fp).env (eval e (X.blk sc cl N' s H fp).env)=eval e (X.blk sc cl N' s H fp).env:=by rfl):PE (X.blk sc cl N' s H fp) (.Attribute e f pos) (gD X.K ta f):=yh B D
end L2
namespace T1
open PySem L2
variable {C CP CS a dx g0 f pn pr ps pw r so tb z:Addr}{fd:FuncData}{H H':Hp}{b:Bk}{N j n:Nat}{B:List V}{v:V}{P:U2}{w:Rz}{a':List (zr×V)}{ks:List Nat}{d e:Int}
variable {K:W.Frag}{mg:Str->Option X3}{base:Heap}
theorem jR(f:Str)(v:V):∀fs:List (Str×V),(zJ f v fs).length<=fs.length+1
 |[]=>X2 _
 |(g,x)::r=>by
  show (if g=f then (g,v)::r else (g,x)::zJ f v r).length<=_;split
  .show r.length+1<=r.length+1+1;exact PF _
  .have:=jR f v r;show (zJ f v r).length+1<=r.length+1+1;exact Ra this
inductive qX(C:Addr):Sp where
 |mk {vs:List V} {H:Hp} {Q:VK} {E:XK} (r dx fs:_) (c1:vs=[.ref r]) (c2:H r=some (.ins C dx fs)) (c3:fs.length<900) (c4:∀q H',H q=none->Ac r H H'->H' q=some (.lst [])->H' r=some (.ins C dx (zJ "doors" (.ref q) (zJ "place" (.int 0) (zJ "rest" (.str (YP "")) fs))))->Q .non H'):qX C vs H Q E
inductive n9(C:Addr):Sp where
 |mk {vs:List V} {H:Hp} {Q:VK} {E:XK} (r v dx:_) (c1:vs=[.ref r,v]) (c2:H r=some (.ins C dx [])) (c3:∀q H',H q=none->Ac r H H'->H' q=some (.lst [])->H' r=some (.ins C dx (yF v (YP "") 0 q))->Q .non H'):n9 C vs H Q E
inductive qY(C:Addr):Sp where
 |mk {vs:List V} {H:Hp} {Q:VK} {E:XK} (z r dx v rs q p fv:_) (ss:List zQ) (pl n:Nat) (c1:vs=[.ref r,.ref p]) (c2:Am z H) (c3:H r=some (.ins C dx (yF v rs pl q))) (c4:H p=some (.lst fv)) (c5:Ab z H fv (ss.map yb)) (c6:(ss.map (·.2.1)).sum=(n:Int)) (c7:n<=rs.length) (c8:rs.length<=20000) (c9:ss.length<=20000) (ho:∀pn fn H',Ac r H H'->H pn=none->H' pn=some (.lst fn)->Ab z H' fn ((ss.map (xU pl)).map yb)->H' r=some (.ins C dx (yF v (vm rs n) ((pl+n:Nat):Int) q))->Q (.ref pn) H'):qY C vs H Q E
theorem UL:zK ["self"] ["self"] (zq jJ):=zP
theorem UM(F:Ao K "begin_anew" "Reader.begin_anew" jJ f fd)(B:su K mg C):Ag P w K mg base zD 1 f fd ["self"] (qX C):=by
 refine F.okA UL λg4 A outer s H vs Q E O h=>?_;obtain⟨r,dx,fs,rfl,L,J0,k⟩:=h;refine⟨_,ze (xZ (pv 0) z0 J) (ze (xZ (pv 0) zg J) (zm (xZ (pv 0) (zV zf) J))),?_⟩;dsimp only[zH,Cx.nox,Cx.wish];have M:=jR "rest" (.str (YP "")) fs;have R:=jR "place" (.int 0) (zJ "rest" (.str (YP "")) fs);refine⟨_,J,r,C,dx,fs,J,L,B.cl,B.nR,by exact zC J0,_,J,r,C,dx,_,J,zd,B.cl,B.nP,by exact ll (Ra M) (Ra J0),X7 _,λq D=>?_⟩;have G:r≠q:=zi (zd (H:=c' H r (.ins C dx (zJ "rest" (.str (YP "")) fs))) (a:=r)) D;refine⟨_,J,r,C,dx,_,J,by rw[zh G];exact zd,B.cl,B.nD,by omega,?_⟩;rw[zh G.symm,zh G.symm] at D;refine k q _ D (λb o I e=>?_) ?_ zd
 .rw[zh I,zh (zi e D),zh I,zh I];exact e
 .rw[zh G.symm];exact zd
theorem UN:zK ["self","book"] ["self","book"] (zq jI):=zP
theorem UO(F:Ao K "__init__" "Reader.__init__" jI f fd)(B:su K mg C)(J0:Ml P w K mg base C 1 "begin_anew" ["self"] (qX C)):Ag P w K mg base zD 2 f fd ["self","book"] (n9 C):=by
 refine F.okA UN λg4 A outer s H vs Q E L h=>?_;obtain⟨r,v,dx,rfl,M,k⟩:=h;refine⟨_,ze (xZ (pv 0) (pv 1) J) (zm (yy (ub (pv 0) B.cl J0 L))),?_⟩;dsimp only[zH,Cx.nox,Cx.wish];refine⟨_,J,_,J,r,C,dx,[],J,M,B.cl,B.nB,by decide,?_⟩;refine⟨_,J,r,dx,_,J,zd,(by rw[lR,Qxa (by lia)];rfl),r,dx,_,J,zd,by show (1:Nat)<900;decide,λq H' D O R G=>?_⟩;rw[Uw] at G;have S:H q=none:=by
  by_cases e:q=r
  .rw[e,zd] at D;cases D
  .rwa [zh e] at D
 exact k q H' S (λb o I e=>O b o I (by rw[zh I];exact e)) R G
theorem BN:zK ["self","found","told","many"] ["self","found"] (zq qS):=zP
theorem UP:(["step","self"]:List Str).Nodup:=by lia
theorem UQ:(["step"]:List Str).Nodup:=by lia
theorem UR:Qq "sum"=some (.builtin "sum"):=by lia
theorem US(F:Ao K "hand_out" "Reader.hand_out" qS f fd)(T:yu mg)(D:su K mg C)(am:Cl P w K mg base 1 "moved" ["step","by"] qO):Ag P w K mg base zD 2 f fd ["self","found"] (qY C):=by
 refine F.okA BN λg4 A outer s H vs Q E ao h=>?_;obtain⟨z,r,dx,v,rs,q,p,O,B,pl,n,rfl,ap,R,L,S,aq,aF,ar,ad,k⟩:=h;have ae:=BN.nd;refine⟨_,ze (uJ (N':=["step","self"]) (js:=[none,some 0]) (i:=2) J J ae J (Or.inl J) (yZ (zq qS) (by lia)) ⟨J,Or.inr (Or.inl J),J,trivial⟩
    (xb (pv 1)) (λcl s H fp=>zw (i:=0) UP) (λcl s H fp=>wG) (λcl s H fp=>zA am ao (zc (pv 0) (zc (UK (pv 1)) zf))))
  (ze (zu (i:=3) ae (zT (Wa J) (by rfl) D.sum UR (zc (xS (N':=["step"]) (js:=[none]) J J (yZ (zq qS) (by lia)) trivial (xb (pv 1)) (λcl s H fp=>zw (i:=0) UQ) (λcl s H fp=>wG) (λcl s H fp=>zx wg (pv 0) zg (λ_ _=>rfl))) zf)))
  (ze (xZ (pv 0) (x0 v9 (yh (pv 0) J) (xz (pv 3)) vd) J)
  (ze (gE (pv 0) (pv 3) Yt)
  (zm (zB (pv 2)))))),?_⟩
 dsimp only[zH,Cx.nox,Cx.wish];have aG:=yV;have aH:=yB;have J0:O.length=B.length:=by have:=S.length;simpa using this
 refine⟨_,J,p,J,⟨_,Ad.of L⟩,λpn M=>?_⟩;have af:p≠pn:=zi L M;refine qI (z:=z) (λ_=>true) (λj=>yb (xU pl (B.getD j xV))) (λσ=>∃u,σ=[u,some (.ref r)]) ⟨none,J⟩ M (ww J0 ad) (x8 (xs:=O) (by rw[zh af];exact L) af) (λj=>dJ _) (λj σ H2 aI aJ U ⟨as,hw⟩ G au _=>?_) (λσ H2 fn G av ag=>?_)
 .subst hw;obtain⟨W,e,aw,Y,ah⟩:=qU ((qV (t:=j) S (zU U (RH J0))).mono G.x);rw[e];dsimp only[ve,va];rw[Qxb rfl];refine⟨_,J,_,J,r,C,dx,_,_,J,G _ _ R,D.cl,D.nP,dG v rs pl q,W,(pl:Int),B.getD j xV,J,Y,λpm Z I nm ax=>?_⟩;exact au rfl _ (.ref pm) Z ⟨_,J⟩ I (jP ax ((ap.same G).ne nm) ah)
 .rw[List.filter_eq_self.mpr (λ_ _=>rfl),J0,dL (λs=>yb (xU pl s)) B] at ag;have aa:=G _ _ L;have ay:=G _ _ R;have az:=S.mono G.x (z:=z);refine⟨_,J,p,J,⟨_,Ad.of aa⟩,λpS ai=>?_⟩;have aj:p≠pS:=zi aa ai;refine vf (λj=>some (V.int (B.getD j xV).2.1)) (λσ=>∃u,σ=[u]) ⟨none,J⟩ ai (ww J0 ad) (x8 (xs:=O) (by rw[zh aj];exact aa) aj) (λj σ Z aK U ⟨as,hw⟩ I aA=>?_) (λσ Z I ab=>?_)
  .subst hw;obtain⟨W,e,aw,Y,ah⟩:=qU ((qV (t:=j) az (zU U (RH J0))).mono I.x);rw[e];dsimp only[ve,va];rw[Qxb rfl];exact⟨_,J,W,_,1,_,J,J,Ah.of Y,zy (j:=1) J,aA _ _ ⟨_,J⟩ (Aa.refl _)⟩
  .rw[v7,J0,dL (λs=>V.int s.2.1) B] at ab;have aB:B.map (λs=>V.int s.2.1)=(B.map (·.2.1)).map V.int:=by rw[R6];rfl
   rw[aB] at ab;refine⟨pS,_,J,Ad.of ab,?_⟩;rw[aq];have ac:=I _ _ ay;refine⟨_,J,r,C,dx,_,_,J,ac,D.cl,D.nR,nZ v rs pl q,_,J,_,J,rs,J,by exact zC ar,_,J,r,C,dx,_,J,ac,D.cl,D.nR,by show (4:Nat)<1000;decide,?_⟩;rw[jN];refine⟨_,J,r,C,dx,_,_,J,zd,D.cl,D.nP,dG v _ pl q,_,J,_,_,J,J,dx,_,zd,by show (4:Nat)<1000;decide,?_⟩;rw[dI];have aC:=G.trans I;have ak:pn≠r:=(zi R M).symm;refine⟨_,J,k pn fn _ (λb o al e=>?_) M ?_ ?_ ?_⟩
   .rw[zh al,zh al];exact aC b o e
   .rw[zh ak,zh ak];exact I _ _ av
   .have aD:(B.map (xU pl)).map yb=B.map (λs=>yb (xU pl s)):=by rw[R6];rfl
    rw[aD];exact Ab.insU zd (Ab.insU ac (ag.mono I.x))
   .rw[zd];have aE:((pl:Int)+(n:Int))=((pl+n:Nat):Int):=rfl;rw[aE];rfl
inductive qZ(tb C:Addr):Sp where
 |mk {vs:List V} {H:Hp} {Q:VK} {E:XK} (z r dx v b rs q ds pc:_) (pl:Nat) (c1:vs=[.ref r,.str pc]) (c2:Am z H) (c3:H r=some (.ins C dx (yF v rs pl q))) (c4:q≠z) (c5:Aj z H v (yp b)) (c6:yn b) (c7:AD z H q ds) (c8:As b ds) (c9:ds.length+(rs.length+pc.length)<=20000) (ho:zO tb H) (hD:∀p fv n H',rA r q tb H H'->H p=none->H' p=some (.lst fv)->(∀j,j<n->(zn b (rs++pc) ds j).b'<(rs++pc).length/\wS b (zn b (rs++pc) ds j).ds (rs++pc) (zn b (rs++pc) ds j).b'=true)->¬((zn b (rs++pc) ds n).b'<(rs++pc).length/\wS b (zn b (rs++pc) ds n).ds (rs++pc) (zn b (rs++pc) ds n).b'=true)->Ab z H' fv (((zn b (rs++pc) ds n).ss.map (xU pl)).map yb)->H' r=some (.ins C dx (yF v (vm (rs++pc) (zn b (rs++pc) ds n).b') ((pl+(zn b (rs++pc) ds n).b':Nat):Int) q))->AD z H' q (zn b (rs++pc) ds n).ds->Am z H'->zO tb H'->Q (.ref p) H'):qZ tb C vs H Q E
inductive q9(tb C:Addr):Sp where
 |mk {vs:List V} {H:Hp} {Q:VK} {E:XK} (z r dx v b rs q ds:_) (pl:Nat) (c1:vs=[.ref r]) (c2:Am z H) (c3:H r=some (.ins C dx (yF v rs pl q))) (c4:q≠z) (c5:Aj z H v (yp b)) (c6:yn b) (c7:AD z H q ds) (c8:As b ds) (c9:ds.length+rs.length<=20000) (ho:zO tb H) (hD:∀p fv n q' H',rA r q tb H H'->H p=none->H q'=none->q'≠p->H' p=some (.lst fv)->(∀j,j<n->(zn b rs ds j).b'<rs.length)->(zn b rs ds n).b'=rs.length->Ab z H' fv (((zn b rs ds n).ss.map (xU pl)).map yb)->H' r=some (.ins C dx (yF v (YP "") 0 q'))->H' q'=some (.lst [])->Am z H'->zO tb H'->Q (.ref p) H'):q9 tb C vs H Q E
theorem ma{fs:List (Str×V)}(B:H r=some (.ins C dx fs))(s:Ac r H H')(h:zO tb H):zO tb H':=by
 rcases h with h|⟨D,h1,h2⟩
 .exact .inl (s _ _ (zj h B) h)
 .exact .inr ⟨D,s _ _ (zj h1 B) h1,s _ _ (zj h2 B) h2⟩
mutual
theorem Aj.sameR{z r C dx:Addr}{H H':Hp}{fs:List (Str×V)}(B:H r=some (.ins C dx fs))(s:Ac r H H'):∀ {v:V}{d:D},Aj z H v d->Aj z H' v d
 |_,_,.non=>.non
 |_,_,.bl b=>.bl b
 |_,_,.int i=>.int i
 |_,_,.str x h=>.str x h
 |_,_,.tup h F G=>.tup (s _ _ (zj h B) h) F (Ab.sameR B s G)
 |_,_,.lst h F G=>.lst (s _ _ (zj h B) h) F (Ab.sameR B s G)
theorem Ab.sameR{z r C dx:Addr}{H H':Hp}{fs:List (Str×V)}(B:H r=some (.ins C dx fs))(s:Ac r H H'):∀ {vs:List V}{ds:List D},Ab z H vs ds->Ab z H' vs ds
 |_,_,.nil=>.nil
 |_,_,.cons h k=>.cons (Aj.sameR B s h) (Ab.sameR B s k)
end
theorem md{fs:List (Str×V)}(B:H r=some (.ins C dx fs))(s:Ac r H H')(h:Am z H):Am z H':=by
 obtain⟨D,F,e⟩:=h;exact⟨D,F,s _ _ (zj e B) e⟩
theorem ca{q:Addr}{fs:List (Str×V)}(B:H r=some (.ins C dx fs))(s:Ac r H H')(h:AD z H q ds):AD z H' q ds:=by
 obtain⟨F,D,R⟩:=h;exact⟨F,s _ _ (zj D B) D,Ab.sameR B s R⟩
theorem UT:zK ["self","piece"] ["self","piece"] (zq jL):=zP
theorem UU(F:Ao K "feed" "Reader.feed" jL f fd)(B:su K mg C)(af:Cl P w K mg base 5 "sure_steps" ["book","part","doors"] (qP tb))(ag:Ml P w K mg base C 2 "hand_out" ["self","found"] (qY C)):Ag P w K mg base zD 6 f fd ["self","piece"] (qZ tb C):=by
 refine F.okA UT λg4 A outer s H vs Q E V h=>?_;obtain⟨z,r,dx,v,b,rs,q,ds,pc,pl,rfl,ah,G,ai,aj,W,ak,Y,aH,al,k⟩:=h;have am:Ak 2 _:=V.mono (by decide);obtain⟨ao,aI,ap,_⟩:=id W;refine⟨_,ze (gE (pv 0) (pv 1) Wc)
  (zm (zB (yX (pv 0) B.cl ag am (zc (zA af V (zc (yh (pv 0) J) (zc (yh (pv 0) J) (zc (yh (pv 0) J) zf)))) zf)))),?_⟩
 dsimp only[zH,Cx.nox,Cx.wish];have aJ:=yB;refine⟨_,J,r,C,dx,_,_,J,G,B.cl,B.nR,nZ v rs pl q,_,J,rs,pc,J,J,by omega,dx,_,G,by show (4:Nat)<1000;decide,?_⟩;rw[jN];have aK:(rs++pc).length=rs.length+pc.length:=qw rs pc;generalize aL:rs++pc=y at *;have I:Ac r H (c' H r (.ins C dx (yF v y pl q))):=Ac.refl.c';have D:c' H r (.ins C dx (yF v y pl q)) r=some (.ins C dx (yF v y pl q)):=zd;have Z:=Aj.sameR G I aj;have aa:=md G I ah;have O:=ca G I ak;have T1:=ma G I al;have ab:∀ {a:Addr},c' H r (.ins C dx (yF v y pl q)) a=none->H a=none:=λ{a} e=>by
  by_cases h:a=r
  .rw[h,zd] at e;cases e
  .rwa [zh h] at e
 generalize c' H r (.ins C dx (yF v y pl q))=H1 at I D Z aa O T1 ab;refine⟨_,J,r,dx,_,J,D,sr (by simp),?_⟩;refine⟨_,J,r,C,dx,_,_,J,D,B.cl,B.nB,dF v y pl q,_,J,r,C,dx,_,_,J,D,B.cl,B.nR,nZ v y pl q,_,J,r,C,dx,_,_,J,D,B.cl,B.nD,dH v y pl q,?_⟩;refine⟨z,v,b,q,ds,y,J,aa,ai,Z,W,O,Y,by omega,T1,λp aq n H2 R aM ar as au av ac ad ae=>?_⟩;obtain⟨aN,aw,_⟩:=id O;obtain⟨aO,ax⟩:=T1.tbl;have L:=R _ _ (zj D aw) (zj D ax) D;have S:sj b y ds (zn b y ds n):=sk (x:=y) ap ao Y n;have aP:=S.sl;have ay:=S.le;refine⟨z,r,dx,v,y,q,p,aq,(zn b y ds n).ss,pl,(zn b y ds n).b',J,ad,L,ar,av,S.sum,ay,by omega,by omega,λpn fn az M J0 aA aB aC=>?_⟩;have aD:H1 pn=none:=by
  cases e:H1 pn with
  |none=>rfl
  |some o=>
   exfalso;by_cases h1:pn=q
   .obtain⟨aQ,aE,_⟩:=ac;rw[h1,aE] at J0;cases J0
   .by_cases h2:pn=tb
    .obtain⟨aR,aF⟩:=ae.tbl;rw[h2,aF] at J0;cases J0
    .rw[R pn o h1 h2 e] at J0;cases J0
 refine k pn fn n az (λU o h1 h2 aG e=>M U o h1 (R U o h2 aG (I U o h1 e))) (ab aD) aA as au aB aC (ca L M ac) (md L M ad) (ma L M ae)
theorem Bq:zK ["self","told"] ["self"] (zq jM):=zP
theorem UV(F:Ao K "finish" "Reader.finish" jM f fd)(B:su K mg C)(ah:Cl P w K mg base 5 "read_on" ["book","text","doors"] (qQ tb))(ai:Ml P w K mg base C 2 "hand_out" ["self","found"] (qY C))(aj:Ml P w K mg base C 1 "begin_anew" ["self"] (qX C)):Ag P w K mg base zD 6 f fd ["self"] (q9 tb C):=by
 refine F.okA Bq λg4 A outer s H vs Q E O h=>?_;obtain⟨z,r,dx,v,b,rs,q,ds,pl,rfl,ak,D,al,am,Y,Z,aa,ab,ac,k⟩:=h;have ao:=Bq.nd;have ap:Ak 2 _:=O.mono (by decide);have aq:Ak 1 _:=O.mono (by decide);obtain⟨ar,aM,as,_⟩:=id Y;refine⟨_,ze (zu (i:=1) ao (yX (pv 0) B.cl ai ap (zc (zA ah O (zc (yh (pv 0) J) (zc (yh (pv 0) J) (zc (yh (pv 0) J) zf)))) zf)))
  (ze (yy (ub (pv 0) B.cl aj aq))
  (zm (zB (pv 1)))),?_⟩
 dsimp only[zH,Cx.nox,Cx.wish];have aN:=yB;refine⟨_,J,r,dx,_,J,D,sr (by simp),?_⟩;refine⟨_,J,r,C,dx,_,_,J,D,B.cl,B.nB,dF v rs pl q,_,J,r,C,dx,_,_,J,D,B.cl,B.nR,nZ v rs pl q,_,J,r,C,dx,_,_,J,D,B.cl,B.nD,dH v rs pl q,?_⟩;refine⟨z,v,b,q,ds,rs,J,ak,al,am,Y,Z,aa,by exact ab,ac,λp au n H2 R aO av aw ax ay az ad ae=>?_⟩;obtain⟨aP,aA,_⟩:=id Z;obtain⟨aQ,aB⟩:=ac.tbl;have S:=R _ _ (zj D aA) (zj D aB) D;have U:sj b rs ds (zn b rs ds n):=sk (x:=rs) as ar aa n;have aR:=U.sl;have aC:=U.le;refine⟨z,r,dx,v,rs,q,p,au,(zn b rs ds n).ss,pl,(zn b rs ds n).b',J,ad,S,av,ay,U.sum,aC,by exact og ab,by omega,λpn fn aS M aD V aE G=>?_⟩;have af:∀ {a:Addr},H2 a=none->H a=none:=λ{a} I=>by
  cases e:H a with
  |none=>rfl
  |some o=>
   exfalso;by_cases h1:a=q
   .obtain⟨aT,aF,_⟩:=az;rw[h1,aF] at I;cases I
   .by_cases h2:a=tb
    .obtain⟨aU,aG⟩:=ae.tbl;rw[h2,aG] at I;cases I
    .rw[R a o h1 h2 e] at I;cases I
 refine⟨_,J,r,dx,_,J,G,sr (by simp),r,dx,_,J,G,by show (4:Nat)<900;decide,λq' aH J0 L aI ag=>?_⟩;rw[jN,dI,Uv] at ag;have aJ:=L _ _ (zj V G) V;have aK:H2 q'=none:=by
  cases e:H2 q' with
  |none=>rfl
  |some o=>
   exfalso;by_cases h1:q'=r
   .rw[h1,G] at J0;cases J0
   .rw[M q' o h1 e] at J0;cases J0
 refine⟨_,J,k pn fn n q' aH (λW o h1 h2 aL e=>L W o h1 (M W o h1 (R W o h2 aL e))) (af aD) (af aK) (zi V J0).symm aJ aw ax (Ab.sameR G L aE) ag aI (md G L (md S M ad)) (ma G L (ma S M ae))⟩
theorem UW{K:W.Frag}{t:Addr}{xs:List V}{ps:Array X3}(ht:H t=some (.tbl ps))(e:ym t H H')(h:Ad K H a xs):Ad K H' a xs:=by
 rcases h with(h|⟨o,h⟩)|h
 .exact .inl (.inl (e _ _ (zj h ht) h))
 .exact .inl (.inr ⟨o,e _ _ (zj h ht) h⟩)
 .exact .inr h
theorem jS{b:Bk}{x:Str}{n:Nat}(h:(zb b x n).b'=x.length):∀k,zb b x (n+k)=zb b x n
 |0=>rfl
 |k+1=>by
  have B:=jS h k;show yQ b x (zb b x (n+k))=_;rw[B];unfold yQ;rw[Qxa (by omega)]
theorem jT{x:Str}{m:Nat}(h:(zb b x n).b'=x.length)(h':(zb b x m).b'=x.length):zb b x n=zb b x m:=by
 have a:=jS h m;have c:=jS h' n;rw[←a,←c,IL]
theorem me(k:Nat):∀B:List zQ,AZ (k+1) (B.map yb)
 |[]=>.nil _
 |s::r=>.cons (.tup (.cons (.int _ _) (.cons (.int _ _) (.cons (.str _ _) (.cons (.int _ _) (.cons (.int _ _) (.nil _))))))) (me k r)
theorem UX(z:Str)(k:Nat):(yC z none (some (k:Int))).length<=k:=by
 unfold yC;show (Jw _).size<=k;rw[HT.sIx_nat,HT.sIx_none,T4,QQ];exact bO
theorem UY{m:Nat}(l:Nat):∃n:Nat,(if (m:Int)<(l:Int) then (m:Int) else (l:Int))=(n:Int)/\n<=m:=by
 by_cases h:(m:Int)<(l:Int)
 .exact⟨m,by rw[Qxb h],X2 _⟩
 .exact⟨l,by rw[Qxa h],by omega⟩
noncomputable def yA(S:Addr->Prop)(H H':Hp):Prop:=∀b o,¬S b->H b=some o->H' b=some o
noncomputable def xR(S:Addr->Prop)(H:Hp):Prop:=∀b xs,S b->H b≠some (.tup xs)
mutual
theorem Aj.keep{z:Addr}{S:Addr->Prop}{H H':Hp}(k:yA S H H')(n:xR S H):∀ {v:V}{d:D},Aj z H v d->xJ d->Aj z H' v d
 |_,_,.non,_=>.non
 |_,_,.bl b,_=>.bl b
 |_,_,.int i,_=>.int i
 |_,_,.str x h,_=>.str x h
 |_,_,.tup h B r,.tup t=>.tup (k _ _ (λs=>n _ _ s h) h) B (Ab.keep k n r t)
theorem Ab.keep{z:Addr}{S:Addr->Prop}{H H':Hp}(k:yA S H H')(n:xR S H):∀ {vs:List V}{ds:List D},Ab z H vs ds->Av ds->Ab z H' vs ds
 |_,_,.nil,_=>.nil
 |_,_,.cons h t,.cons h' t'=>.cons (Aj.keep k n h h') (Ab.keep k n t t')
end
noncomputable def mf(b:Bk)(ds:List zp)(x:Str)(i:Nat)(st:zQ)(B:List zp):Prop:=
 ((⟨#[x.cps.getD i 0]⟩:Str)=(b.getD (zI ds).toNat zk).1/\B=ds/\((i+1=x.length/\st=((i:Int),1,YP "cut",zI ds,(ds.length:Int)))∨(i+1<x.length/\st=((i:Int),2,YP "escape",zI ds,(ds.length:Int))))) ∨
 ((⟨#[x.cps.getD i 0]⟩:Str)≠(b.getD (zI ds).toNat zk).1/\xP b ds x i=[]/\B=ds/\st=((i:Int),1,YP "sign",zI ds,(ds.length:Int))) ∨
 ((⟨#[x.cps.getD i 0]⟩:Str)≠(b.getD (zI ds).toNat zk).1/\xP b ds x i≠[]/\ds≠[]/\zL b ds x i=(ds.getD (ds.length-1) zX).2.2/\B=ds.dropLast/\st=((i:Int),((zL b ds x i).length:Int),YP "close",zI ds.dropLast,(ds.length:Int)-1)) ∨
 ((⟨#[x.cps.getD i 0]⟩:Str)≠(b.getD (zI ds).toNat zk).1/\xP b ds x i≠[]/\∃d,(b.getD (zI ds).toNat zk).2.filter (λd=>d.1==zL b ds x i)=[d]/\B=ds++[((i:Int),d.2.1,d.2.2)]/\st=((i:Int),((zL b ds x i).length:Int),YP "open",zI ds,(ds.length:Int)))
theorem cb{m:Str}:∀ {ds:List Dr},(yD ds).Nodup->m∈yD ds->∃d,ds.filter (λd=>d.1==m)=[d]
 |[],_,h=>nomatch h
 |d::r,F,h=>by
  have D:=Q4.mp (show (d.1::yD r).Nodup from F);by_cases e:d.1=m
  .refine⟨d,?_⟩;rw[PX (by rw[e];exact beq_self_eq_true _)];congr 1;rw[P5];intro c B q;have:c.1=m:=by simpa using q
   apply D.1;rw[e,←this];exact Qz B
  .have G:m∈yD r:=by
    rcases S7.mp (show m∈d.1::yD r from h) with h|h
    .exact absurd h.symm e
    .exact h
   obtain⟨c,B⟩:=cb D.2 G;exact⟨c,by rw[OV (by simpa using e)];exact B⟩
theorem UZ{x:Str}{i:Nat}(Y:yn b)(Z:As b ds)(hi:i<x.length):mf b ds x i (zN b ds x i (zL b ds x i)).1 (zN b ds x i (zL b ds x i)).2:=by
 obtain⟨aa,ag,M,I⟩:=id Y;have O:=Z.ok M;obtain⟨D,ab,ac⟩:=ue O aa;have J0:(zI ds).toNat=D:=by rw[ab];rfl
 have R:=se (x:=x) (i:=i) M O;have ad:(yD (b.getD D zk).2).Nodup:=by
  unfold qv at I;simp only[R0,QU] at I;exact Qxc (QR.mp I.1.1 _ (yE zk ac))
 unfold mf;rw[J0];unfold zN;rw[J0];by_cases B:(⟨#[x.cps.getD i 0]⟩:Str)=(b.getD D zk).1
 .have L:(b.getD D zk).1≠YP "":=by
   rw[←B,wk];intro q;have:=congrArg J4 q;have:(1:Nat)=0:=this;omega
  rw[Qxb ⟨L,B⟩];refine .inl ⟨B,?_,?_⟩
  .split<;>rfl
  .by_cases h1:i+1=x.length
   .rw[Qxb h1];exact .inl ⟨h1,J⟩
   .rw[Qxa h1];exact .inr ⟨by exact Qn hi h1,J⟩
 .rw[Qxa (λq=>B q.2)];refine .inr ?_;rcases qE (l:=xP b ds x i) (λm ae=>R m (T3.mp ae).1) with⟨h1,h2⟩|⟨h1,h2⟩
  .have e:zL b ds x i=YP "":=by rw[wk];exact h2
   rw[Qxb e];exact .inl ⟨B,h1,J,J⟩
  .have S:xP b ds x i≠[]:=λq=>by rw[q] at h1;cases h1
   have hC:zL b ds x i∈xw b ds:=(T3.mp h1).1;have U:=(R _ hC).1;have L:zL b ds x i≠YP "":=λe=>by
    rw[e,wk] at U;have:(1:Nat)<=0:=U;exact rM this
   rw[Qxa L];by_cases F:ds≠[]/\zL b ds x i=(ds.getD (ds.length-1) zX).2.2
   .rw[Qxb F];exact .inr (.inl ⟨B,S,F.1,F.2,J,J⟩)
   .rw[Qxa F];have g8:zL b ds x i∈yD (b.getD D zk).2:=by
     unfold xw at hC;rw[J0] at hC;rcases T6.mp hC with hC|hC
     .exact hC
     .exfalso;obtain⟨d,G,e⟩:=S4.mp hC;apply F;have V:ds≠[]:=λq=>by
       rw[q] at G;cases G
      refine⟨V,?_⟩;have W:0<ds.length:=QA.mpr V;have:yo ds=[ds.getD (ds.length-1) zX]:=by
       unfold yo;rw[QZ (wN W),Pa (by exact ap),XP,X1 (wN W)];rfl
      rw[this] at G;rw[←e,RA.mp G]
    obtain⟨d,af⟩:=cb ad g8;rw[af];exact .inr (.inr ⟨B,S,d,J,J,J⟩)
theorem U0{x:Str}(h:¬(zb b x n).b'<x.length):zb b x (n+1)=zb b x n:=by
 show yQ b x (zb b x n)=_;unfold yQ;rw[Qxa h]
theorem ce{m:Nat}{a:V}(h:B.length=m+1)(e:B.getD m .non=a):xi B (-1)=some a:=by
 have D:xA B.length (-1)=some (B.length-1):=by
  unfold xA;rw[Qxa (by decide),Qxb (by omega)];congr 1;exact sL
 unfold xi;rw[D];show B[B.length-1]?=_;have F:B.length-1=m:=congrArg I4 h;rw[F,←e,XP];have:m<B.length:=by exact iY h
 rw[X1 this];rfl
theorem cf{b:Bk}{x:Str}(B:∀t∈b,An b.length t)(D:1<=b.length):∀n,∀s∈(zb b x n).ss,1<=s.2.1/\s.2.1<=4
 |0=>λs h=>nomatch h
 |n+1=>by
  have G:=cf (x:=x) B D n;by_cases F:(zb b x n).b'<x.length
  .rw[uW F];intro s hs;rcases T6.mp hs with hs|hs
   .exact G s hs
   .have e:s=_:=RA.mp hs;have I:=xm (x:=x) B D n;obtain⟨J0,p2,_⟩:=vj (x:=x) B I.bk D F;rw[e];exact⟨J0,p2⟩
  .have e:zb b x (n+1)=zb b x n:=by
    show yQ b x (zb b x n)=_;unfold yQ;rw[Qxa F]
   rw[e];exact G
theorem U3(B:List zQ)(t:Nat):(wc (B.take t)).length<=(wc B).length:=by
 have e:wc B=wc (B.take t)++wc (B.drop t):=by
  unfold wc;rw[←OA,Nd]
 rw[e,X4];exact Ov _ _
inductive mh(tb:Addr):Sp where
 |mk {vs:List V} {H:Hp} {Q:VK} {E:XK} (z v b x:_) (c1:vs=[v,.str x]) (c2:Am z H) (c3:Aj z H v (yp b)) (c4:yn b) (c5:x.length<=20000) (c6:zO tb H) (c7:∀p n H',ym tb H H'->H p=none->(zb b x n).b'=x.length->Aj z H' (.ref p) (.tup ((zb b x n).ds.map pdD))->Am z H'->zO tb H'->Q (.ref p) H'):mh tb vs H Q E
theorem AY:zK ["book","text","doors"] ["book","text"] (zq jf):=zP
theorem U4(F:Ao K "standing" "standing" jf f fd)(T:yu mg)(W:Cl P w K mg base 5 "read_on" ["book","text","doors"] (qT tb)):Ag P w K mg base zD 6 f fd ["book","text"] (mh tb):=by
 refine F.okA AY λg4 A outer s H vs Q E Y h=>?_;obtain⟨z,v,b,x,rfl,L,Z,aa,ab,M,k⟩:=h;have ac:=AY.nd;refine⟨_,ze (zu (i:=2) ac (zV zf))
  (ze (yy (zA W Y (uR 0 1 2)))
  (zm (zB (vc oB (by rfl) T.tuple v8 (zz 2))))),?_⟩
 dsimp only[zH,Cx.nox,Cx.wish];refine⟨X7 _,λq G=>?_⟩;have D:=Aa.new (o:=.lst []) G;refine⟨_,J,_,J,_,J,z,v,b,q,x,J,L.same D,L.ne G,Z.mono D.x,aa,zd,ab,M.same D,λp aj n H2 O ak al ad am ae R S=>?_⟩;obtain⟨U,af,ag⟩:=ae;refine⟨_,J,q,U,J,.inl ⟨Ad.of af,λl B=>?_⟩⟩;have I:=Aa.new (o:=.tup U) B;have ah:=R.same I;refine k l n _ (λJ0 o h e=>I J0 o (O J0 o (zi e G) h (D J0 o e))) ?_ ad (.tup zd (R.ne B) (ag.mono I.x)) ah (S.same I);cases e:H l with
 |none=>rfl
 |some o=>
  exfalso;obtain⟨ps,ht⟩:=M.tbl;by_cases V:l=tb
  .obtain⟨ao,ai⟩:=S.tbl;rw[V,ai] at B;cases B
  .have:=O l o (zi e G) V (D l o e);rw[this] at B;cases B
inductive mi(tb:Addr):Sp where
 |mk {vs:List V} {H:Hp} {Q:VK} {E:XK} (z v b x:_) (c1:vs=[v,.str x]) (c2:Am z H) (c3:Aj z H v (yp b)) (c4:yn b) (c5:x.length<=20000) (c6:zO tb H) (c7:∀p fv n H',ym tb H H'->H p=none->H' p=some (.lst fv)->(zb b x n).b'=x.length->Ab z H' fv (((zb b x n).ds++qW (zb b x n).ss).map wK)->Am z H'->zO tb H'->Q (.ref p) H'):mi tb vs H Q E
theorem LamT.free{l:Addr}(F:zO tb H')(G:ym tb H H')(B:H' l=none):H l=none:=by
 cases e:H l with
 |none=>rfl
 |some o=>
  exfalso;by_cases D:l=tb
  .obtain⟨J0,I⟩:=F.tbl;rw[D,I] at B;cases B
  .rw[G l o D e] at B;cases B
theorem Bx:zK ["book","text","doors","told","ends","place","many","word","tongue","depth"] ["book","text"] (zq o6):=zP
theorem jU:(["place","inner","close"]:List Str).Nodup:=by lia
theorem U5(F:Ao K "unfinished" "unfinished" o6 f fd)(a9:mg "zip"=none)(ba:Cl P w K mg base 5 "read_on" ["book","text","doors"] (qT tb))(bb:Cl P w K mg base 1 "places_left_open" ["told"] n8):Ag P w K mg base zD 6 f fd ["book","text"] (mi tb):=by
 refine F.okA Bx λg4 A outer s H vs Q E aF h=>?_;obtain⟨z,v,b,x,rfl,aG,bc,aH,ae,bd,k⟩:=h;have S:=Bx.nd;have be:Ak 1 _:=aF.mono (by decide);obtain⟨bf,bU,bg,_⟩:=id aH;refine⟨_,ze (zu (i:=2) S (zV zf))
  (ze (zu (i:=3) S (zA ba aF (uR 0 1 2)))
  (ze (uJ (N':=["place","inner","close"]) (js:=[none,none,none]) (i:=4) J J S J (Or.inl J) (yZ (zq o6) (by lia)) trivial
   (XZ J a9 (zc (zA bb be (zz 3)) (zz 2)))
   (λcl s H fp=>qc 2 rfl (zF (wA (i:=0) jU J (Or.inl J) (Or.inr J)) (zF (qc 2 rfl (zF (wA (i:=1) jU J (Or.inl J) (Or.inr J)) (zF (wA (i:=2) jU J (Or.inl J) (Or.inr J)) yJ))) yJ)))
   (λcl s H fp=>wG) (λcl s H fp=>yl (uR 0 1 2)))
  (ze (ya (PW.pt (ut (uB (pv 3) (λ_=>rfl)) (ur (zZ xI (zx Ai (zx Ae (pv 3) (wB wC zg) (λ_ _=>rfl)) zg (λ_ _=>rfl)) z0 (zR _)))))
   (ze (xt (zx Ae (pv 3) (wB wC zg) (λ_ _=>rfl)) (yR J (zF (zw (i:=5) S) (zF (zw (i:=6) S) (zF (zw (i:=7) S) (zF (zw (i:=8) S) (zF (zw (i:=9) S) yJ)))))))
   (zm (yy (yW U1 S8 S9 xC (pv 4) (zc (yl (zc (pv 5) (zc (pv 8) (zc z0 zf)))) zf))))) ye)
  (zm (zB (pv 4)))))),?_⟩
 dsimp only[zH,Cx.nox,Cx.wish];have bV:=yV;have aJ:=yB;refine yT λbW _ ao _ _=>zt λU O=>?_;refine⟨X7 _,λq ap=>O _ _ (zt λU O=>?_)⟩;have af:=Aa.new (o:=.lst []) ap;refine⟨_,J,_,J,_,J,z,v,b,q,x,J,aG.same af,aG.ne ap,bc.mono af.x,aH,zd,ae,bd.same af,λp D n H2 bh bX aK aL aq bi bj aM=>O _ _ (zt λU O=>?_)⟩;have aN:ym tb H H2:=λB o h e=>bh B o (zi e ap) h (af B o e);obtain⟨ag,aO,aP⟩:=bi;obtain⟨bk,bl⟩:=dX b x n;have aQ:=xm (x:=x) bg bf n;have aR:=aQ.sl;have ar:=aQ.dl;rw[aL] at aR ar;generalize bm:(zb b x n).ss=L at *;generalize bn:(zb b x n).ds=ds at *;have as:D.length=L.length:=by have:=aq.length;simpa using this
 have aS:ag.length=ds.length:=by have:=aP.length;simpa using this
 refine⟨_,J,z,p,D,L,J,aK,aq,bl,by exact S5 aR ae,λpl au R bo ah=>?_⟩;rw[bk] at ah;have av:=R _ _ aO;have bY:pl≠q:=(zi aO bo).symm;refine⟨_,J,pl,q,J,⟨_,Ad.of ah⟩,⟨_,Ad.of av⟩,λM ab=>?_⟩;have bp:=Aa.new (o:=.lst []) ab;have aw:=bj.same R;have bq:M≠z:=aw.ne ab;have br:q≠M:=zi av ab;have bs:pl≠M:=zi ah ab;refine X0 (K:=K) (a:=pl) (b:=q) (xs:=(ds.map (·.1)).map V.int) (ys:=ag) (λt σ G=>(∃aT aU aV,σ=[aT,aU,aV])/\Ac M au G/\∃I,G M=some (.lst I)/\Ab z G I ((ds.take t).map wK)) ⟨⟨none,none,none,J⟩,bp.x,[],zd,.nil⟩ (by simp[aS]) (λt σ G hw=>⟨Ad.of (hw.2.1 _ _ bs ah),Ad.of (hw.2.1 _ _ br av)⟩) ?_ ?_
 .rintro σ G ⟨_,ai,I,ac,W⟩;have e:ds.take ((ds.map (·.1)).map V.int).length=ds:=by rw[X5,X5];exact R1
  rw[e] at W;have Y:Aa au G:=λB o e=>ai B o (zi e ab) e;have ax:=Y _ _ (R _ _ aK);have bt:=(aq.mono R.x (z:=z)).mono Y.x (z:=z);have aj:=aw.same Y;have ay:ym tb H G:=λB o h e=>Y B o (R B o (aN B o h e));have az:=(aM.same R).same Y;have aW:H M=none:=LamT.free (aM.same R) (λB o h e=>R B o (aN B o h e)) ab;have aA:I.length=ds.length:=by have:=W.length;simpa using this
  have aB:∀(Z:Hp) (ak:List V) (es:List zp),ym tb H Z->Z M=some (.lst ak)->Ab z Z ak ((ds++es).map wK)->es=qW L->Am z Z->zO tb Z->Q (.ref M) Z:=λZ ak es bu bv bw bx bz bA=>k M ak n Z bu aW bv aL (by rw[bn,bm,←bx];exact bw) bz bA;refine O _ _ (zt λU O=>?_);refine⟨_,J,_,.inl ⟨D,Ad.of ax,J⟩,?_⟩;cases hB:L.length with
  |zero=>
   have bB:L=[]:=Ry hB;have bC:D=[]:=Ry (Jt as hB);subst bB;subst bC;refine yi ?_;refine yi ?_;refine O _ _ ⟨_,J,ao _ _ (aB G I [] ay ac (by rw[QI];exact W) ?_ aj az)⟩;unfold qW;rw[Qxa (by simp)]
  |succ m=>
   have bD:D.length=m+1:=Jt as hB;obtain⟨a,al,bE,am,bZ⟩:=qU (qV (t:=m) bt (by exact iY hB));have aX:xi D (-1)=some (.ref a):=by
    have bF:xA D.length (-1)=some (D.length-1):=by
     unfold xA;rw[Qxa (by decide),Qxb (by omega)];congr 1;exact sL
    unfold xi;rw[bF];show D[D.length-1]?=_;have bG:D.length-1=m:=by exact aI as hB
    rw[bG,←al,XP];have:m<D.length:=by omega
    rw[X1 this];rfl
   have aY:L.getD (L.length-1) xV=L.getD m xV:=by rw[hB];rfl
   have bH:L≠[]:=λq=>by rw[q] at hB;cases hB
   refine yc (λ_=>?_) (λbI=>?_)
   case' refine_2=>
    exfalso;cases D with
    |nil=>simp at bD
    |cons _ _=>simp at bI
   refine⟨_,J,1,J,p,D,-1,_,J,J,Ad.of ax,aX,a,_,2,_,J,J,Ah.of am,zy (j:=2) J,J,_,J,?_⟩;generalize b0:L.getD m xV=st at *;refine yc (λg=>?_) (λg=>?_)
   .have g':st.2.2.1=YP "cut":=by simpa using g
    refine⟨_,J,1,J,p,D,-1,_,J,J,Ad.of ax,aX,a,_,J,Ah.of am,J,_,_,J,_,_,J,_,_,J,_,_,J,_,_,J,J,?_⟩;refine⟨_,J,.inl ⟨J,_,Ad.of ac⟩,_,J,_,J,by show (3:Nat)<=_;exact X6 _ _,λpt aZ=>?_⟩;have J0:=Aa.new (o:=.tup [.int st.1,.int st.2.2.2.1,.str (YP "")]) aZ;have aC:=J0 _ _ ac;refine⟨M,I,_,J,J,aC,by exact i8 ae aJ ar aA,?_⟩;have bJ:pt≠z:=aj.ne aZ;have aD:Aj z (c' G pt (.tup [.int st.1,.int st.2.2.2.1,.str (YP "")])) (.ref pt) (wK (st.1,st.2.2.2.1,YP "")):=.tup zd bJ (.cons (.int _) (.cons (.int _) (.cons (.str _ (by lia)) .nil)));refine O _ _ ⟨_,J,ao _ _ (aB _ (I++[.ref pt]) [(st.1,st.2.2.2.1,YP "")] ?_ zd ?_ ?_ ?_ ?_)⟩
    .exact λB o h e=>by rw[zh (zi e aW)];exact J0 B o (ay B o h e)
    .rw[T5];exact Ab.updL aC ((W.mono J0.x).append (.cons aD .nil)) ((uU _).append (uU [_]))
    .unfold qW;rw[aY,Qxb ⟨bH,g'⟩]
    .obtain⟨bK,bL,bM⟩:=aj.same J0;exact⟨bK,bL,by rw[zh bq.symm];exact bM⟩
    .exact(az.same J0).sameX aC Ac.refl.c'
   .have g':st.2.2.1≠YP "cut":=by simpa using g
    refine O _ _ ⟨_,J,ao _ _ (aB G I [] ay ac (by rw[QI];exact W) ?_ aj az)⟩;unfold qW;rw[aY,Qxa (λq=>g' q.2)]
 .rintro t σ G a0 a1 a2 ⟨⟨aT,aU,aV,rfl⟩,ai,I,ac,W⟩ a3 a4 bN;have ad:t<ds.length:=by have:=(W5.mp a4).1;exact zU this (RH aS)
  have bO:a1=.int (ds.getD t zX).1:=by
   rw[RF,RF,X1 ad] at a3;rw[XP,X1 ad];exact(R4 a3).symm
  have bP:a2=ag.getD t .non:=by rw[XP,a4];rfl
  have Y:Aa au G:=λB o e=>ai B o (zi e ab) e;have a5:Aj z G (ag.getD t .non) (pdD (ds.getD t zX)):=by
   have:=((aP.mono R.x (z:=z)).mono Y.x (z:=z)).get (i:=t) (by simp;exact ad);simpa [ad] using this
  obtain⟨a,al,bE,am⟩:=nI a5;have J0:=Aa.new (o:=.tup [a1,a2]) bN;rw[bO,bP,al] at J0 ⊢;refine⟨a0,_,J,Ah.of zd,J,_,_,J,_,_,J,⟨a,_,J,Ah.of (J0 _ _ am),J,_,_,J,_,_,J,J,?_⟩⟩;refine⟨J,?_⟩;dsimp only[ve];rw[Qxb rfl];refine⟨_,J,_,J,_,J,by show (3:Nat)<=_;exact X6 _ _,λpn a6=>?_⟩;have aE:=Aa.new (o:=.tup [.int (ds.getD t zX).1,.int (ds.getD t zX).2.1,.str (ds.getD t zX).2.2]) a6;have a7:=aE _ _ (J0 _ _ ac);have aA:I.length<=ds.length:=by
   have:=W.length;rw[X5,QQ] at this;exact aa this
  have bQ:pn≠z:=(((aw.same Y)).same J0).ne a6;have bR:(ds.getD t zX).2.2.length<=1000:=by
   have a8:=a5;rw[al] at a8;cases a8 with
   |tup h b1 r=>
    cases r with
    |cons _ r=>
     cases r with
     |cons bS _=>
      cases bS with
      |str _ bT=>exact bT
  refine⟨I,a7,by exact Zd ae aJ ar aA,⟨_,_,_,J⟩,((ai.trans J0.x).trans aE.x).c',I++[.ref pn],zd,?_⟩;have aD:Aj z (c' (c' G a0 (.tup [.int (ds.getD t zX).1,.ref a])) pn (.tup [.int (ds.getD t zX).1,.int (ds.getD t zX).2.1,.str (ds.getD t zX).2.2])) (.ref pn) (wK (ds.getD t zX)):=.tup zd bQ (.cons (.int _) (.cons (.int _) (.cons (.str _ bR) .nil)));have e:ds.take (t+1)=ds.take t++[ds.getD t zX]:=by
   rw[Ks,XP,X1 ad];rfl
  rw[e,T5];exact Ab.updL a7 (((W.mono J0.x).mono aE.x).append (.cons aD .nil)) ((uU _).append (uU [_]))
theorem cg{x y:Str}{k:Nat}(B:x.cps.toList=x.cps.toList.take (zb b x n).b'++y.cps.toList++[])(F:(zb b x n).b'<=x.length)(G:∀j,j<k->(zn b y (zb b x n).ds j).b'<y.length) :
  (zb b x (n+k)).b'=(zb b x n).b'+(zn b y (zb b x n).ds k).b'/\(zb b x (n+k)).ds.map T1.pdD=(zn b y (zb b x n).ds k).ds.map T1.pdD/\(zb b x (n+k)).ss=(zb b x n).ss++(zn b y (zb b x n).ds k).ss.map (xU (zb b x n).b'):=by
 have R:=dw (b:=b) B (off:=(zb b x n).b') (by rw[QQ,xn];exact iL F) (S0:=(zb b x n).ss) (R:=zb b x n) (r:=⟨0,(zb b x n).ds,[]⟩) ⟨J,J,by show _=_++[];rw[QI]⟩ k λj I=>⟨G j I,.inl J⟩;rw[←dq] at R;refine⟨R.b',?_,R.ss⟩;have e:∀l:List zp,l.map T1.pdD=(l.map (·.2)).map (λd=>D.tup [.int d.1,.str d.2]):=λl=>by rw[R6];rfl
 rw[e,e,R.pd]
structure AW(tb C z:Addr)(H:Hp)(r dx q:Addr)(v:V)(b:Bk)(x rs:Str)(m:Nat):Prop where
 bg:Am z H
 ins:H r=some (.ins C dx (yF v rs (zb b x m).b' q))
 qz:q≠z
 bk:Aj z H v (yp b)
 pd:AD z H q (zb b x m).ds
 lam:zO tb H
section
variable {P:U2}{w:Rz}{K:W.Frag}{mg:Str->Option X3}{base:Heap}{tb C z r dx q:Addr}{v:V}{b:Bk}{x rs pc:Str}{m:Nat}{H:Hp}{Q:VK}{E:XK}
theorem AW.same{H':Hp}(R:AW tb C z H r dx q v b x rs m)(s:Aa H H'):AW tb C z H' r dx q v b x rs m:=⟨R.bg.same s,s _ _ R.ins,R.qz,R.bk.mono s.x,R.pd.same s,R.lam.same s⟩
theorem AW.sameX{H':Hp}{p:Addr}{l:List V}(R:AW tb C z H r dx q v b x rs m)(B:H p=some (.lst l))(D:p≠z)(F:p≠q)(s:Ac p H H'):AW tb C z H' r dx q v b x rs m:=by
 obtain⟨⟨G,I,e⟩,h2,J0,L,⟨vs,M,O⟩,S⟩:=R;exact⟨⟨G,I,s _ _ D.symm e⟩,s _ _ (zj h2 B) h2,J0,Aj.butL B s L (.tup (wa b)),⟨vs,s _ _ F.symm M,Ab.butL B s O (vF _)⟩,S.sameX B s⟩
theorem U6(a c:Str):(a++c).cps.toList=a.cps.toList++c.cps.toList:=by show (a.cps++c.cps).toList=_;simp
theorem jV(G:yn b)(al:x.length<=5000)(R:AW tb C z H r dx q v b x rs m)(V:rs.cps.toList++pc.cps.toList=x.cps.toList.drop (zb b x m).b')(k:∀p B j rs' S H',rA r q tb H H'->H p=none->H' p=some (.lst B)->(zb b x (m+j)).ss=(zb b x m).ss++S->Ab z H' B (S.map yb)->AW tb C z H' r dx q v b x rs' (m+j)->rs'.cps.toList=x.cps.toList.drop (zb b x (m+j)).b'->Q (.ref p) H'):qZ tb C [.ref r,.str pc] H Q E:=by
 obtain⟨I,am,J0,_⟩:=id G;have D:=xm (x:=x) J0 I m;have W:=D.le;have ao:=D.dl;have F:(rs++pc).cps.toList=x.cps.toList.drop (zb b x m).b':=by
  rw[U6];exact V
 have ap:rs.length+pc.length=x.length-(zb b x m).b':=by
  have e:(rs++pc).length=rs.length+pc.length:=Mg;rw[←e,←xn,F,Qw,xn]
 refine⟨z,r,dx,v,b,rs,q,(zb b x m).ds,pc,(zb b x m).b',J,R.bg,R.ins,R.qz,R.bk,G,R.pd,D.bk,by omega,R.lam,λp B j H' L Y Z aa aq ab M ac ad ae=>?_⟩;obtain⟨O,af,ag⟩:=cg (b:=b) (x:=x) (y:=rs++pc) (n:=m) (k:=j) (by rw[F,Nd,QI]) W λi hi=>(aa i hi).1;have ah:sj b (rs++pc) (zb b x m).ds (zn b (rs++pc) (zb b x m).ds j):=sk (x:=rs++pc) J0 I D.bk j;obtain⟨pt,ht⟩:=R.lam.tbl;obtain⟨ar,ai,_⟩:=id R.pd;obtain⟨aj,ak,U⟩:=ac;rw[←af] at U;rw[←O] at M;refine k p B j _ _ H' L Y Z ag ab ⟨ad,M,R.qz,Aj.but3 R.ins ai ht L R.bk (.tup (wa b)),⟨aj,ak,U⟩,ae⟩ ?_;rw[show (vm (rs++pc) (zn b (rs++pc) (zb b x m).ds j).b').cps.toList=_ from nM (rs++pc) ah.le,F,Ig,O]
theorem U7(F:yn b)(ak:x.length<=5000)(R:AW tb C z H r dx q v b x rs m)(G:rs.cps.toList=x.cps.toList.drop (zb b x m).b')(k:∀p B j q' S H',rA r q tb H H'->H p=none->H q'=none->q'≠p->H' p=some (.lst B)->(zb b x (m+j)).b'=x.length->(zb b x (m+j)).ss=(zb b x m).ss++S->Ab z H' B (S.map yb)->AW tb C z H' r dx q' v b (YP "") (YP "") 0->Q (.ref p) H'):q9 tb C [.ref r] H Q E:=by
 obtain⟨M,al,O,_⟩:=id F;have D:=xm (x:=x) O M m;have I:=D.le;have am:=D.dl;have U:rs.length=x.length-(zb b x m).b':=by rw[←xn,G,Qw,xn]
 refine⟨z,r,dx,v,b,rs,q,(zb b x m).ds,(zb b x m).b',J,R.bg,R.ins,R.qz,R.bk,F,R.pd,D.bk,by omega,R.lam,λp B j V H' J0 W L Y Z aa ab ac ad ae af ag=>?_⟩;obtain⟨ah,ao,ai⟩:=cg (b:=b) (x:=x) (y:=rs) (n:=m) (k:=j) (by rw[G,Nd,QI]) I aa;obtain⟨pt,ht⟩:=R.lam.tbl;obtain⟨ap,aj,_⟩:=id R.pd;exact k p B j V _ H' J0 W L Y Z (by rw[ah,ab];exact bW I U) ai ac ⟨af,ad,R.bg.ne L,Aj.but3 R.ins aj ht J0 R.bk (.tup (wa b)),⟨[],ae,.nil⟩,ag⟩
theorem jW(b:Bk):∀n,zb b (YP "") n=zb b (YP "") 0
 |0=>rfl
 |n+1=>by rw[U0 (by rw[jW b n,wk];exact Pe 0),jW b n]
end
theorem pb{S:List zQ}(R:Ab z H B (S.map yb)):∀y∈B,Pl H 1 y:=qN (λd D=>by obtain⟨s,_,rfl⟩:=S4.mp D;rfl) R
inductive sy(tb:Addr):Sp where
 |mk {vs:List V} {H:Hp} {Q:VK} {E:XK} (z v b x:_) (c1:vs=[v,.str x]) (c2:Am z H) (c3:Aj z H v (yp b)) (c4:yn b) (c5:x.length<=1000) (c6:zO tb H) (c7:∀H',ym tb H H'->Am z H'->zO tb H'->Q (.bl true) H'):sy tb vs H Q E
theorem scRR:zK ["book","text","reader","first","kept","rest"] ["book","text"] (zq ju):=zP
theorem U8{a7:Addr}{a8:FuncData}(F:Ao K "_law_reader_right" "_law_reader_right" ju f fd)(bL:ud mg)(ar:su K mg C)(bM:mg "Reader"=some (.ref C))(bN:L2.Mk K C a7)(bO:Cl P w K mg base 5 "_law_plain" ["thing"] (rq 5))(bP:Cl P w K mg base 2 "_law_steps" ["book","text"] qG)(bQ:Binds K a8 ["self","book"] [])(bR:Ag P w K mg base zD 2 a7 a8 ["self","book"] (n9 C))(aH:Ml P w K mg base C 6 "feed" ["self","piece"] (qZ tb C))(bS:Ml P w K mg base C 6 "finish" ["self"] (q9 tb C)):Ag P w K mg base zD 7 f fd ["book","text"] (sy tb):=by
 refine F.okA scRR λg4 A outer s H vs Q E R h=>?_;obtain⟨z,v,b,x,rfl,a9,bT,V,aI,ba,k⟩:=h;have as:=scRR.nd;have bU:Ak 2 _:=R.mono (by decide);have bV:Ak 3 _:=R.mono (by decide);have bb:Ak 5 _:=R.mono (by decide);refine⟨_,ze (zu (i:=2) as (gI bN bR bV J bM bQ .nil uI (zz 0)))
  (ze (zu (i:=3) as (yX (pv 2) ar.cl aH R (zz 1)))
  (ze (zu (i:=4) as (vc oA (by rfl) bL.list vS (zz 3)))
  (ze (yy (tQ U1 MI MJ fb (pv 3)))
  (ze (zu (i:=5) as (zG vP (yX (pv 2) ar.cl aH R (yY z0 zf)) (ub (pv 2) ar.cl bS R)))
  (zm (zB (sO (zA bO bb (tZ (zG vP (pv 4) (pv 5)) zf))
   (sO (vZ (fX bb) (zG vP (pv 4) (pv 5)) (zx Ae (zA bP bU (yk 0 1)) zg (λ_ _=>rfl)) (zR _))
   (uu (vZ (kt R.units0) (yX (pv 2) ar.cl aH R (yY z0 zf)) (zV zf) (zR _))))))))))),?_⟩
 dsimp only[zH,Cx.nox,Cx.wish];have cu:=yB;obtain⟨cv,cw⟩:=ba.tbl;have aJ:x.length<=5000:=zC aI;refine yT λcx _ bW _ _=>zt λU J0=>?_;refine⟨_,J,λr dx W bX bY=>?_⟩;have sm1:Aa H (c' H dx (.own r)):=Aa.new bX;have bc:c' H dx (.own r) r=none:=by rw[zh bY.symm];exact W
 have aK:Aa H (c' (c' H dx (.own r)) r (.ins C dx [])):=sm1.trans (Aa.new bc);refine⟨r,_,dx,J,zd,λah H1 bd be bf bg=>⟨J,J0 _ _ (zt λU J0=>?_)⟩⟩;have au:H ah=none:=aK.free bd;have ai:Aa H H1:=λB o' e=>be B o' (zi e W) (aK B o' e);have Y:AW tb C z H1 r dx ah v b x (YP "") 0:=⟨a9.same ai,bg,a9.ne au,bT.mono ai.x,⟨[],bf,.nil⟩,ba.same ai⟩;have aL:ym tb H H1:=λB o' _ e=>ai B o' e;clear aK sm1 be bd ai bc bf bg;refine⟨_,J,r,dx,_,J,Y.ins,sr (by simp),_,J,jV V aJ Y (by rw[wk];rfl) λG D j rs S H2 bh av aw ax bi R2 bj=>J0 _ _ (zt λU J0=>?_)⟩;obtain⟨pt,ht⟩:=Y.lam.tbl;have bZ:H G=none:=LamT.free Y.lam aL av;have b0:G≠ah:=by
  obtain⟨b1,aM,_⟩:=Y.pd;exact(zi aM av).symm
 have b2:G≠z:=Y.bg.ne av;have aN:ym tb H H2:=λB o' h e=>bh B o' (zi e W) (zi e au) h (aL B o' h e);rw[Jx] at ax R2 bj;have ax:(zb b x j).ss=S:=ax;subst ax;clear bh aL ht
 -- kept
 refine⟨_,J,G,D,J,.inl (Ad.of aw),λp2 Z=>J0 _ _ (zt λU J0=>?_)⟩;have aj:=Aa.new (o:=.lst D) Z;have aO:=R2.same aj;have aP:c' H2 p2 (.lst D) p2=some (.lst D):=zd;have aa:=aj _ _ aw;have ab:=bi.mono aj.x (z:=z);have b3:p2≠G:=(zi aw Z).symm;have cy:p2≠z:=R2.bg.ne Z;have bk:p2≠ah:=by
  obtain⟨b1,aM,_⟩:=R2.pd;exact(zi aM Z).symm
 have aQ:ym tb H (c' H2 p2 (.lst D)):=λB o' h e=>aj B o' (aN B o' h e);have cz:H p2=none:=LamT.free R2.lam aN Z;generalize c' H2 p2 (.lst D)=ay at aO aP aa ab aQ;clear aj R2 aN bi aw Z av
 -- clear
 refine⟨_,J,.inl ⟨J,_,Ad.of aa⟩,G,D,J,J,aa,J0 _ _ (zt λU J0=>?_)⟩;have ak:Ac G ay (c' ay G (.lst [])):=Ac.refl.c';have L:=aO.sameX aa b2 b0 ak;have al:=ak _ _ b3 aP;have ac:=Ab.butL aa ak ab (xf _);have aR:ym tb H (c' ay G (.lst [])):=λB o' h e=>ak B o' (zi e bZ) (aQ B o' h e);generalize c' ay G (.lst [])=cA at L al ac aR;clear ak aO aQ ab aa aP
 -- rest
 refine⟨_,J,r,dx,_,J,L.ins,sr (by simp),jV V aJ L (by rw[bj,wk];exact QI _) λp3 M az cB cC b4 aA aS aB b5 ab I b6=>?_⟩;obtain⟨cD,aT⟩:=L.lam.tbl;obtain⟨cE,aV,_⟩:=id L.pd;have aC:=aA _ _ (zj al L.ins) bk (zj al aT) al;have bl:=Ab.but3 L.ins aV aT aA ac (xf _);have b7:p3≠ah:=(zi aV aS).symm;have cF:p3≠z:=L.bg.ne aS;have aW:ym tb H b4:=λB o' h e=>aA B o' (zi e W) (zi e au) h (aR B o' h e);clear aA aR L ac al aT aV aS;refine⟨_,J,r,dx,_,J,I.ins,sr (by simp),U7 V aJ I b6 λp4 O aD b8 cG am ad b9 bm cH bn bo ca ac bp=>?_⟩;obtain⟨cI,ao⟩:=I.lam.tbl;obtain⟨cJ,aX,_⟩:=id I.pd;have bq:=ad _ _ (zj aC I.ins) bk (zj aC ao) aC;have br:=ad _ _ (zj aB I.ins) b7 (zj aB ao) aB;have bs:=Ab.but3 I.ins aX ao ad bl (xf _);have bt:=Ab.but3 I.ins aX ao ad ab (xf _);have bu:ym tb H am:=λB o' h e=>ad B o' (zi e W) (zi e au) h (aW B o' h e);have cb:H b8=none:=LamT.free I.lam aW bm;clear ad aW I bl ab aC aB ao aX b9 bm;obtain⟨bv,cK,bw,_⟩:=id V;have cc:=(xm (x:=x) bw bv (j+az+aD)).sl;have cL:=(xm (x:=x) bw bv (j+az+aD)).le;have aY:Ab z am (D++(M++O)) ((zb b x (j+az+aD)).ss.map yb):=by
  rw[ca,b5,Q8,T5,T5];exact bs.append (bt.append ac)
 have cM:D.length+(M.length+O.length)=(zb b x (j+az+aD)).ss.length:=by
  have e:=aY.length;rw[X4,X4,X5] at e;exact e
 refine⟨p3,p4,M,O,J,J,br,bn,by omega,λp5 bx=>J0 _ _ ?_⟩;have ap:=Aa.new (o:=.lst (M++O)) bx;have aZ:=bp.same ap;have aE:=ap _ _ bq;have aq:c' am p5 (.lst (M++O)) p5=some (.lst (M++O)):=zd;have ae:=aY.mono ap.x (z:=z);have a0:ym tb H (c' am p5 (.lst (M++O))):=λB o' h e=>ap B o' (bu B o' h e);generalize c' am p5 (.lst (M++O))=cN at aZ aE aq ae a0;clear ap bp bu aY bs bt ac bq br bn bx;generalize M++O=af at aq ae;have bz:(D++af).length<=1000:=by
  have e:=ae.length;rw[X5] at e;exact aU aI bo cc e
 have bA:D.length+af.length<=sizeLine:=by rw[X4] at bz;exact zC bz
 -- the answer
 refine⟨_,J,_,J,p2,p5,D,af,J,J,aE,aq,bA,λcO bB=>?_⟩;have a1:=Aa.new (o:=.lst (D++af)) bB;refine⟨_,J,.lst (n:=3) zd λy cd=>?_,λce bC=>⟨_,J,yS ?_⟩⟩
 .exact(pb (ae.mono a1.x (z:=z)) y cd).up.up
 have ag:=a1.trans bC;have aF:=aZ.same ag;have bD:=ag _ _ aE;have bE:=ag _ _ aq;have a2:=ae.mono ag.x (z:=z);have bF:ym tb H ce:=λB o' h e=>ag B o' (a0 B o' h e);clear ag a1 bC bB aZ aE aq ae a0;refine⟨_,J,_,J,p2,p5,D,af,J,J,bD,bE,bA,λcP bG=>?_⟩;have a3:=Aa.new (o:=.lst (D++af)) bG;have a4:=aF.same a3;refine⟨_,J,_,J,z,v,b,x,J,a4.bg,a4.bk,V,by exact zC aI,λpl cQ cR n1 cf a5 cg ch ci cS=>?_⟩;have aG:=a3.trans a5;rw[jT bo ch] at a2;refine⟨pl,_,0,_,J,J,Ad.of cg,zy (j:=0) J,z,z,_,.lst (a5 _ _ zd) (aF.bg.ne bG) (a2.mono aG.x),ci,me 3 _,_,J,yS ?_⟩;have bH:=aF.same aG;have cj:ym tb H cf:=λB o' h e=>aG B o' (bF B o' h e);clear aG a3 a5 a4 aF bF a2 bD bE;refine⟨_,J,r,dx,_,J,bH.ins,sr (by simp),jV V (by rw[wk];exact X7 _) bH (by rw[wk];rfl) λck cT cm cU cn cV co cW cp bI cq bJ _=>?_⟩;rw[jW b (0+cm)] at bI;have cr:cn=[]:=by simpa using bI.symm
 subst cr;cases cq;refine⟨X7 _,λcs bK=>⟨ck,cs,[],J,J,Aa.new bK _ _ cp,zd,bW _ _ ?_⟩⟩;have a6:=Aa.new (o:=.lst []) bK;exact k _ (λB o' h e=>a6 _ _ (co B o' (zi e W) (zi e cb) h (cj B o' h e))) (bJ.bg.same a6) (bJ.lam.same a6)
noncomputable abbrev jX:Stmt:=xj o7 0
noncomputable abbrev mj:Stmt:=xj o7 1
noncomputable abbrev jY:Stmt:=xj o7 2
noncomputable abbrev jZ:Stmt:=xj o7 3
noncomputable abbrev zW:=Nat×Int×Str
variable {tab:List zW}
inductive At(tab:List zW):Nat->List (Int×Str)->Prop where
 |zero:At tab 0 []
 |suc {k:Nat} {r:zW} {ds:List (Int×Str)} (h:tab[k]?=some r) (hk:r.1<=k) (t:At tab r.1 ds):At tab (k+1) (ds++[r.2])
theorem At.mono{k:Nat}{ds:List (Int×Str)}(h:At tab k ds)(B:List zW):At (tab++B) k ds:=by
 induction h with
 |zero=>exact .zero
 |suc h D _ F=>exact .suc (by rw[Qr (W5.mp h).1];exact h) D F
theorem At.le{k:Nat}{ds:List (Int×Str)}(h:At tab k ds):k<=tab.length:=by
 cases h with
 |zero=>exact X7 _
 |suc h _ _=>exact(W5.mp h).1
noncomputable def tf(d:Int×Str):D:=.tup [.int d.1,.str d.2]
noncomputable def vG(r:zW):D:=.tup [.int r.1,tf r.2]
theorem j2(d:Int×Str):xJ (tf d):=.tup (.cons (.int _) (.cons (.str _) .nil))
theorem j5:∀tab:List zW,Av (tab.map vG)
 |[]=>.nil
 |r::t=>.cons (.tup (.cons (.int _) (.cons (j2 _) .nil))) (j5 t)
theorem ml:∀ds:List (Int×Str),Av (ds.map tf)
 |[]=>.nil
 |r::t=>.cons (j2 r) (ml t)
noncomputable def xo(r:zW):List yg:=[.inl (.inl r.1),.inr [.inl r.2.1,.inr r.2.2]]
theorem U9{r s:zW}(h:xo r=xo s):r=s:=by
 obtain⟨a,b,c⟩:=r;obtain⟨B,F,G⟩:=s;unfold xo at h;simp only[JW,Pq.injEq,N5.injEq,and_true] at h;obtain⟨h1,h2,D⟩:=h;have h1:a=B:=Q7 h1;subst h1;subst h2;subst D;rfl
noncomputable abbrev wM:List Bool:=[true,false]
noncomputable def xg:Nat->List zW->List Addr->List yU
 |n,r::tab,a::B=>(xo r,a,.int ((n+1:Nat):Int))::xg (n+1) tab B
 |_,[],_=>[]
 |_,_::_,[]=>[]
theorem j6(r:zW)(a:Addr):∀(n:Nat) (tab:List zW) (B:List Addr),tab.length=B.length->xg n (tab++[r]) (B++[a])=xg n tab B++[(xo r,a,.int ((n+tab.length+1:Nat):Int))]
 |n,[],[],_=>rfl
 |n,s::tab,b::B,h=>by
  show _::xg (n+1) (tab++[r]) (B++[a])=_::(xg (n+1) tab B++_);rw[j6 r a (n+1) tab B (by simpa using h)];have e:n+1+tab.length+1=n+(s::tab).length+1:=by rw[RN];exact iV
  rw[e]
 |n,[],_::_,h=>by simp at h
 |n,_::_,[],h=>by simp at h
theorem ci:∀(n:Nat) (tab:List zW) (B:List Addr),(xg n tab B).length<=tab.length
 |n,[],_=>X2 _
 |n,_::_,[]=>X7 _
 |n,r::tab,a::B=>by
  have:=ci (n+1) tab B;show (xg (n+1) tab B).length+1<=tab.length+1;exact Ra this
theorem ph(p:yU)(l:List yU)(k:List yg):yG (p::l) k=if p.1=k then some p.2.2 else yG l k:=by
 unfold yG;by_cases e:p.1=k
 .rw[Qxb e,List.find?_cons_of_pos (by simpa using e)];rfl
 .rw[Qxa e,List.find?_cons_of_neg (by simpa using e)]
theorem cj{r:zW}{v:V}:∀(n:Nat) (tab:List zW) (B:List Addr),yG (xg n tab B) (xo r)=some v->∃j:Nat,tab[j]?=some r/\v=.int ((n+j+1:Nat):Int)
 |n,[],_,h=>by simp[xg,yG] at h
 |n,_::_,[],h=>by simp[xg,yG] at h
 |n,s::tab,a::B,h=>by
  have h:yG ((xo s,a,.int ((n+1:Nat):Int))::xg (n+1) tab B) (xo r)=some v:=h;rw[ph] at h;by_cases e:xo s=xo r
  .rw[Qxb e] at h;exact⟨0,by rw[U9 e];rfl,(R4 h).symm⟩
  .rw[Qxa e] at h;obtain⟨j,h1,h2⟩:=cj (n+1) tab B h;exact⟨j+1,h1,by rw[h2];congr 2;exact iV⟩
theorem ck{r:zW}:∀(n:Nat) (tab:List zW) (B:List Addr),tab.length=B.length->yG (xg n tab B) (xo r)=none->¬r∈tab
 |n,[],_,_,_=>by simp
 |n,_::_,[],h,_=>by simp at h
 |n,s::tab,a::B,D,h=>by
  have h:yG ((xo s,a,.int ((n+1:Nat):Int))::xg (n+1) tab B) (xo r)=none:=h;rw[ph] at h;by_cases e:xo s=xo r
  .rw[Qxb e] at h;cases h
  .rw[Qxa e] at h;have:=ck (n+1) tab B (by simpa using D) h;intro q;rcases S7.mp q with q|q
   .exact e (by rw[q])
   .exact this q
theorem Ta{k:List yg}{p:yU}(l:List yU)(h:yG l k=none)(e:p.1=k):yG (l++[p]) k=some p.2.2:=by
 induction l with
 |nil=>rw[M4,ph,Qxb e]
 |cons q l B=>
  rw[ph] at h;by_cases g:q.1=k
  .rw[Qxb g] at h;cases h
  .rw[Qxa g] at h;rw[JG,ph,Qxa g];exact B h
theorem j7{r:zW}(h:Aj z H v (vG r)):∃a d,v=.ref a/\a≠z/\d≠z/\H a=some (.tup [.int r.1,.ref d])/\H d=some (.tup [.int r.2.1,.str r.2.2])/\r.2.2.length<=1000:=by
 have h:Aj z H v (.tup [.int r.1,.tup [.int r.2.1,.str r.2.2]]):=h;cases h with
 |tup h I B=>
  cases B with
  |cons B D=>
   cases D with
   |cons D J0=>
    cases J0;cases B;cases D with
    |tup h2 L F=>
     cases F with
     |cons F G=>
      cases G with
      |cons G M=>
       cases M;cases F;cases G with
       |str _ O=>exact⟨_,_,J,I,L,h,h2,O⟩
theorem j9{r:zW}(h:Aj z H (.ref a) (vG r)):tW H (xo r) a:=by
 obtain⟨B,d,e,_,_,h1,h2,_⟩:=j7 h;cases e;exact⟨_,h1,.cons J (.cons ⟨d,J,h2⟩ .nil)⟩
theorem ia{z:Addr}{H:Hp}:∀(n:Nat) (tab:List zW) (B:List Addr),Ab z H (B.map V.ref) (tab.map vG)->qm H wM (xg n tab B)
 |n,[],_,_=>λp hp=>nomatch hp
 |n,_::_,[],_=>λp hp=>nomatch hp
 |n,r::tab,a::B,h=>λp hp=>by
  cases h with
  |cons h1 h2=>
   rcases S7.mp (show p∈(xo r,a,V.int ((n+1:Nat):Int))::xg (n+1) tab B from hp) with e|hp
   .rw[e];exact⟨j9 h1,J⟩
   .exact ia (n+1) tab B h2 p hp
theorem sA(f g:Str)(v:V)(r:List (Str×V)):((g,v)::r).lookup f=if f=g then some v else r.lookup f:=by
 rw[QC];by_cases h:f=g
 .have B:(f==g)=true:=beq_iff_eq.mpr h;rw[B,Qxb h]
 .have B:(f==g)=false:=beq_eq_false_iff_ne.mpr h;rw[B,Qxa h]
noncomputable def ui(pr pn:Addr):List (Str×V):=[("rows",.ref pr),("numbers",.ref pn)]
theorem q1:¬(("rows":Str)="numbers"):=by lia
theorem mm(pr pn:Addr):(ui pr pn).lookup ("rows":Str)=some (.ref pr):=by unfold ui;rw[sA,Qxb rfl]
theorem mn(pr pn:Addr):(ui pr pn).lookup ("numbers":Str)=some (.ref pn):=by unfold ui;rw[sA,Qxa (Q3 q1),sA,Qxb rfl]
structure AF(P:U2)(w:Rz)(z CS:Addr)(H:Hp)(so g0 pr pn:Addr)(tab:List zW):Prop where
 ins:H so=some (.ins CS g0 (ui pr pn))
 ex:∃as:List Addr,H pr=some (.lst (.non::as.map V.ref))/\Ab z H (as.map V.ref) (tab.map vG)/\H pn=some (dN P w wM pn (xg 0 tab as))
 prz:pr≠z
 wf:∀(j:Nat) (r:zW),tab[j]?=some r->r.1<=j
 nod:tab.Nodup
theorem Tb{b:Addr}{l:List V}{a':List yU}(h:H a=some (.lst l))(g:H b=some (dN P w wM b a')):a≠b:=zj h g (by intro q;cases q)
theorem AF.keep{P:U2}{w:Rz}{z CS:Addr}{H H':Hp}{so g0 pr pn:Addr}{tab:List zW}(h:AF P w z CS H so g0 pr pn tab){S:Addr->Prop}(k:yA S H H')(n:xR S H)(h1:¬S so)(h2:¬S pr)(B:¬S pn):AF P w z CS H' so g0 pr pn tab:=by
 obtain⟨D,F,G,I⟩:=h.ex;exact⟨k _ _ h1 h.ins,⟨D,k _ _ h2 F,Ab.keep k n G (j5 _),k _ _ B I⟩,h.prz,h.wf,h.nod⟩
theorem AF.same(h:AF P w z CS H so g0 pr pn tab)(s:Aa H H'):AF P w z CS H' so g0 pr pn tab:=
 h.keep (S:=λ_=>False) (λb o _ e=>s b o e) (λ_ _ q=>q.elim) id id id
structure uj(K:W.Frag)(mg:Str->Option X3)(C:Addr):Prop where
 cl:Bh K C
 nR:Aq K C "rows"
 nN:Aq K C "numbers"
theorem sm1:∀m∈([("__init__":Str),"within","around","doors_by"]:List Str),¬m="rows"/\¬m="numbers":=by lia
theorem pj{m:Str}(h:m∈([("__init__":Str),"within","around","doors_by"]:List Str)):(ui pr pn).lookup m=none:=by
 obtain⟨h1,h2⟩:=sm1 m h;unfold ui;rw[sA,Qxa h1,sA,Qxa h2];rfl
inductive mq(P:U2)(w:Rz)(CS:Addr):Sp where
 |mk {vs:List V} {H:Hp} {Q:VK} {E:XK} (r dx:Addr) (c1:vs=[.ref r]) (c2:H r=some (.ins CS dx [])) (c3:∀pr pn H',H pr=none->H pn=none->pr≠pn->Ac r H H'->H' r=some (.ins CS dx (ui pr pn))->H' pr=some (.lst [.non])->H' pn=some (dN P w wM pn [])->Q .non H'):mq P w CS vs H Q E
inductive mr(P:U2)(w:Rz)(CS:Addr):Sp where
 |mk {vs:List V} {H:Hp} {Q:VK} {E:XK} (z so g0 pr pn dd:Addr) (tab:List zW) (o:Nat) (d:Int×Str) (c1:vs=[.ref so,.int o,.ref dd]) (c2:Am z H) (c3:AF P w z CS H so g0 pr pn tab) (c4:dd≠z) (c5:H dd=some (.tup [.int d.1,.str d.2])) (c6:d.2.length<=1000) (c7:o<=tab.length) (c8:tab.length<1000000)
   (c9:∀k g7 H',(g7=tab∨g7=tab++[(o,d)])->g7[k]?=some (o,d)->o<=k->yA (λb=>b=pr∨b=pn) H H'->AF P w z CS H' so g0 pr pn g7->Q (.int ((k+1:Nat):Int)) H'):mr P w CS vs H Q E
inductive mv(P:U2)(w:Rz)(CS:Addr):Sp where
 |mk {vs:List V} {H:Hp} {Q:VK} {E:XK} (z so g0 pr pn:Addr) (tab:List zW) (k:Nat) (r:zW) (c1:vs=[.ref so,.int ((k+1:Nat):Int)]) (c2:AF P w z CS H so g0 pr pn tab) (c3:tab[k]?=some r) (c4:Q (.int r.1) H):mv P w CS vs H Q E
inductive rC(P:U2)(w:Rz)(CS:Addr):Sp where
 |mk {vs:List V} {H:Hp} {Q:VK} {E:XK} (z so g0 pr pn:Addr) (tab:List zW) (k:Nat) (ds:List (Int×Str)) (c1:vs=[.ref so,.int k]) (c2:Am z H) (c3:AF P w z CS H so g0 pr pn tab) (c4:At tab k ds) (c5:ds.length<=20000)
   (c6:∀p dv H',Aa H H'->H p=none->H' p=some (.lst dv)->Ab z H' dv (ds.map tf)->Q (.ref p) H'):rC P w CS vs H Q E
theorem cm{B:List Addr}(h:B[j]?=some a):(V.non::B.map V.ref)[j+1]?=some (.ref a):=by
 rw[ML,RF,h];rfl
theorem ib{B:List Addr}{r:zW}(R:Ab z H (B.map V.ref) (tab.map vG))(h:tab[j]?=some r):∃a,B[j]?=some a/\Aj z H (.ref a) (vG r):=by
 have D:=(W5.mp h).1;have F:=R.length;rw[X5,X5] at F;have g:=R.get (i:=j) (by simpa using D);have G:j<B.length:=zU D F;refine⟨B[j],X1 G,?_⟩;have I:(B.map V.ref).getD j .non=.ref B[j]:=by simp[G]
 have J0:(tab.map vG).getD j .non=vG r:=by
  rw[XP,RF,h];rfl
 rw[I,J0] at g;exact g
theorem Tc:zK ["self"] ["self"] (zq jX):=zP
theorem Td(F:Ao K "__init__" "Standings.__init__" jX f fd)(D:uj K mg C):Ag P w K mg base zD 1 f fd ["self"] (mq P w C):=by
 refine F.okA Tc λg4 A outer s H vs Q E U h=>?_;obtain⟨r,dx,rfl,I,k⟩:=h;refine⟨_,ze (xZ (pv 0) (zV (yY sM zf)) J) (zm (xZ (pv 0) (eu wM) J)),?_⟩;dsimp only[zH,Cx.nox,Cx.wish];have W:=yV;refine⟨by show (1:Nat)<=_;exact Qy _,λpr J0=>?_⟩;have G:r≠pr:=zi I J0;refine⟨_,J,r,C,dx,_,J,by rw[zh G];exact I,D.cl,D.nR,by show (0:Nat)<1000;decide,?_⟩;intro pn L;have B:c' H pr (.lst [.non]) pn=none:=by
  by_cases q:pn=r
  .rw[q,zd] at L;cases L
  .rwa [zh q] at L
 have O:pn≠r:=λq=>by rw[q,zh G,I] at B;cases B
 have M:pn≠pr:=λq=>by rw[q,zd] at B;cases B
 have R:H pn=none:=by rwa [zh M] at B
 refine⟨_,J,r,C,dx,_,J,by rw[zh O.symm,zd],D.cl,D.nN,by show (1:Nat)<1000;decide,?_⟩;refine k pr pn _ J0 R M.symm (λb o S e=>?_) ?_ ?_ ?_
 .rw[zh S,zh (zi e R),zh S,zh (zi e J0)];exact e
 .rw[zd];show some (HO.ins C dx (if ("rows":Str)="numbers" then _ else _::[(("numbers":Str),V.ref pn)]))=_;rw[Qxa q1];rfl
 .rw[zh G.symm,zh M.symm,zh G.symm,zd]
 .rw[zh O,zd]
theorem Bd:zK ["self","number","door","row"] ["self","number","door"] (zq mj):=zP
theorem Te(F:Ao K "within" "Standings.within" mj f fd)(T:yu mg)(D:uj K mg C):Ag P w K mg base zD 1 f fd ["self","number","door"] (mr P w C):=by
 refine F.okA Bd λg4 A outer s H vs Q E aq h=>?_;obtain⟨z,so,g0,pr,pn,dd,tab,o,d,rfl,ar,M,as,au,av,ae,af,k⟩:=h;have aw:=Bd.nd;have O:(A.deeper (QH "Standings.within" (zq mj) s.heap.objs.size f g4)).units+6<cLine:=by have:=aq.un;exact ly this
 refine⟨_,ze (zu (i:=3) aw (yl (yk 1 2)))
  (ze (ya (ZH (WF O wM (pv 3) (yh (pv 0) J)))
   (ze (xt (zT xB (by rfl) T.len b_len (zc (yh (pv 0) J) zf)) (rS (yh (pv 0) J) (pv 3) (WJ O wM)))
   (zm (yy (yW U1 S8 S9 xC (yh (pv 0) J) (zz 3))))) ye)
  (zm (zB (WH O wM (yh (pv 0) J) (pv 3) (λ_ _=>rfl))))),?_⟩
 dsimp only[zH,Cx.nox,Cx.wish];have aH:=yV;have ax:(1000002:Nat)<=sizeLine:=by rw[Qo];decide
 refine⟨_,J,_,J,by show (2:Nat)<=_;exact X6 _ _,λpt ag=>?_⟩;have R:=Aa.new (o:=.tup [.int o,.ref dd]) ag;have ah:c' H pt (.tup [.int o,.ref dd]) pt=some (.tup [.int o,.ref dd]):=zd;have ay:pt≠z:=ar.ne ag;have G:=M.same R;have ai:=R _ _ au;generalize c' H pt (.tup [.int o,.ref dd])=H1 at R ah G ai;obtain⟨B,I,RR,J0⟩:=G.ex;have L:B.length=tab.length:=by have:=RR.length;simpa using this
 have W:=ia 0 tab B RR;have aj:Aj z H1 (.ref pt) (vG (o,d)):=.tup ah ay (.cons (.int _) (.cons (.tup ai as (.cons (.int _) (.cons (.str _ av) .nil))) .nil));have Y:=j9 aj;refine⟨_,J,_,J,so,C,g0,_,_,J,G.ins,D.cl,D.nN,mn pr pn,pt,pn,xo (o,d),_,J,J,J0,W,Y,J,_,J,?_⟩;cases hv:yG (xg 0 tab B) (xo (o,d)) with
 |some v=>
  refine yi ?_;obtain⟨j,h1,h2⟩:=cj 0 tab B hv;refine⟨_,J,so,C,g0,_,_,J,G.ins,D.cl,D.nN,mn pr pn,_,J,pn,pt,xo (o,d),_,v,J,J,J0,W,Y,J,hv,?_⟩;rw[h2,Jx];exact k j tab H1 (.inl J) h1 (M.wf _ _ h1) (λb o _ e=>R b o e) G
 |none=>
  refine yS ?_;refine⟨_,J,so,C,g0,_,_,J,G.ins,D.cl,D.nR,mm pr pn,pr,_,J,.inl (Ad.of I),_,J,so,C,g0,_,_,J,G.ins,D.cl,D.nN,mn pr pn,_,J,pn,pt,xo (o,d),_,J,J,J0,W,Y,J,hv,?_,?_⟩
  .have:=ci 0 tab B;exact ll (Ra this) af
  have Z:pr≠pn:=Tb I J0;have ak:so≠pn:=zj G.ins J0 (by intro q;cases q);have az:so≠pr:=zj G.ins I (by intro q;cases q);have aA:((V.non::B.map V.ref).length:Int)=((0+tab.length+1:Nat):Int):=by rw[RN,X5,L];omega
  rw[aA,←j6 (o,d) pt 0 tab B L.symm];refine⟨_,J,so,C,g0,_,_,J,by rw[zh ak];exact G.ins,D.cl,D.nR,mm pr pn,.inl ⟨J,_,Ad.of (by rw[zh Z];exact I)⟩,_,J,pr,_,_,J,J,by rw[zh Z];exact I,by rw[RN,X5];exact aY af ax L,?_⟩;have S:yA (λb=>b=pr∨b=pn) H1 (c' (c' H1 pn (dN P w wM pn (xg 0 (tab++[(o,d)]) (B++[pt])))) pr (.lst ((V.non::B.map V.ref)++[.ref pt]))):=λb u n e=>by
   rw[zh (λq=>n (.inl q)),zh (λq=>n (.inr q))];exact e
  have al:xR (λb=>b=pr∨b=pn) H1:=λb xs q e=>by
   rcases q with q|q
   .rw[q,I] at e;cases e
   .rw[q,J0] at e;cases e
  have aa:=S so _ (λq=>q.elim az ak) G.ins;have U:Ab z (c' (c' H1 pn (dN P w wM pn (xg 0 (tab++[(o,d)]) (B++[pt])))) pr (.lst ((V.non::B.map V.ref)++[.ref pt]))) ((B++[pt]).map V.ref) ((tab++[(o,d)]).map vG):=by
   rw[T5,T5];exact(Ab.keep S al RR (j5 _)).append (.cons (Aj.keep S al aj (.tup (.cons (.int _) (.cons (j2 _) .nil)))) .nil)
  have am:c' (c' H1 pn (dN P w wM pn (xg 0 (tab++[(o,d)]) (B++[pt])))) pr (.lst ((V.non::B.map V.ref)++[.ref pt])) pr=some (.lst (.non::(B++[pt]).map V.ref)):=by
   rw[zd,T5];rfl
  have ab:c' (c' H1 pn (dN P w wM pn (xg 0 (tab++[(o,d)]) (B++[pt])))) pr (.lst ((V.non::B.map V.ref)++[.ref pt])) pn=some (dN P w wM pn (xg 0 (tab++[(o,d)]) (B++[pt]))):=by rw[zh Z.symm,zd]
  generalize c' (c' H1 pn (dN P w wM pn (xg 0 (tab++[(o,d)]) (B++[pt])))) pr (.lst ((V.non::B.map V.ref)++[.ref pt]))=H2 at S aa U am ab;have aB:yG (xg 0 (tab++[(o,d)]) (B++[pt])) (xo (o,d))=some (.int ((0+tab.length+1:Nat):Int)):=by
   rw[j6 (o,d) pt 0 tab B L.symm];exact Ta _ hv rfl
  have ao:(tab++[(o,d)])[tab.length]?=some (o,d):=by rw[Qp (X2 _),Ox];rfl
  obtain⟨ac,ap,aC⟩:=ib U ao;have aD:ac=pt:=by
   rw[←L,Qp (X2 _),Ox] at ap;exact(R4 ap).symm
  subst aD;refine⟨_,J,so,C,g0,_,_,J,aa,D.cl,D.nN,mn pr pn,_,J,pn,ac,xo (o,d),_,_,J,J,ab,ia 0 _ _ U,j9 aC,J,aB,?_⟩;have aE:0+tab.length+1=tab.length+1:=by exact aV
  rw[aE];exact k tab.length (tab++[(o,d)]) H2 (.inr J) ao ae (λb u n e=>S b u n (R b u e)) ⟨aa,⟨B++[ac],am,U,ab⟩,M.prz,λj r h=>by
   by_cases ad:j<tab.length
   .rw[Qr ad] at h;exact M.wf j r h
   .rw[Qp (Qt.1 ad)] at h;have aF:j-tab.length=0:=by
     have:=(W5.mp h).1;simp at this;exact this
    rw[aF] at h;have:r=(o,d):=(R4 h).symm;rw[this];show o<=j;exact S5 ae (Qt.1 ad),Jy.mpr ⟨M.nod,by simp,λu O aI aG e=>ck 0 tab B L.symm hv (by rw[RA.mp aG] at e;rw[←e];exact O)⟩⟩
theorem Ab.reverse{z:Addr}{H:Hp}:∀ {vs:List V}{ds:List D},Ab z H vs ds->Ab z H vs.reverse ds.reverse
 |_,_,.nil=>.nil
 |_,_,.cons h t=>by
  rw[O7,O7];exact(Ab.reverse t).append (.cons h .nil)
theorem Bn:zK ["self","number","outer","door"] ["self","number"] (zq jY):=zP
theorem Tf(F:Ao K "around" "Standings.around" jY f fd)(B:uj K mg C):Ag P w K mg base zD 1 f fd ["self","number"] (mv P w C):=by
 refine F.okA Bn λg4 A outer s H vs Q E R h=>?_;obtain⟨z,so,g0,pr,pn,tab,k,r,rfl,D,I,q⟩:=h;have G:=Bn.nd;refine⟨_,ze (xt (zx Ae (yh (pv 0) J) (pv 1) (λ_ _=>rfl)) (yR J (zF (zw (i:=2) G) (zF (zw (i:=3) G) yJ)))) (zm (zB (pv 2))),?_⟩;dsimp only[zH,Cx.nox,Cx.wish];obtain⟨S,h1,RR,U⟩:=D.ex;obtain⟨a,J0,L⟩:=ib RR I;obtain⟨V,d,M,_,_,O,W,_⟩:=j7 L;cases M;exact⟨_,J,so,C,g0,_,_,J,D.ins,B.cl,B.nR,mm pr pn,_,J,pr,_,_,_,J,J,Ad.of h1,zy (cm J0),a,_,J,Ah.of O,J,_,_,J,_,_,J,J,_,J,q⟩
theorem Bc:zK ["self","number","doors","door"] ["self","number"] (zq jZ):=zP
theorem Th(F:Ao K "doors_by" "Standings.doors_by" jZ f fd)(S:uj K mg C):Ag P w K mg base zD 1 f fd ["self","number"] (rC P w C):=by
 refine F.okA Bc λg4 A outer s H vs Q E aB h=>?_;obtain⟨z,so,g0,pr,pn,tab,k,ds,rfl,aa,ab,ac,ad,q⟩:=h;have I:=Bc.nd;refine⟨_,ze (zu (i:=2) I (zV zf))
  (ze (uw Rn (zZ sV (pv 1) zg (zR _))
   (ze (xt (zx Ae (yh (pv 0) J) (pv 1) (λ_ _=>rfl)) (yR J (zF (zw (i:=1) I) (zF (zw (i:=3) I) yJ))))
   (zm (yy (yW U1 S8 S9 xC (pv 2) (zz 3))))))
  (ze (yy (tQ U1 PySem.F.slot_list_reverse PySem.F.type_list_reverse Y0 (pv 2)))
  (zm (zB (pv 2))))),?_⟩
 dsimp only[zH,Cx.nox,Cx.wish];have ae:=yB;refine⟨X7 _,λp G=>?_⟩;have af:=Aa.new (o:=.lst []) G;have aC:p≠z:=aa.ne G;dsimp only;refine zt λU ag=>?_;refine uy (λσ H2=>∃(J0:Nat) (L es:List (Int×Str)) (B:List V) (W:Option V),σ=[some (.ref so),some (.int J0),some (.ref p),W]/\Aa H H2/\At tab J0 L/\ds=L++es.reverse/\H2 p=some (.lst B)/\Ab z H2 B (es.map tf))
  (λσ _=>match σ[1]? with|some (some (V.int i))=>i.toNat|_=>0) ⟨k,ds,[],[],none,J,af,ac,by simp,zd,.nil⟩ ?_ ?_
 .rintro σ H2 ⟨J0,L,es,B,W,rfl,M,ah,O,D,R⟩;refine⟨_,J,J,_,J,?_⟩;have Y:=ab.same M;cases ah with
  |zero=>
   refine yi (ag _ _ ?_);refine⟨_,J,.inl ⟨J,_,Ad.of D⟩,p,B,J,J,D,_,J,?_⟩;have ai:Ab z (c' H2 p (.lst B.reverse)) B.reverse (ds.map tf):=by
    rw[O,M4,MG];exact Ab.updL D (Ab.reverse R) (by rw[←MG];exact ml _)
   exact q p B.reverse _ (λb o e=>by rw[zh (zi e G)];exact M b o e) G zd ai
  |@suc Z r aj h ak t=>
   refine yc (λ_=>?_) (λg=>absurd g ?_)
   .obtain⟨aD,h1,RR,aE⟩:=Y.ex;obtain⟨a,al,am⟩:=ib RR h;obtain⟨aF,d,ao,_,ap,aq,ar,as⟩:=j7 am;cases ao;have au:es.length<=ds.length:=by rw[O];simp;omega
    have av:B.length=es.length:=by have:=R.length;simpa using this
    refine⟨_,J,so,C,g0,_,_,J,Y.ins,S.cl,S.nR,mm pr pn,_,J,pr,_,_,_,J,J,Ad.of h1,zy (cm al),a,_,J,Ah.of aq,J,_,_,J,_,_,J,J,?_⟩;refine⟨_,J,.inl ⟨J,_,Ad.of D⟩,_,J,p,B,_,J,J,D,by exact i8 ad ae au av,⟨r.1,aj,es++[r.2],B++[.ref d],_,J,λb o e=>by rw[zh (zi e G)];exact M b o e,t,?_,zd,?_⟩,?_⟩
    .rw[O,KJ,Q8];rfl
    .rw[T5];exact Ab.updL D (R.append (.cons (.tup ar ap (.cons (.int _) (.cons (.str _ as) .nil))) .nil)) ((ml _).append (ml [_]))
    .show ((r.1:Int)).toNat<(((Z+1:Nat):Int)).toNat;exact Ra ak
   .have:¬(V.int ((Z+1:Nat):Int)=V.int 0):=λe=>by injection e with e;omega
    rw[decide_eq_false this];simp
 .rintro σ aG aH aI aw ⟨ax,ay,h2,az,aA,h⟩;exact⟨ax,ay,h2,az,aA,aw _ _ h⟩
noncomputable abbrev ic:Stmt:=xj wJ 0
noncomputable abbrev ie:Stmt:=xj wJ 1
noncomputable abbrev ig:Stmt:=xj wJ 3
noncomputable abbrev ii:Stmt:=xj wJ 4
noncomputable abbrev ij:Stmt:=xj wJ 6
noncomputable abbrev px:Stmt:=xj wJ 7
noncomputable abbrev mw:Stmt:=xj wJ 8
noncomputable abbrev ik:Stmt:=xj wJ 9
noncomputable abbrev il:Stmt:=xj wJ 10
noncomputable abbrev mx:Stmt:=xj wJ 11
noncomputable abbrev im:Stmt:=xj wJ 12
noncomputable abbrev io:Stmt:=xj wJ 13
noncomputable def yf(v:V)(x:Str)(pt ps so pw:Addr):List (Str×V):=[("book",v),("signs",.str x),("told",.ref pt),("stands",.ref ps),("standings",.ref so),("ways_back",.ref pw)]
theorem yI{f g:Str}{v:V}{r:List (Str×V)}(h:¬f=g:=by lia):((g,v)::r).lookup f=r.lookup f:=by rw[sA,Qxa h]
theorem rD{f:Str}{r:List (Str×V)}:((f,v)::r).lookup f=some v:=by rw[sA,Qxb rfl]
theorem xD{f g:Str}{v x:V}{r:List (Str×V)}(h:¬g=f:=by lia):zJ f v ((g,x)::r)=(g,x)::zJ f v r:=Qxa h
theorem ip{f:Str}{x:V}{r:List (Str×V)}:zJ f v ((f,x)::r)=(f,v)::r:=Qxb rfl
section
variable (v:V)(x x':Str)(pt ps so pw g9 he:Addr)
theorem cp:(yf v x pt ps so pw).lookup ("book":Str)=some v:=rD
theorem vH:(yf v x pt ps so pw).lookup ("signs":Str)=some (.str x):=(yI).trans rD
theorem sC:(yf v x pt ps so pw).lookup ("told":Str)=some (.ref pt):=(yI).trans ((yI).trans rD)
theorem pz:(yf v x pt ps so pw).lookup ("stands":Str)=some (.ref ps):=(yI).trans ((yI).trans ((yI).trans rD))
theorem pE:(yf v x pt ps so pw).lookup ("standings":Str)=some (.ref so):=(yI).trans ((yI).trans ((yI).trans ((yI).trans rD)))
theorem iq:(yf v x pt ps so pw).lookup ("ways_back":Str)=some (.ref pw):=(yI).trans ((yI).trans ((yI).trans ((yI).trans ((yI).trans rD))))
theorem Ti:zJ "signs" (.str x') (yf v x pt ps so pw)=yf v x' pt ps so pw:=(xD).trans (congrArg _ ip)
theorem Tj:zJ "told" (.ref g9) (yf v x pt ps so pw)=yf v x g9 ps so pw:=(xD).trans (congrArg _ ((xD).trans (congrArg _ ip)))
theorem Tk:zJ "stands" (.ref he) (yf v x pt ps so pw)=yf v x pt he so pw:=(xD).trans (congrArg _ ((xD).trans (congrArg _ ((xD).trans (congrArg _ ip)))))
end
theorem Tl:∀m∈([("__init__":Str),"change","text","steps","put","read_anew","goes_on","stand_behind","beginning","numbers_by_beginnings","count_sure","count_ended"]:List Str),¬m="book"/\¬m="signs"/\¬m="told"/\¬m="stands"/\¬m="standings"/\¬m="ways_back":=by lia
theorem xE{x:Str}{pt:Addr}{m:Str}(h:m∈([("__init__":Str),"change","text","steps","put","read_anew","goes_on","stand_behind","beginning","numbers_by_beginnings","count_sure","count_ended"]:List Str)):(yf v x pt ps so pw).lookup m=none:=by
 obtain⟨h1,h2,B,D,F,G⟩:=Tl m h;unfold yf;rw[yI h1,yI h2,yI B,yI D,yI F,yI G];rfl
structure wd(K:W.Frag)(mg:Str->Option X3)(C:Addr):Prop where
 cl:Bh K C
 nB:Aq K C "book"
 nX:Aq K C "signs"
 nT:Aq K C "told"
 nS:Aq K C "stands"
 nG:Aq K C "standings"
 nW:Aq K C "ways_back"
theorem Tn(b:Bk)(ds:List zp)(x:Str)(i:Nat)(m:Str):(zN b ds x i m).1.1=(i:Int):=by
 unfold zN;split
 .split<;>rfl
 .split
  .rfl
  .split
   .rfl
   .split<;>rfl
noncomputable abbrev xF(b:Bk)(x:Str)(j:Nat):zQ:=(zN b (zb b x j).ds x (zb b x j).b' (zL b (zb b x j).ds x (zb b x j).b')).1
structure AU(b:Bk)(x:Str)(N:Nat):Prop where
 b':(zb b x N).b'=x.length
 lt:∀j,j<N->(zb b x j).b'<x.length
theorem AU.len{b:Bk}{x:Str}{N:Nat}(h:AU b x N):∀j,j<=N->(zb b x j).ss.length=j
 |0,_=>rfl
 |j+1,B=>by
  have h1:=h.lt j (B);rw[uW h1,X4,h.len j (RL B)];rfl
theorem AU.get{b:Bk}{x:Str}{N:Nat}(h:AU b x N):∀n,n<=N->∀j,j<n->(zb b x n).ss[j]?=some (xF b x j)
 |0,_,j,B=>absurd B (QJ _)
 |n+1,D,j,B=>by
  have h1:=h.lt n (D);have F:=h.len n (RL D);rw[uW h1];by_cases q:j<n
  .rw[Qr (zU q F)];exact h.get n (RL D) j q
  .have e:j=n:=RU (R5 B) (Qt.1 q);subst e;rw[Qp (NG F),F,Ox];rfl
theorem AU.next{x:Str}(h:AU b x N)(G:yn b){j:Nat}(I:j<N):((zb b x (j+1)).b':Int)=((zb b x j).b':Int)+(xF b x j).2.1/\1<=(xF b x j).2.1/\(xF b x j).2.1<=4/\(xF b x j).1=((zb b x j).b':Int):=by
 obtain⟨B,M,D,_⟩:=id G;have h1:=h.lt j I;have J0:=xm (x:=x) D B j;obtain⟨F,p2,p3,p4,p5,O⟩:=vj (x:=x) D J0.bk B h1;refine⟨?_,F,p2,Tn _ _ _ _ _⟩;rw[uV h1];have e:∀(a:Nat) (k:Int),1<=k->((a+k.toNat:Nat):Int)=(a:Int)+k:=λa k L=>by exact iR L
 exact e _ _ F
theorem AU.mono{b:Bk}{x:Str}{N:Nat}(h:AU b x N)(B:yn b){i:Nat}:∀ {j:Nat},i<j->j<=N->(zb b x i).b'<(zb b x j).b'
 |0,hi,_=>absurd hi (QJ _)
 |j+1,hi,D=>by
  obtain⟨h1,h2,_⟩:=h.next B (j:=j) (D);by_cases q:i=j
  .subst q;omega
  .have:=h.mono B (i:=i) (j:=j) (Qn (R5 hi) q) (RL D);exact Zo h1 h2 this
structure AL(P:U2)(w:Rz)(z CP CS:Addr)(H:Hp)(r dx:Addr)(v:V)(b:Bk)(x:Str)(pt ps so g0 pr pn pw:Addr)(tab:List zW)(N:Nat)(ks:List Nat):Prop where
 ins:H r=some (.ins CP dx (yf v x pt ps so pw))
 rb:Aj z H v (yp b)
 ok:yn b
 run:AU b x N
 told:∃tv,H pt=some (.lst tv)/\Ab z H tv ((zb b x N).ss.map yb)
 stands:H ps=some (.lst (ks.map λk:Nat=>V.int (k:Int)))
 kl:ks.length=N+1
 st:∀j,j<=N->∃k,ks[j]?=some k/\At tab k ((zb b x j).ds.map (·.2))
 sd:AF P w z CS H so g0 pr pn tab
 xl:x.length<=2000
 nes:(pt≠pr/\ps≠pr/\pw≠pr)/\(pt≠z/\ps≠z/\pw≠z)/\(pw≠pt/\pw≠ps)
inductive sD(P:U2)(w:Rz)(CP CS:Addr):Sp where
 |mk {vs:List V} {H:Hp} {Q:VK} {E:XK} (z r dx:Addr) (v:V) (b:Bk) (x:Str) (pt ps so g0 pr pn pw:Addr) (tab:List zW) (N:Nat) (ks:List Nat) (n:Nat) (c1:vs=[.ref r,.int n]) (c2:AL P w z CP CS H r dx v b x pt ps so g0 pr pn pw tab N ks) (c3:n<=N) (c4:Q (.int (zb b x n).b') H):sD P w CP CS vs H Q E
theorem To:zK ["self","number"] ["self","number"] (zq il):=zP
theorem Tp(F:Ao K "beginning" "Page.beginning" il f fd)(T:yu mg)(D:wd K mg CP):Ag P w K mg base zD 1 f fd ["self","number"] (sD P w CP CS):=by
 refine F.okA To λg4 A outer s H vs Q E ae h=>?_;obtain⟨z,r,dx,v,b,x,pt,ps,so,g0,pr,pn,pw,tab,N,ks,n,rfl,B,U,k⟩:=h;refine⟨_,ze (ya (zZ xI (pv 1) (zT xB (by rfl) T.len b_len (zc (yh (pv 0) J) zf)) (zR _)) (zm (zB (zT yL (by rfl) T.len b_len (zc (yh (pv 0) J) zf)))) ye)
  (zm (zB (zx Ai (zx Ae (yh (pv 0) J) (pv 1) (λ_ _=>rfl)) zg (λ_ _=>rfl)))),?_⟩
 dsimp only[zH,Cx.nox,Cx.wish];have af:=yB;obtain⟨tv,O,R⟩:=B.told;have W:=B.xl;have S:tv.length=N:=by
  have:=R.length;rw[X5,B.run.len N (X2 _)] at this;exact this
 refine⟨_,J,_,J,r,CP,dx,_,_,J,B.ins,D.cl,D.nT,sC v x pt ps so pw,pt,tv,J,.inl (Ad.of O),J,_,J,?_⟩;by_cases e:n=N
 .subst e;have L:decide (V.int (n:Int)=V.int (tv.length:Int))=true:=by rw[S];simp
  rw[L];refine yS ⟨_,J,r,CP,dx,_,_,J,B.ins,D.cl,D.nX,vH v x pt ps so pw,x,J,by exact zC W,?_⟩;rw[←B.run.b'];exact k
 .have L:decide (V.int (n:Int)=V.int (tv.length:Int))=false:=decide_eq_false λq=>by injection q with q;omega
  rw[L];have I:n<N:=Qn U e;have Y:=B.run.get N (X2 _) n I;obtain⟨_,_,_,Z⟩:=B.run.next B.ok I;have J0:Aj z H (tv.getD n .non) (yb (xF b x n)):=by
   have:=R.get (i:=n) (by rw[X5,B.run.len N (X2 _)];exact I);have aa:((zb b x N).ss.map yb).getD n .non=yb (xF b x n):=by
    rw[XP,RF,Y];rfl
   rw[aa] at this;exact this
  obtain⟨G,xs,ab,ac⟩:∃G xs,tv.getD n .non=.ref G/\H G=some (.tup (.int (xF b x n).1::xs)):=by
   have J0:Aj z H (tv.getD n .non) (.tup [.int (xF b x n).1,.int (xF b x n).2.1,.str (xF b x n).2.2.1,.int (xF b x n).2.2.2.1,.int (xF b x n).2.2.2.2]):=J0;generalize tv.getD n .non=ag at J0;cases J0 with
   |tup h _ M=>
    cases M with
    |cons M ah=>
     cases M;exact⟨_,_,J,h⟩
  have ad:tv[n]?=some (.ref G):=by
   have h1:n<tv.length:=zU I S;have h2:tv.getD n .non=tv[n]:=by simp[h1]
   rw[X1 h1,←h2,ab]
  refine yi ⟨_,J,r,CP,dx,_,_,J,B.ins,D.cl,D.nT,sC v x pt ps so pw,_,J,pt,tv,n,_,J,J,Ad.of O,zy ad,G,_,0,_,J,J,Ah.of ac,zy (j:=0) J,?_⟩;rw[Z];exact k
inductive pF(P:U2)(w:Rz)(CP CS:Addr):Sp where
 |mk {vs:List V} {H:Hp} {Q:VK} {E:XK} (z r dx:Addr) (v:V) (b:Bk) (x:Str) (pt ps so g0 pr pn pw:Addr) (tab:List zW) (N:Nat) (ks:List Nat) (i:Int) (c1:vs=[.ref r,.int i]) (c2:AL P w z CP CS H r dx v b x pt ps so g0 pr pn pw tab N ks)
  (c3:∀n:Nat,n<=N->(n=0∨((zb b x n).b':Int)<=i)->(∀j,n<j->j<=N->i<((zb b x j).b':Int))->Q (.int n) H):pF P w CP CS vs H Q E
inductive my(CP:Addr):Sp where
 |mk {vs:List V} {H:Hp} {Q:VK} {E:XK} (r dx:Addr) (v:V) (x:Str) (pt ps so pw el:Addr) (ks:List Nat) (a':List (zr×V)) (i:Nat) (k:Nat) (c1:vs=[.ref r,.int i,.ref el,.int k]) (c2:H r=some (.ins CP dx (yf v x pt ps so pw)))
  (c3:H ps=some (.lst (ks.map λk:Nat=>V.int (k:Int)))) (c4:H el=some (.dK a')) (c5:∀u,yN a' (.inl (i:Int))=some u->∃n kn:Nat,u=.int n/\ks[n]?=some kn)
  (c6:∀g:Bool,(g=true↔∃n:Nat,yN a' (.inl (i:Int))=some (.int n)/\ks[n]?=some k)->Q (.bl g) H):my CP vs H Q E
structure AV(b:Bk)(x:Str)(e d:Int)(M:Nat)(a':List (zr×V)):Prop where
 has:∀n:Nat,n<M->e<=((zb b x n).b':Int)->yN a' (.inl (((zb b x n).b':Int)+d))=some (.int n)
 all:∀(k:zr) (u:V),yN a' k=some u->∃n:Nat,n<M/\e<=((zb b x n).b':Int)/\u=.int n/\k=.inl (((zb b x n).b':Int)+d)
inductive mz(P:U2)(w:Rz)(CP CS:Addr):Sp where
 |mk {vs:List V} {H:Hp} {Q:VK} {E:XK} (z r dx:Addr) (v:V) (b:Bk) (x:Str) (pt ps so g0 pr pn pw:Addr) (tab:List zW) (N:Nat) (ks:List Nat) (e d:Int) (c1:vs=[.ref r,.int e,.int d]) (c2:AL P w z CP CS H r dx v b x pt ps so g0 pr pn pw tab N ks)
  (c3:∀p a' H',Aa H H'->H p=none->H' p=some (.dK a')->AV b x e d (N+1) a'->Q (.ref p) H'):mz P w CP CS vs H Q E
theorem AL.toldN{x:Str}{pt:Addr}(h:AL P w z CP CS H r dx v b x pt ps so g0 pr pn pw tab N ks):∃tv,H pt=some (.lst tv)/\Ab z H tv ((zb b x N).ss.map yb)/\tv.length=N:=by
 obtain⟨tv,D,B⟩:=h.told;refine⟨tv,D,B,?_⟩;have:=B.length;rw[X5,h.run.len N (X2 _)] at this;exact this
theorem AL.nle{x:Str}{pt:Addr}(h:AL P w z CP CS H r dx v b x pt ps so g0 pr pn pw tab N ks):N<=2000:=by
 obtain⟨B,F,D,_⟩:=id h.ok;have h1:=(xm (x:=x) D B N).sl;have h2:=h.run.len N (X2 _);have G:=h.run.b';have I:=h.xl;omega
theorem AL.same{P:U2}{w:Rz}{z CP CS:Addr}{H H':Hp}{r dx:Addr}{v:V}{b:Bk}{x:Str}{pt ps so g0 pr pn pw:Addr}{tab:List zW}{N:Nat}{ks:List Nat}(h:AL P w z CP CS H r dx v b x pt ps so g0 pr pn pw tab N ks)(s:Aa H H'):AL P w z CP CS H' r dx v b x pt ps so g0 pr pn pw tab N ks:=by
 obtain⟨tv,h1,h2⟩:=h.told;exact⟨s _ _ h.ins,h.rb.mono s.x,h.ok,h.run,⟨tv,s _ _ h1,h2.mono s.x⟩,s _ _ h.stands,h.kl,h.st,h.sd.same s,h.xl,h.nes⟩
theorem AV.nil{x:Str}:AV b x e d 0 []:=⟨λn B=>absurd B (QJ _),λk u h=>by rw[Wd] at h;cases h⟩
theorem AV.skip{x:Str}{B:Nat}(h:AV b x e d B a')(g:¬e<=((zb b x B).b':Int)):AV b x e d (B+1) a':=
 ⟨λn F D=>by
  by_cases q:n=B
  .rw[q] at D;exact absurd D g
  .exact h.has n (Qn (R5 F) q) D,λk u G=>by
  obtain⟨n,h1,h2⟩:=h.all k u G;exact⟨n,by exact R9 h1,h2⟩⟩
theorem AV.put{x:Str}{B:Nat}(run:AU b x N)(G:yn b)(I:B<=N)(h:AV b x e d B a')(g:e<=((zb b x B).b':Int)):AV b x e d (B+1) (yP a' (.inl (((zb b x B).b':Int)+d)) (.int B)):=
 ⟨λn F J0=>by
  rw[fK];by_cases q:n=B
  .rw[q,Qxb rfl]
  .have:=run.mono G (i:=n) (j:=B) (Qn (R5 F) q) I;rw[Qxa (by intro c;injection c with c;omega)];exact h.has n (Qn (R5 F) q) J0,λk u D=>by
  rw[fK] at D;by_cases q:k=.inl (((zb b x B).b':Int)+d)
  .rw[Qxb q] at D;injection D with D;exact⟨B,by exact X2 _,g,D.symm,q⟩
  .rw[Qxa q] at D;obtain⟨n,h1,h2⟩:=h.all k u D;exact⟨n,by exact R9 h1,h2⟩⟩
theorem BC:zK ["self","place","least","most","middle"] ["self","place"] (zq io):=zP
theorem Tq:zK ["self","place","elder","stand"] ["self","place","elder","stand"] (zq mw):=zP
theorem Bg:zK ["self","end","longer","numbers","number"] ["self","end","longer"] (zq mx):=zP
theorem Tr(F:Ao K "count_ended" "Page.count_ended" io f fd)(T:yu mg)(M:wd K mg CP)(Z:Ml P w K mg base CP 1 "beginning" ["self","number"] (sD P w CP CS)):Ag P w K mg base zD 2 f fd ["self","place"] (pF P w CP CS):=by
 refine F.okA BC λg4 A outer s H vs Q E aa h=>?_;obtain⟨z,r,dx,v,b,x,pt,ps,so,g0,pr,pn,pw,tab,N,ks,i,rfl,B,k⟩:=h;have G:=BC.nd;have ab:Ak 1 _:=aa.mono (by decide);refine⟨_,ze (zu (i:=2) G zg)
  (ze (zu (i:=3) G (zT xB (by rfl) T.len b_len (zc (yh (pv 0) J) zf)))
  (ze (uw Rn (zZ vb (pv 2) (pv 3) (zR _))
   (ze (zu (i:=4) G (zG ou (zG yO (zG yO (pv 2) (pv 3)) zg) zg))
   (zm (ya (zZ vO (yX (pv 0) M.cl Z ab (zz 4)) (pv 1) (zR _))
    (zm (zu (i:=2) G (pv 4)))
    (zm (zu (i:=3) G (zG vY (pv 4) zg)))))))
  (zm (zB (pv 2))))),?_⟩
 dsimp only[zH,Cx.nox,Cx.wish];have au:=yB;obtain⟨tv,ac,av,ad⟩:=B.toldN;have aw:=B.nle;refine⟨_,J,r,CP,dx,_,_,J,B.ins,M.cl,M.nT,sC v x pt ps so pw,pt,tv,J,.inl (Ad.of ac),?_⟩;rw[ad];dsimp only;refine zt λU ae=>?_;refine uy (λσ H2=>∃(l m:Nat) (O:Option V),σ=[some (.ref r),some (.int i),some (.int l),some (.int m),O]/\H2=H/\l<=m/\m<=N/\(l=0∨((zb b x l).b':Int)<=i)/\(∀j,m<j->j<=N->i<((zb b x j).b':Int)))
  (λσ _=>match σ[2]?,σ[3]? with|some (some (V.int l)),some (some (V.int m))=>(m-l).toNat|_,_=>0) ⟨0,N,none,J,J,X7 _,X2 _,.inl J,λj h1 h2=>by exact iK h1 h2⟩ ?_ ?_
 .rintro σ H2 ⟨l,m,O,rfl,rfl,af,I,R,S⟩;refine⟨_,J,_,J,_,_,J,J,_,J,?_⟩;refine yc (λD=>?_) (λD=>?_)
  .have D:l<m:=by have:=Qxc D;exact Qs.1 this
   obtain⟨c,W,J0,L⟩:∃c:Nat,((l:Int)+(m:Int)+1) / 2=(c:Int)/\l<c/\c<=m:=⟨(l+m+1) / 2,by exact rfl,by omega,by omega⟩;show (xH _ _) _ _ _;refine yT λax Y _ _ _=>zt λay ag=>?_;refine⟨_,J,_,J,_,_,J,J,_,_,J,J,_,_,J,J,⟨by decide,by decide⟩,?_⟩;dsimp only;rw[W];refine ag _ _ ?_;refine⟨_,J,r,dx,_,J,B.ins,xE (by simp),_,J,z,r,dx,v,b,x,pt,ps,so,g0,pr,pn,pw,tab,N,ks,c,J,B,by exact S5 L I,?_⟩;refine⟨_,J,_,_,J,J,_,J,?_⟩;refine yc (λg=>?_) (λg=>?_)
   .have g:=Qxc g;refine⟨_,J,Y _ _ ⟨⟨c,m,_,J,J,L,I,.inr g,S⟩,?_⟩⟩;show ((m:Int)-(c:Int)).toNat<((m:Int)-(l:Int)).toNat;exact bT J0 L
   .have g:i<((zb b x c).b':Int):=by
     have:¬((zb b x c).b':Int)<=i:=λq=>g (Qxd q);omega
    refine⟨_,J,_,_,J,J,?_⟩;dsimp only;rw[show ((c:Int)-1)=((c-1:Nat):Int) by exact aL J0];refine Y _ _ ⟨⟨l,c-1,_,J,J,by exact Nat.le_sub_one_of_lt J0,by exact aA I L,R,λj h1 h2=>?_⟩,?_⟩
    .by_cases q:j=c
     .rw[q];exact g
     .have:=B.run.mono B.ok (i:=c) (j:=j) (by exact az h1 q) h2;omega
    .show (((c-1:Nat):Int)-(l:Int)).toNat<((m:Int)-(l:Int)).toNat;exact Zi W J0
  .have D:¬l<m:=λq=>D (Qxd (wx q));have e:l=m:=RU af (Qt.1 D);subst e;exact ae _ _ ⟨_,J,k l I R S⟩
 .rintro σ aB aC aD ah ⟨ai,aj,ak,al,am,ao,ap,aq,ar,as,h⟩;exact⟨ai,aj,ak,al,am,ao,ap,aq,ar,as,ah _ _ h⟩
theorem Ts(F:Ao K "goes_on" "Page.goes_on" mw f fd)(D:wd K mg CP):Ag P w K mg base zD 1 f fd ["self","place","elder","stand"] (my CP):=by
 refine F.okA Tq λg4 A outer s H vs Q E J0 h=>?_;obtain⟨r,dx,v,x,pt,ps,so,pw,el,ks,a',i,k,rfl,hi,L,G,M,q⟩:=h;have I:(A.deeper (QH (YP "Page.goes_on") (zq mw) s.heap.objs.size f g4)).units+1<cLine:=by have:=J0.un;omega
 refine⟨_,zm (zB (sO (ZG (Wo I (pv 1) (pv 2))) (uu (vZ xI (zx Ae (yh (pv 0) J) (fM I (pv 2) (pv 1) (λ_ _=>rfl)) (λ_ _=>rfl)) (pv 3) (zR _))))),?_⟩;dsimp only[zH,Cx.nox,Cx.wish];refine⟨_,J,_,J,el,_,J,AO.k (k:=.inl (i:Int)) G,?_⟩;refine⟨_,J,?_⟩;cases hv':yN a' (.inl (i:Int)) with
 |none=>exact q false ⟨λh=>(by cases h),λ⟨n,h,_⟩=>by rw[hv'] at h;cases h⟩
 |some u=>
  obtain⟨n,S,rfl,B⟩:=M u hv';have O:AO H el (.int (i:Int)) (some (.int (n:Int))):=by rw[←hv'];exact AO.k (k:=.inl (i:Int)) G
  refine⟨_,J,r,CP,dx,_,_,J,hi,D.cl,D.nS,pz v x pt ps so pw,_,J,_,J,el,_,J,O,ps,_,n,_,J,J,Ad.of L,zy (by rw[RF,B];rfl),_,J,J,q _ ?_⟩;constructor
  .intro h;have h:=Qxc h;injection h with h;exact⟨n,hv',by rw[B];congr 1;exact Q7 h⟩
  .rintro⟨R,e,h⟩;rw[hv'] at e;injection e with e;injection e with e;have e:n=R:=Q7 e;subst e;rw[B] at h;injection h with h;rw[h];exact Qxd rfl
theorem Tt(F:Ao K "numbers_by_beginnings" "Page.numbers_by_beginnings" mx f fd)(T:yu mg)(I:wd K mg CP)(Y:Ml P w K mg base CP 1 "beginning" ["self","number"] (sD P w CP CS)):Ag P w K mg base zD 2 f fd ["self","end","longer"] (mz P w CP CS):=by
 refine F.okA Bg λg4 A outer s H vs Q E Z h=>?_;obtain⟨z,r,dx,v,b,x,pt,ps,so,g0,pr,pn,pw,tab,N,ks,e,d,rfl,B,k⟩:=h;have aa:=Bg.nd;have ab:Ak 1 _:=Z.mono (by decide);have ag:(A.deeper (QH (YP "Page.numbers_by_beginnings") (zq mx) s.heap.objs.size f g4)).units+1<cLine:=by have:=Z.un;omega
 refine⟨_,ze (zu (i:=3) aa qk)
  (ze (xu Rn J (rX J T.range (tZ (zG yO (zT xB (by rfl) T.len b_len (zc (yh (pv 0) J) zf)) zg) zf)) (zw (i:=4) aa)
   (zm (ya (zZ Ya (yX (pv 0) I.cl Y ab (zz 4)) (pv 1) (zR _))
    (zm (fN ag (pv 3) (zG yO (yX (pv 0) I.cl Y ab (zz 4)) (pv 2)) (pv 4) J)) ye)))
  (zm (zB (pv 3)))),?_⟩
 dsimp only[zH,Cx.nox,Cx.wish];have am:=yB;have ao:=B.nle;refine λp O=>?_;have ac:=Aa.new (o:=.dK []) O;have ad:=B.same ac;obtain⟨tv,ah,ap,ai⟩:=ad.toldN;dsimp only;refine zt λU aj=>?_;refine⟨_,J,r,CP,dx,_,_,J,ad.ins,I.cl,I.nT,sC v x pt ps so pw,pt,tv,J,.inl (Ad.of ah),_,_,J,J,((N:Int)+1),?_,by omega,by omega,?_⟩
 .rw[ai]
 refine rY (λt σ J0=>∃(a':List (zr×V)) (R:Option V),σ=[some (.ref r),some (.int e),some (.int d),some (.ref p),R]/\Aa H J0/\J0 p=some (.dK a')/\AV b x e d t a'/\a'.length<=t)
  ⟨[],none,J,ac,zd,.nil,X2 _⟩ ?_ ?_
 .rintro t σ J0 ht ⟨a',R,rfl,D,L,G,S⟩;have W:t<=N:=R5 ht;have M:=B.same D;show (gd _ _ _) _ _ _;refine yT λaq ae _ _ _=>?_;refine⟨_,J,r,dx,_,J,M.ins,xE (by simp),_,J,z,r,dx,v,b,x,pt,ps,so,g0,pr,pn,pw,tab,N,ks,t,by simp,M,W,?_⟩;refine⟨_,J,_,_,J,J,_,J,?_⟩;refine yc (λg=>?_) (λg=>?_)
  .have g:e<=((zb b x t).b':Int):=Qxc g;refine⟨_,J,_,J,_,J,r,dx,_,J,M.ins,xE (by simp),_,J,z,r,dx,v,b,x,pt,ps,so,g0,pr,pn,pw,tab,N,ks,t,by simp,M,W,?_⟩;refine⟨_,J,_,_,J,J,p,_,J,BI.k (k:=.inl (((zb b x t).b':Int)+d)) L (by omega),ae _ _ ⟨_,_,J,λak o af=>by rw[zh (zi af O)];exact D ak o af,zd,?_,?_⟩⟩
   .have:=G.put B.run B.ok W g;simpa using this
   .have:=oM a' (.inl (((zb b x t).b':Int)+d)) (.int t);simp at this ⊢;exact S5 this (Ra S)
  .have g:¬e<=((zb b x t).b':Int):=λq=>g (Qxd q);exact ae _ _ ⟨a',_,J,D,L,G.skip g,by exact R9 S⟩
 .rintro σ J0 ⟨a',R,rfl,D,L,G,S⟩;refine aj _ _ ⟨_,J,k p a' _ D O L ?_⟩;have al:((N:Int)+1).toNat=N+1:=rfl;rw[al] at G;exact G
inductive mB(P:U2)(w:Rz)(CP CS:Addr):Sp where
 |mk {vs:List V} {H:Hp} {Q:VK} {E:XK} (z r dx:Addr) (v:V) (b:Bk) (x y:Str) (pt ps so g0 pr pn pw p q:Addr) (tab:List zW) (i k:Nat) (ds ds':List zp) (st:zQ) (c1:vs=[.ref r,.int k,.ref p,.ref q]) (c2:H r=some (.ins CP dx (yf v x pt ps so pw)))
  (c3:H p=some (.tup (xQ st))) (c4:AD z H q ds') (c5:Am z H) (c6:AF P w z CS H so g0 pr pn tab) (c7:At tab k (ds.map (·.2))) (c8:mf b ds y i st ds') (c9:ds'.length<=2000) (ho:tab.length<1000000)
  (hD:∀k' g7 H',(g7=tab∨∃r,g7=tab++[r])->At g7 k' (ds'.map (·.2))->yA (λb=>b=pr∨b=pn) H H'->AF P w z CS H' so g0 pr pn g7->Q (.int (k':Nat)) H'):mB P w CP CS vs H Q E
theorem mC:∀s∈([("cut":Str),"escape","sign","close"]:List Str),¬V.str s=V.str "open":=by
 intro s B e;injection e with e;subst e;revert B;lia
theorem Tu:∀s∈([("cut":Str),"escape","sign","open"]:List Str),¬V.str s=V.str "close":=by
 intro s B e;injection e with e;subst e;revert B;lia
theorem Tv{d:zp}(r:Aj z H v (pdD d)):d.2.2.length<=1000:=by
 have r:Aj z H v (.tup [.int d.2.1,.str d.2.2]):=r;cases r with
 |tup h F r=>
  cases r with
  |cons G B=>
   cases B with
   |cons D I=>
    cases D;assumption
theorem Tw{d:zp}{vs:List V}(D:Ab z H vs ((ds++[d]).map pdD)):∃ad,xi vs (-1)=some (.ref ad)/\ad≠z/\H ad=some (.tup [.int d.2.1,.str d.2.2])/\d.2.2.length<=1000:=by
 have F:vs.length=ds.length+1:=by have:=D.length;simpa using this
 have B:=jA (ds:=ds++[d]) (i:=ds.length) D (by simp);have G:(ds++[d]).getD ds.length zX=d:=by simp
 rw[G] at B;obtain⟨ad,I,J0,L⟩:=nI B;exact⟨ad,ce F I,J0,L,Tv B⟩
theorem Bo:zK ["self","stand","step","doors"] ["self","stand","step","doors"] (zq ik):=zP
theorem Tx(F:Ao K "stand_behind" "Page.stand_behind" ik f fd)(J0:wd K mg CP)(R:uj K mg CS)(ab:Ml P w K mg base CS 1 "within" ["self","number","door"] (mr P w CS))(ac:Ml P w K mg base CS 1 "around" ["self","number"] (mv P w CS)):Ag P w K mg base zD 2 f fd ["self","stand","step","doors"] (mB P w CP CS):=by
 refine F.okA Bo λg4 A outer s H vs Q E ae h=>?_;obtain⟨z,r,dx,v,b,x,y,pt,ps,so,g0,pr,pn,pw,p,q,tab,i,k,ds,af,st,rfl,hi,L,ag,ah,G,I,S,ay,ai,g⟩:=h;have az:=Bo.nd;have V:Ak 1 _:=ae.mono (by decide);refine⟨_,ze (ya (zZ xI (zx Ai (pv 2) zg (λ_ _=>rfl)) z0 (zR _))
   (zm (zB (yX (yh (pv 0) J) R.cl ab V (zc (pv 1) (zc (zx Ae (pv 3) (wB wC zg) (λ_ _=>rfl)) zf))))) ye)
  (ze (ya (zZ xI (zx Ai (pv 2) zg (λ_ _=>rfl)) z0 (zR _))
   (zm (zB (yX (yh (pv 0) J) R.cl ac V (zz 1)))) ye)
  (zm (zB (pv 1)))),?_⟩
 dsimp only[zH,Cx.nox,Cx.wish];refine yT λaA _ M _ _=>zt λU W=>?_;refine⟨_,J,p,_,2,_,J,J,Ah.of L,zy (j:=2) J,J,_,J,?_⟩;unfold mf at S;have plain:st.2.2.1∈([("cut":Str),"escape","sign"]:List Str)->af=ds->U [some (.ref r),some (.int k),some (.ref p),some (.ref q)] H:=λhw B=>by
  refine W _ _ (zt λaj Y=>?_);refine⟨_,J,p,_,2,_,J,J,Ah.of L,zy (j:=2) J,J,_,J,?_⟩;refine yc (λe=>absurd (Qxc e) (Tu _ (RW [("open":Str)] hw))) (λ_=>Y _ _ ⟨_,J,M _ _ (g k tab H (.inl J) (by rw[B];exact I) (λ_ _ _ e=>e) G)⟩)
 rcases S with⟨_,B,⟨_,D⟩|⟨_,D⟩⟩|⟨_,_,B,D⟩|⟨_,_,ak,_,B,D⟩|⟨_,_,d,_,B,D⟩
 .have hw:st.2.2.1="cut":=by rw[D]
  exact yc (λe=>absurd (Qxc e) (mC _ (by rw[hw];simp))) (λ_=>plain (by rw[hw];simp) B)
 .have hw:st.2.2.1="escape":=by rw[D]
  exact yc (λe=>absurd (Qxc e) (mC _ (by rw[hw];simp))) (λ_=>plain (by rw[hw];simp) B)
 .have hw:st.2.2.1="sign":=by rw[D]
  exact yc (λe=>absurd (Qxc e) (mC _ (by rw[hw];simp))) (λ_=>plain (by rw[hw];simp) B)
 .have hw:st.2.2.1="close":=by rw[D]
  refine yc (λe=>absurd (Qxc e) (mC _ (by rw[hw];simp))) (λ_=>W _ _ (zt λaj Y=>?_));refine⟨_,J,p,_,2,_,J,J,Ah.of L,zy (j:=2) J,J,_,J,?_⟩;refine yc (λ_=>?_) (λe=>absurd (Qxd (by rw[hw])) e);generalize el:ds.map (·.2)=l at I;cases I with
  |zero=>
   exfalso;have:=congrArg Np el;rw[X5] at this;exact ak (Ry this)
  |@suc al Z aB h1 h2 O=>
   refine⟨_,J,r,CP,dx,_,_,J,hi,J0.cl,J0.nG,pE v x pt ps so pw,so,g0,_,J,G.ins,pj (by simp),_,J,z,so,g0,pr,pn,tab,al,Z,J,G,h1,M _ _ (g Z.1 tab H (.inl J) ?_ (λ_ _ _ e=>e) G)⟩;rw[B,Q2,el,List.dropLast_concat];exact O
 .have hw:st.2.2.1="open":=by rw[D]
  refine yc (λ_=>?_) (λe=>absurd (Qxd (by rw[hw])) e);obtain⟨am,ao,aa⟩:=ag;rw[B] at aa;obtain⟨ad,ap,aq,ar,as⟩:=Tw aa;have au:=I.le;refine⟨_,J,r,CP,dx,_,_,J,hi,J0.cl,J0.nG,pE v x pt ps so pw,so,g0,_,J,G.ins,pj (by simp),_,J,_,J,1,J,q,am,-1,_,J,J,Ad.of ao,ap,z,so,g0,pr,pn,ad,tab,k,(d.2.1,d.2.2),J,ah,G,aq,ar,as,au,ai,λav aw H' ht h1 h2 O ax=>M _ _ (g (av+1) aw H' ?_ ?_ O ax)⟩
  .rcases ht with e|e
   .exact .inl e
   .exact .inr ⟨_,e⟩
  .rw[B,T5];refine .suc h1 h2 ?_;rcases ht with e|e
   .rw[e];exact I
   .rw[e];exact I.mono _
theorem AL.keep{P:U2}{w:Rz}{z CP CS:Addr}{H H':Hp}{r dx:Addr}{v:V}{b:Bk}{x:Str}{pt ps so g0 pr pn pw:Addr}{tab:List zW}{N:Nat}{ks:List Nat}(h:AL P w z CP CS H r dx v b x pt ps so g0 pr pn pw tab N ks){S:Addr->Prop}(k:yA S H H')(n:xR S H)(h1:¬S r)(h2:¬S pt)(B:¬S ps)(D:¬S so)(F:¬S pr)(G:¬S pn):AL P w z CP CS H' r dx v b x pt ps so g0 pr pn pw tab N ks:=by
 obtain⟨tv,I,J0⟩:=h.told;exact⟨k _ _ h1 h.ins,Aj.keep k n h.rb (.tup (wa _)),h.ok,h.run,⟨tv,k _ _ h2 I,Ab.keep k n J0 (xf _)⟩,k _ _ B h.stands,h.kl,h.st,h.sd.keep k n D F G,h.xl,h.nes⟩
theorem AL.butX{x:Str}{pt:Addr}(h:AL P w z CP CS H r dx v b x pt ps so g0 pr pn pw tab N ks)(k:ym tb H H')(D:zO tb H):AL P w z CP CS H' r dx v b x pt ps so g0 pr pn pw tab N ks:=by
 obtain⟨J0,ht⟩:=D.tbl;obtain⟨tv,F,L⟩:=h.told;obtain⟨M,G,O,I⟩:=h.sd.ex;exact h.keep (S:=λa=>a=tb) (λb o B e=>k b o B e) (λb xs B e=>by rw[show b=tb from B,ht] at e;cases e) (zj h.ins ht) (zj F ht) (zj h.stands ht)
  (zj h.sd.ins ht) (zj G ht) (zj I ht)
theorem cq{p:Addr}(h:H p=some (.lst B))(R:Ab z H B ((ds.map (·.2)).map tf)):AD z H p ds:=by
 rw[R6] at R;exact⟨B,h,R⟩
inductive mD(P:U2)(w:Rz)(tb CP CS:Addr):Sp where
 |mk {vs:List V} {H:Hp} {Q:VK} {E:XK} (z r dx:Addr) (v:V) (b:Bk) (x:Str) (pt ps so g0 pr pn pw:Addr) (tab:List zW) (N:Nat) (ks:List Nat) (c1:vs=[.ref r,.int 0]) (c2:AL P w z CP CS H r dx v b x pt ps so g0 pr pn pw tab N ks) (c3:Am z H) (c4:zO tb H)
  (c6:∀H',ym tb H H'->Am z H'->zO tb H'->Q (.int 0) H'):mD P w tb CP CS vs H Q E
theorem Bj:zK ["self","begin","far","near"] ["self","begin"] (zq im):=zP
theorem Tz{M:X3}(F:Ao K "count_sure" "Page.count_sure" im f fd)(T:yu mg)(D:wd K mg CP)(ad:uj K mg CS)(ae:mg "LONGEST_MARK"=some M)(af:RelV (.int 4) M)(ag:Ml P w K mg base CP 2 "count_ended" ["self","place"] (pF P w CP CS))(ah:Ml P w K mg base CP 1 "beginning" ["self","number"] (sD P w CP CS))(ai:Cl P w K mg base 5 "sure_steps" ["book","part","doors"] (qP tb))(aj:Ml P w K mg base CS 1 "doors_by" ["self","number"] (rC P w CS)):Ag P w K mg base zD 6 f fd ["self","begin"] (mD P w tb CP CS):=by
 refine F.okA Bj λg4 A outer s H vs Q E I h=>?_;obtain⟨z,r,dx,v,b,x,pt,ps,so,g0,pr,pn,pw,tab,N,ks,rfl,B,J0,ak,k⟩:=h;have O:=Bj.nd;have R:Ak 1 _:=I.mono (by decide);have al:Ak 2 _:=I.mono (by decide);refine⟨_,ze (zu (i:=2) O (yX (pv 0) D.cl ag al (zc (zG vY (pv 1) (tH J ae af)) zf)))
  (ze (zu (i:=3) O (x0 v9 (yh (pv 0) J) (xz (yX (pv 0) D.cl ah R (zz 2))) (xz (pv 1))))
  (zm (zB (zG yO (pv 2) (zT xB (by rfl) T.len b_len (zc (zA ai I (zc (yh (pv 0) J) (zc (pv 3) (zc (yX (yh (pv 0) J) ad.cl aj R (zc (zx Ae (yh (pv 0) J) (pv 2) (λ_ _=>rfl)) zf)) zf)))) zf)))))),?_⟩
 dsimp only[zH,Cx.nox,Cx.wish];have aK:=yB;have am:=B.xl;obtain⟨ao,aL,ap,_⟩:=id B.ok;refine yT λaM _ aq _ _=>zt λU L=>?_;refine⟨_,J,r,dx,_,J,B.ins,xE (by simp),_,J,_,_,J,J,z,r,dx,v,b,x,pt,ps,so,g0,pr,pn,pw,tab,N,ks,(0:Int)-4,J,B,λar S as aN=>L _ _ (zt λU L=>?_)⟩;have au:ar=0:=by
  rcases as with h|h
  .exact h
  .exact absurd (Int.le_trans (RC _) h) (by decide)
 subst au;refine⟨_,J,r,CP,dx,_,_,J,B.ins,D.cl,D.nX,vH v x pt ps so pw,_,J,r,dx,_,J,B.ins,xE (by simp),_,J,z,r,dx,v,b,x,pt,ps,so,g0,pr,pn,pw,tab,N,ks,0,J,B,S,_,J,_,J,_,J,x,J,zC am,?_⟩;have V:(yC x (some ((zb b x 0).b':Int)) (some 0)).cps.toList=[]:=qM x 0 0;generalize yC x (some ((zb b x 0).b':Int)) (some 0)=W at V;refine L _ _ ?_;have Y:W.length=0:=by rw[←xn,V];rfl
 obtain⟨av,aw,ax⟩:=B.st 0 S;refine⟨_,J,_,J,r,CP,dx,_,_,J,B.ins,D.cl,D.nB,cp v x pt ps so pw,_,J,_,J,r,CP,dx,_,_,J,B.ins,D.cl,D.nG,pE v x pt ps so pw,so,g0,_,J,B.sd.ins,pj (by simp),?_⟩;refine⟨_,J,r,CP,dx,_,_,J,B.ins,D.cl,D.nS,pz v x pt ps so pw,_,J,ps,_,(0:Nat),_,J,J,Ad.of B.stands,zy (by rw[RF,aw];rfl),z,so,g0,pr,pn,tab,av,(zb b x 0).ds.map (·.2),J,J0,B.sd,ax,X7 _,λp aO H1 G Z ay az=>?_⟩;have aA:p≠z:=J0.ne Z;refine⟨z,v,b,p,(zb b x 0).ds,W,J,J0.same G,aA,B.rb.mono G.x,B.ok,cq ay az,(xm (x:=x) ap ao 0).bk,by rw[Y];exact X7 _,ak.same G,λaB aa n H2 aC aP aD aE aQ aF aR aG L2=>?_⟩;have aH:n=0:=by
  cases n with
  |zero=>rfl
  |succ n=>exact absurd (aE 0 (Qy _)).1 (by rw[Y];exact QJ _)
 subst aH;have aI:aa.length=0:=by have:=aF.length;rw[X5] at this;exact this
 refine⟨aB,aa,J,.inl (Ad.of aD),_,_,J,J,aq _ _ ?_⟩;rw[aI];exact k H2 (λab o aJ ac=>aC ab o (zi ac Z) aJ (G ab o ac)) aG L2
end T1
namespace L2
open PySem PySem.Spec PyProof.Rows
theorem TB{P:U2}{w:Rz}{sh:List Bool}{a c:Addr}{a':List yU}{q:Str}:¬dN P w sh a a'=tT c q:=by
 intro e;unfold dN tT at e;injection e with e;obtain⟨o,D⟩:∃o:Obj,o={ cls:=.type "dict",data:=.fields #[.none,.str q 0] }:=⟨_,J⟩;have I:(⟨PB (c+1) o,{}⟩:Heap).get? c=some o:=by
  unfold Heap.get?;rw[show (⟨PB (c+1) o,{}⟩:Heap).objs=PB (c+1) o from rfl,Mt,Qxb (Q5 c),D]
 have g:(⟨PB (c+1) o,{}⟩:Heap).CodeRec (.ref c) q:=⟨c,o,#[.none,.str q 0],_,J,I,by rw[D],J⟩;have e:=congrFun e (⟨PB (c+1) o,{}⟩:Heap);rw[←e] at g;obtain⟨_,_,xs,_,J0,es,ep,B,_,F,_⟩:=g;have h2:J0=o:=by
  unfold Heap.get? at B;rw[show (⟨PB (c+1) o,{}⟩:Heap).objs=PB (c+1) o from rfl,Mt] at B;by_cases G:a<c+1
  .rw[Qxb G,D] at B;rw[D];injection B with B;exact B.symm
  .rw[Qxa G] at B;cases B
 rw[h2,D] at F;cases F
end L2
namespace T1
open PySem L2
variable {b:Bk}{e i j n:Nat}{CP CS a aR d f p ps pw r so tb z:Addr}{H H':Hp}{S T:Nat->Prop}{l l' xs:List V}{o:HO}{v:V}{fd:FuncData}{B:List (zr×V)}{turn:Option Nat}{a':List yU}{K:W.Frag}{P:U2}{w:Rz}{mg:Str->Option X3}{sh:List Bool}
variable {base:Heap}
structure cr(P:U2)(w:Rz)(z CP CS:Addr)(H:Hp)(r dx:Addr)(v:V)(b:Bk)(x x':Str)(pt ps so g0 pr pn pw:Addr)(tab:List zW)(N:Nat)(ks:List Nat):Prop where
 ins:H r=some (.ins CP dx (yf v x' pt ps so pw))
 rb:Aj z H v (yp b)
 ok:yn b
 run:AU b x N
 told:∃tv,H pt=some (.lst tv)/\Ab z H tv ((zb b x N).ss.map yb)
 stands:H ps=some (.lst (ks.map λk:Nat=>V.int (k:Int)))
 kl:ks.length=N+1
 st:∀j,j<=N->∃k,ks[j]?=some k/\At tab k ((zb b x j).ds.map (·.2))
 sd:AF P w z CS H so g0 pr pn tab
 xl:x.length<=2000
 xl':x'.length<=2000
 nes:(pt≠pr/\ps≠pr/\pw≠pr)/\(pt≠z/\ps≠z/\pw≠z)/\(pw≠pt/\pw≠ps)
structure RaC(z CP:Addr)(H:Hp)(r dx:Addr)(v:V)(b:Bk)(x x':Str)(pt ps so pw el:Addr)(N:Nat)(ks:List Nat)(a':List (zr×V)):Prop where
 ins:H r=some (.ins CP dx (yf v x' pt ps so pw))
 rb:Aj z H v (yp b)
 told:∃tv,H pt=some (.lst tv)/\Ab z H tv ((zb b x N).ss.map yb)
 stands:H ps=some (.lst (ks.map λk:Nat=>V.int (k:Int)))
 eld:H el=some (.dK a')
theorem RaC.keep{z CP:Addr}{H H':Hp}{r dx:Addr}{v:V}{b:Bk}{x x':Str}{pt ps so pw el:Addr}{N:Nat}{ks:List Nat}{a':List (zr×V)}(h:RaC z CP H r dx v b x x' pt ps so pw el N ks a'){S:Addr->Prop}(k:yA S H H')(n:xR S H)(h1:¬S r)(h2:¬S pt)(B:¬S ps)(D:¬S el):RaC z CP H' r dx v b x x' pt ps so pw el N ks a':=by
 obtain⟨tv,F,G⟩:=h.told;exact⟨k _ _ h1 h.ins,Aj.keep k n h.rb (.tup (wa _)),⟨tv,k _ _ h2 F,Ab.keep k n G (xf _)⟩,k _ _ B h.stands,k _ _ D h.eld⟩
structure Bs(b:Bk)(x':Str)(tab:List zW)(j:Nat)(ks:List Nat):Prop where
 len:ks.length=j+1
 st:∀l,l<=j->∃k,ks[l]?=some k/\At tab k ((zb b x' l).ds.map (·.2))
theorem Bs.mono{b:Bk}{x':Str}{tab:List zW}{j:Nat}{ks:List Nat}(h:Bs b x' tab j ks)(B:List zW):Bs b x' (tab++B) j ks:=⟨h.len,λl D=>by
 obtain⟨k,e,s⟩:=h.st l D;exact⟨k,e,s.mono B⟩⟩
theorem Bs.snoc{x':Str}{tab:List zW}{k:Nat}{ks:List Nat}(h:Bs b x' tab j ks)(s:At tab k ((zb b x' (j+1)).ds.map (·.2))):Bs b x' tab (j+1) (ks++[k]):=⟨by rw[X4,h.len];rfl,λl B=>by
 by_cases q:l<=j
 .obtain⟨D,e,s'⟩:=h.st l q;exact⟨D,by rw[Qr (by rw[h.len];exact Ra q)];exact e,s'⟩
 .have e:l=j+1:=RU B (NN.1 q);subst e;exact⟨k,by rw[Qp (by rw[h.len];exact X2 _),h.len,Ox];rfl,s⟩⟩
structure B0(P:U2)(w:Rz)(tb z CP CS:Addr)(H0 H:Hp)(r dx:Addr)(v:V)(b:Bk)(x x':Str)(pt ps so g0 pr pn pw el:Addr)(hg tab:List zW)(N:Nat)(ks:List Nat)(a':List (zr×V))(pT pS q:Addr)(K j i:Nat)(g5:List Nat):Prop where
 core:RaC z CP H r dx v b x x' pt ps so pw el N ks a'
 bag:Am z H
 lam:zO tb H
 keep:yA (λa=>a=pr∨a=pn∨a=tb) H0 H
 sd:AF P w z CS H so g0 pr pn tab
 ext:∃more,tab=hg++more/\more.length<=i-K
 new:∃fv,H pT=some (.lst fv)/\Ab z H fv ((zb b x' j).ss.map yb)
 hS:H pS=some (.lst (g5.map λk:Nat=>V.int (k:Int)))
 ns:Bs b x' tab i g5
 ds:AD z H q (zb b x' j).ds
 jK:K<=i
structure Bt(H0:Hp)(pT pS q:Addr):Prop where
 t:H0 pT=none
 s:H0 pS=none
 u:H0 q=none
 ts:pT≠pS
 tq:pT≠q
 sq:pS≠q
theorem rE{S:Addr->Prop}(h:zO tb H)(k:yA S H H')(h1:¬S tb)(h2:∀a,S a->∀c q,H a≠some (tT c q)):zO tb H':=by
 rcases h with h|⟨B,h,g⟩
 .exact .inl (k _ _ h1 h)
 .exact .inr ⟨B,k _ _ h1 h,k _ _ (λe=>h2 B e _ _ g) g⟩
theorem mE(h:zO tb H)(D:H a=some (.lst l)):zO tb (c' H a (.lst l')):=by
 obtain⟨ps,ht⟩:=h.tbl;refine rE h (S:=λb=>b=a) (λb o B e=>by rw[zh B];exact e) (λe=>(zj ht D) e) (λb B c q e=>?_);rw[show b=a from B,D] at e;cases e
theorem vn(h:H a=some o)(n:∀xs,o≠.tup xs):xR (λb=>b=a) H:=λb xs e g=>by
 rw[show b=a from e,h] at g;injection g with g;exact n xs g
theorem cu{S T:Addr->Prop}(h:xR S H)(g:xR T H):xR (λb=>S b∨T b) H:=λb xs e=>e.elim (h b xs) (g b xs)
theorem wp:yA (λb=>b=a) H (c' H a o):=λb o' B e=>by rw[zh B];exact e
theorem Bt.ne{H0:Hp}{pT pS q:Addr}(F:Bt H0 pT pS q)(h:H0 a=some o):a≠pT/\a≠pS/\a≠q:=⟨zi h F.t,zi h F.s,zi h F.u⟩
structure At0(P:U2)(w:Rz)(tb z CP CS:Addr)(H0:Hp)(r dx:Addr)(v:V)(b:Bk)(x x':Str)(pt ps so g0 pr pn pw el:Addr)(hg:List zW)(N:Nat)(ks:List Nat)(a':List (zr×V))(pT pS q:Addr):Prop where
 core:RaC z CP H0 r dx v b x x' pt ps so pw el N ks a'
 bag:Am z H0
 lam:zO tb H0
 sd:AF P w z CS H0 so g0 pr pn hg
 ok:yn b
 fr:Bt H0 pT pS q
 npr:pt≠pr/\ps≠pr
variable {x:Str}
section
variable {H0:Hp}{dx:Addr}{x':Str}{pt g0 pr pn el:Addr}{hg:List zW}{N:Nat}{ks:List Nat}{a':List (zr×V)}{pT pS q:Addr}{K:Nat}{g5:List Nat}
theorem At0.nes(A:At0 P w tb z CP CS H0 r dx v b x x' pt ps so g0 pr pn pw el hg N ks a' pT pS q):(r≠pT/\r≠pS/\r≠q)/\(pt≠pT/\pt≠pS/\pt≠q)/\(ps≠pT/\ps≠pS/\ps≠q)/\(el≠pT/\el≠pS/\el≠q)/\(so≠pT/\so≠pS/\so≠q)/\(pr≠pT/\pr≠pS/\pr≠q)/\(pn≠pT/\pn≠pS/\pn≠q)/\(tb≠pT/\tb≠pS/\tb≠q)/\(z≠pT/\z≠pS/\z≠q):=by
 obtain⟨tv,B,_⟩:=A.core.told;obtain⟨I,D,_,F⟩:=A.sd.ex;obtain⟨J0,ht⟩:=A.lam.tbl;obtain⟨c,d,G⟩:=A.bag;exact⟨A.fr.ne A.core.ins,A.fr.ne B,A.fr.ne A.core.stands,A.fr.ne A.core.eld,A.fr.ne A.sd.ins,A.fr.ne D,A.fr.ne F,A.fr.ne ht,A.fr.ne G⟩
theorem B0.read(A:At0 P w tb z CP CS H0 r dx v b x x' pt ps so g0 pr pn pw el hg N ks a' pT pS q)(W:B0 P w tb z CP CS H0 H r dx v b x x' pt ps so g0 pr pn pw el hg tab N ks a' pT pS q K j i g5)(J0:(zb b x' j).b'<x'.length){p:Addr}{B:Hp}(G:ug q tb H B)(M:H p=none)(O:B p=some (.tup (xQ (xF b x' j))))(ac:AD z B q (zN b (zb b x' j).ds x' (zb b x' j).b' (zL b (zb b x' j).ds x' (zb b x' j).b')).2)(ad:zO tb B){D:List V}(R:H pT=some (.lst D))(ae:Ab z H D ((zb b x' j).ss.map yb)) :
  B pT=some (.lst D)/\B0 P w tb z CP CS H0 (c' B pT (.lst (D++[.ref p]))) r dx v b x x' pt ps so g0 pr pn pw el hg tab N ks a' pT pS q K (j+1) i g5/\c' B pT (.lst (D++[.ref p])) p=some (.tup (xQ (xF b x' j))):=by
 obtain⟨⟨af,aK,ag⟩,⟨ah,aL,ai⟩,⟨aj,aM,ak⟩,⟨al,aN,am⟩,⟨ao,aO,ap⟩,⟨aq,p2,p3⟩,⟨n1,n2,n3⟩,⟨ar,as,aP⟩,au,aQ,av⟩:=A.nes;obtain⟨aR,ht⟩:=W.lam.tbl;obtain⟨tv,aw,_⟩:=W.core.told;obtain⟨aS,ax,_,ay⟩:=W.sd.ex;obtain⟨aT,az,_⟩:=id W.ds;obtain⟨S,aU,U,_⟩:=id A.ok;have L:yA (λa=>a=q∨a=tb) H B:=λb o Y e=>G b o (λc=>Y (.inl c)) (λc=>Y (.inr c)) e;have n4:xR (λa=>a=q∨a=tb) H:=cu (vn az (by intro xs c;cases c)) (vn ht (by intro xs c;cases c));have F:∀ {a:Addr},a≠q->a≠tb->¬(a=q∨a=tb):=λh g c=>c.elim h g;have I:B pT=some (.lst D):=G _ _ A.fr.tq ar.symm R;have aA:=W.core.keep L n4 (F ag (zj W.core.ins ht)) (F ai (zj aw ht)) (F ak (zj W.core.stands ht)) (F am (zj W.core.eld ht));have aB:=W.sd.keep L n4 (F ap (zj W.sd.ins ht)) (F p3 (zj ax ht)) (F n3 (zj ay ht));have Z:=vn I (by intro xs c;cases c);have aC:=Ab.keep L n4 ae (xf _);have aD:p≠z:=W.bag.ne M;have aE:p≠pT:=(zi R M).symm;obtain⟨q1,aV,aW,aX,aY,aF⟩:=vj (x:=x') U (xm (x:=x') U S j).bk S J0;have aG:c' B pT (.lst (D++[.ref p])) p=some (.tup (xQ (xF b x' j))):=by rw[zh aE];exact O
 refine⟨I,⟨aA.keep wp Z af ah aj al,?_,?_,?_,aB.keep wp Z ao aq n1,W.ext,⟨_,zd,?_⟩,?_,W.ns,?_,W.jK⟩,aG⟩
 .obtain⟨c,d,aa⟩:=W.bag;exact⟨c,d,by rw[zh au];exact G _ _ av (zj aa ht) aa⟩
 .exact mE ad I
 .intro a o ab e;have h1:=W.keep a o ab e;obtain⟨aH,aZ,aI⟩:=A.fr.ne e;rw[zh aH];exact G a o aI (λc=>ab (.inr (.inr c))) h1
 .rw[uW J0,T5];refine Ab.updL I (aC.append (.cons ?_ .nil)) ((xf _).append (xf [_]));exact jP O aD (zC aF)
 .rw[zh A.fr.ts.symm];exact G _ _ A.fr.sq as.symm W.hS
 .rw[qF J0];obtain⟨aJ,h1,h2⟩:=ac;exact⟨aJ,by rw[zh A.fr.tq.symm];exact h1,Ab.updL I h2 (vF _)⟩
theorem B0.behind(A:At0 P w tb z CP CS H0 r dx v b x x' pt ps so g0 pr pn pw el hg N ks a' pT pS q)(W:B0 P w tb z CP CS H0 H r dx v b x x' pt ps so g0 pr pn pw el hg tab N ks a' pT pS q K (j+1) j g5){M:Nat}{I:List zW}{G:Hp}(ht:I=tab∨∃r,I=tab++[r])(s:At I M ((zb b x' (j+1)).ds.map (·.2)))(B:yA (λa=>a=pr∨a=pn) H G)(aa:AF P w z CS G so g0 pr pn I) :
  G pS=some (.lst (g5.map λk:Nat=>V.int (k:Int)))/\B0 P w tb z CP CS H0 (c' G pS (.lst ((g5++[M]).map λk:Nat=>V.int (k:Int)))) r dx v b x x' pt ps so g0 pr pn pw el hg I N ks a' pT pS q K (j+1) (j+1) (g5++[M]):=by
 obtain⟨⟨au,ab,av⟩,⟨aw,ac,ax⟩,⟨ay,ad,az⟩,⟨aA,ae,aB⟩,⟨aC,af,aD⟩,⟨ag,p2,p3⟩,⟨n1,n2,n3⟩,⟨aE,aF,aG⟩,aH,ah,aI⟩:=A.nes;obtain⟨aJ,S⟩:=W.lam.tbl;obtain⟨tv,ai,_⟩:=W.core.told;obtain⟨aK,J0,_,F⟩:=W.sd.ex;obtain⟨aj,ak,al⟩:=W.new;obtain⟨am,ao,ap⟩:=W.ds;obtain⟨O,U,aL⟩:=W.ext;have n6:xR (λa=>a=pr∨a=pn) H:=cu (vn J0 (by intro xs c;cases c)) (vn F (by intro xs c;cases c));have D:∀ {a:Addr},a≠pr->a≠pn->¬(a=pr∨a=pn):=λh g c=>c.elim h g;have aq:=W.core.keep B n6 (D (zj W.core.ins J0) (zj W.core.ins F)) (D A.npr.1 (zj ai F)) (D A.npr.2 (zj W.core.stands F)) (D (zj W.core.eld J0) (zj W.core.eld F));have L:G pS=some (.lst (g5.map λk:Nat=>V.int (k:Int))):=B _ _ (D p2.symm n2.symm) W.hS;have Y:=vn L (by intro xs c;cases c);obtain⟨c,d,Z⟩:=W.bag;have ar:zO tb G:=rE W.lam B (D (zj S J0) (zj S F)) (λa ha c q e=>by
  rcases ha with ha|ha
  .rw[ha,J0] at e;cases e
  .rw[ha,F] at e;injection e with e;exact TB e)
 refine⟨L,aq.keep wp Y ab ac ad ae,⟨c,d,by rw[zh ah];exact B _ _ (D W.sd.prz.symm (zj Z F)) Z⟩,mE ar L,λa o ha e=>?_,aa.keep wp Y af p2 n2,?_,⟨aj,?_,?_⟩,zd,?_,⟨am,?_,?_⟩,R9 W.jK⟩
 .obtain⟨aM,as,aN⟩:=A.fr.ne e;rw[zh as];exact B a o (λc=>ha (c.elim .inl λc=>.inr (.inl c))) (W.keep a o ha e)
 .have aO:=W.jK;rcases ht with e|⟨R,e⟩
  .exact⟨O,by rw[e,U],by omega⟩
  .exact⟨O++[R],by rw[e,U,Q8],by rw[X4];show O.length+1<=_;omega⟩
 .rw[zh A.fr.ts];exact B _ _ (D ag.symm n1.symm) ak
 .exact Ab.updL L (Ab.keep B n6 al (xf _)) (xf _)
 .rcases ht with e|⟨R,e⟩
  .rw[e] at s ⊢;exact W.ns.snoc s
  .rw[e] at s ⊢;exact(W.ns.mono [R]).snoc s
 .rw[zh A.fr.sq.symm];exact B _ _ (D p3.symm n3.symm) ao
 .exact Ab.updL L (Ab.keep B n6 ap (vF _)) (vF _)
end
theorem cw(xs:List V){k:Nat}(h:k<=xs.length):xh xs none (some (k:Int))=xs.take k:=by
 unfold xh;rw[HT.sIx_nat,HT.sIx_none,Ot,Pm h,Nat.sub_zero]
theorem cx(xs:List V){k:Nat}(h:k<=xs.length):xh xs (some (k:Int)) none=xs.drop k:=by
 unfold xh;rw[HT.sIx_nat,HT.sIx_none,Pm h];exact Q9 (by rw[Qw];exact X2 _)
theorem iu{b:Bk}{x:Str}:∀ {j:Nat},(∀l,l<j->(zb b x l).b'<x.length)->(zb b x j).ss.length=j
 |0,_=>rfl
 |j+1,h=>by
  rw[uW (h j (X2 _)),X4,iu (j:=j) λl B=>h l (R9 B)];rfl
theorem iw{g0 dx pr pn:Addr}{x:Str}{pt:Addr}:¬HO.ins CS g0 (ui pr pn)=HO.ins CP dx (yf v x pt ps so pw):=λq=>by
 injection q with _ _ q;have:(2:Nat)=6:=congrArg Np q;omega
inductive mF(P:U2)(w:Rz)(tb CP CS:Addr):Sp where
 |mk {vs:List V} {H:Hp} {Q:VK} {E:XK} (z r dx:Addr) (v:V) (b:Bk) (x x':Str) (pt ps so g0 pr pn pw el:Addr) (tab:List zW) (N:Nat) (ks:List Nat) (a':List (zr×V)) (d:Int)
  (c1:vs=[.ref r,.int 0,.int 0,.ref el,.int d]) (c2:cr P w z CP CS H r dx v b x x' pt ps so g0 pr pn pw tab N ks) (c3:Am z H) (c4:zO tb H) (c5:H el=some (.dK a')) (c6:AV b x x.length d (N+1) a')
  (c9:(x'.length:Int)=x.length+d) (c12:tab.length+2000<1000000) (c13:∃wl,H pw=some (.lst wl))
  (c14:∀M g9 he g5 g7 H',AL P w z CP CS H' r dx v b x' g9 he so g0 pr pn pw g7 M g5->g7.length<=tab.length+2000->yA (λa=>a=r∨a=pr∨a=pn∨a=tb) H H'->Am z H'->zO tb H'->H g9=none->H he=none->Q (.int (zb b x' M).b') H'):mF P w tb CP CS vs H Q E
theorem TC{a x':Nat}{n x d:Int}(h:a<x')(h2:x<=n)(B:(a:Int)=n+d)(D:(x':Int)=x+d):False:=by omega
theorem TD{s a x:Nat}(h:s=j)(h1:s<=a)(h2:a<=x)(B:x<=2000):j+0<=sizeLine:=zC (b:=2000) (by omega)
theorem TF{s a x:Nat}(h:s=j)(h1:s<=a)(h2:a<=x)(B:x<=2000):j+1+0<=sizeLine:=zC (b:=2001) (by omega)
theorem BK:zK ["self","kept","first","elder","longer","told","stands","doors","place","step","number"] ["self","kept","first","elder","longer"] (zq px):=zP
theorem TH:(["step","longer"]:List Str).Nodup:=by lia
theorem TJ(F:Ao K "read_anew" "Page.read_anew" px f fd)(T:yu mg)(D:wd K mg CP)(cA:uj K mg CS)(cB:Cl P w K mg base 4 "read_step" ["book","text","place","doors"] (si tb))(cC:Ml P w K mg base CS 1 "doors_by" ["self","number"] (rC P w CS))(cD:Ml P w K mg base CP 1 "goes_on" ["self","place","elder","stand"] (my CP))(cE:Ml P w K mg base CP 2 "stand_behind" ["self","stand","step","doors"] (mB P w CP CS))(cF:Cl P w K mg base 1 "moved" ["step","by"] qO) :
  Ag P w K mg base zD 5 f fd ["self","kept","first","elder","longer"] (mF P w tb CP CS):=by
 refine F.okA BK λg4 A outer s H vs Q E aO h=>?_;obtain⟨z,r,dx,v,b,x,x',pt,ps,so,g0,pr,pn,pw,el,tab,N,ks,a',d,rfl,B,a3,a4,bF,a5,bG,cG,⟨bH,ah⟩,k⟩:=h;have ai:=BK.nd;have a6:Ak 1 _:=aO.mono (by decide);have cH:Ak 2 _:=aO.mono (by decide);have cI:Ak 4 _:=aO.mono (by decide);have cJ:(A.deeper (QH (YP "Page.read_anew") (zq px) s.heap.objs.size f g4)).units+1<cLine:=by have:=aO.un;omega
 refine⟨_,ze (zu (i:=5) ai (x0 tP (yh (pv 0) J) vd (xz (pv 1))))
  (ze (zu (i:=6) ai (x0 tP (yh (pv 0) J) vd (xz (zG yO (pv 1) zg))))
  (ze (zu (i:=7) ai (yX (yh (pv 0) J) cA.cl cC a6 (zc (zx Ae (pv 6) (pv 1) (λ_ _=>rfl)) zf)))
  (ze (zu (i:=8) ai (pv 2))
  (ze (uw Rn (PW.pt (ut (zZ vb (pv 8) (zT yL (by rfl) T.len b_len (zc (yh (pv 0) J) zf)) (zR _)) (ur (xr (xa (yX (pv 0) D.cl cD a6 (zc (pv 8) (zc (pv 3) (zc (zx Ae (pv 6) (wB wC zg) (λ_ _=>rfl)) zf)))))))))
   (ze (zu (i:=9) ai (zA cB cI (zc (yh (pv 0) J) (zc (yh (pv 0) J) (yk 8 7)))))
   (ze (yy (yW U1 S8 S9 xC (pv 5) (zz 9)))
   (ze (yy (yW U1 S8 S9 xC (pv 6) (zc (yX (pv 0) D.cl cE cH (zc (zx Ae (pv 6) (wB wC zg) (λ_ _=>rfl)) (yk 9 7))) zf)))
   (zm (rV (i:=8) ai J (Or.inl J) (zx Ai (pv 9) zg (λ_ _=>rfl)) rW))))))
  (ze (zu (i:=10) ai (fM cJ (pv 3) (pv 8) (λ_ _=>rfl)))
  (ze (xZ (pv 0) (zG vP (pv 5) (xS (N':=["step","longer"]) (js:=[none,some 4]) J J (yZ (zq px) (by lia)) ⟨J,Or.inr (Or.inl J),J,trivial⟩ (xb (x0 tP (yh (pv 0) J) (xz (pv 10)) vd)) (λcl s H fp=>zw (i:=0) TH) (λcl s H fp=>wG) (λcl s H fp=>zA cF a6 (yk 0 1)))) J)
  (ze (xZ (pv 0) (zG vP (pv 6) (x0 tP (yh (pv 0) J) (xz (zG yO (pv 10) zg)) vd)) J)
  (zm (zB (pv 8)))))))))),?_⟩
 dsimp only[zH,Cx.nox,Cx.wish];have bI:=yB;obtain⟨tv,bJ,cK⟩:=B.told;refine yT λeh _ cL _ _=>zt λU G=>?_;obtain⟨au,ei,av,_⟩:=id B.ok;have ej:=B.xl;have Z:=B.xl';have cM:(zb b x N).ss.length=N:=B.run.len N (X2 _);have aw:=B.kl;refine⟨_,J,r,CP,dx,_,_,J,B.ins,D.cl,D.nT,sC v x' pt ps so pw,_,J,_,J,pt,tv,J,Ad.of bJ,λpT bK=>G _ _ (zt λU G=>?_)⟩;rw[show xh tv none (some 0)=[] from cw tv (X7 _)];have ap:=Aa.new (o:=.lst []) bK;have ax:c' H pT (.lst []) pT=some (.lst []):=zd;generalize c' H pT (.lst [])=H1 at ap ax;refine⟨_,J,r,CP,dx,_,_,J,ap _ _ B.ins,D.cl,D.nS,pz v x' pt ps so pw,_,J,_,_,J,J,_,J,ps,_,J,Ad.of (ap _ _ B.stands),λpS aP=>G _ _ (zt λU G=>?_)⟩;have bL:xh (ks.map λk:Nat=>V.int (k:Int)) none (some ((0:Int)+1))=(ks.take 1).map λk:Nat=>V.int (k:Int):=by
  rw[Iw];exact cw _ (k:=1) (by rw[X5,aw];exact Ra (X7 _))
 rw[bL];have ay:=Aa.new (o:=.lst ((ks.take 1).map λk:Nat=>V.int (k:Int))) aP;have az:c' H1 pS (.lst ((ks.take 1).map λk:Nat=>V.int (k:Int))) pS=some (.lst ((ks.take 1).map λk:Nat=>V.int (k:Int))):=zd;generalize c' H1 pS (.lst ((ks.take 1).map λk:Nat=>V.int (k:Int)))=H2 at ay az;have aj:=ap.trans ay;obtain⟨a7,a8,a9⟩:=B.st 0 (X7 _);refine⟨_,J,r,CP,dx,_,_,J,aj _ _ B.ins,D.cl,D.nG,pE v x' pt ps so pw,so,g0,_,J,aj _ _ B.sd.ins,pj (by simp),?_⟩;have bM:((ks.take 1).map λk:Nat=>V.int (k:Int))[0]?=some (.int a7):=by
  rw[RF,OD (Q5 _),a8];rfl
 refine⟨_,J,_,J,pS,_,(0:Nat),_,J,J,Ad.of az,zy bM,z,so,g0,pr,pn,tab,a7,[],J,a3.same aj,B.sd.same aj,a9,X7 _,λq ek bN aQ aR aA bO=>G _ _ (zt λU G=>?_)⟩;have aa:=aj.trans aQ;refine⟨_,J,G _ _ ?_⟩;have cN:H q=none:=aj.free aR;have cO:H pS=none:=ap.free aP;have ba:At0 P w tb z CP CS H r dx v b x x' pt ps so g0 pr pn pw el tab N ks a' pT pS q:=⟨⟨B.ins,B.rb,B.told,B.stands,bF⟩,a3,a4,B.sd,B.ok,⟨bK,cO,cN,zi ax aP,zi (ay _ _ ax) aR,zi az aR⟩,B.nes.1.1,B.nes.1.2.1⟩;have cP:B0 P w tb z CP CS H bN r dx v b x x' pt ps so g0 pr pn pw el tab tab N ks a' pT pS q 0 0 0 (ks.take 1):=by
  refine⟨⟨aa _ _ B.ins,B.rb.mono aa.x,⟨tv,aa _ _ bJ,cK.mono aa.x⟩,aa _ _ B.stands,aa _ _ bF⟩,a3.same aa,a4.same aa,λa o _ e=>aa a o e,B.sd.same aa,⟨[],by simp,X7 _⟩,⟨[],aQ _ _ (ay _ _ ax),.nil⟩,aQ _ _ az,⟨?_,λl aB=>?_⟩,cq (ds:=[]) aA bO,X2 _⟩
  .rw[QQ,aw];exact Pm (Ra (X7 _))
  .cases MX aB;exact⟨a7,by rw[OD (Q5 _)];exact a8,a9⟩
 have cQ:=(ba.nes).2.2.2.2.2.2.2.2.2.2.symm;clear bM bL bO aA aQ ay ap aj ax az aR aP a9 a8;refine qf (J0:=λσ' H'=>∃(j:Nat) (ae:List zW) (g5:List Nat) (aq:Option V),σ'=[some (.ref r),some (.int 0),some (.int 0),some (.ref el),some (.int d),some (.ref pT),some (.ref pS),some (.ref q),some (.int (zb b x' j).b'),aq,none] /\
  B0 P w tb z CP CS H H' r dx v b x x' pt ps so g0 pr pn pw el tab ae N ks a' pT pS q 0 j j g5/\(∀l,l<j->(zb b x' l).b'<x'.length)/\(zb b x' j).b'=x'.length) (λU G=>?g1) ?g2
 case g1=>
  refine uy (λσ' H'=>∃(j:Nat) (ae:List zW) (g5:List Nat) (aq:Option V),σ'=[some (.ref r),some (.int 0),some (.int 0),some (.ref el),some (.int d),some (.ref pT),some (.ref pS),some (.ref q),some (.int (zb b x' j).b'),aq,none] /\
   B0 P w tb z CP CS H H' r dx v b x x' pt ps so g0 pr pn pw el tab ae N ks a' pT pS q 0 j j g5/\(∀l,l<j->(zb b x' l).b'<x'.length))
   (λσ _=>match σ[8]? with|some (some (V.int i))=>x'.length-i.toNat|_=>0) ⟨0,tab,ks.take 1,none,J,cP,λl aB=>absurd aB (QJ _)⟩ ?_ ?_
  .rintro σ' aC ⟨j,ae,g5,aq,rfl,W,ar⟩;have af:=xm (x:=x') av au j;have aD:=af.le;have cR:=af.dl;have ak:=af.sl;have al:=iu ar;refine⟨_,J,_,J,r,CP,dx,_,_,J,W.core.ins,D.cl,D.nX,vH v x' pt ps so pw,x',J,by exact zC Z,_,_,J,J,_,J,?_⟩;refine yc (λg=>?_) (λg=>?_)
   .have g:(zb b x' j).b'<x'.length:=by have:=Qxc g;exact Qs.1 this
    obtain⟨bb,cS,cT⟩:=W.ns.st j (X2 _);have bP:xi (g5.map λk:Nat=>V.int (k:Int)) (-1)=some (.int (bb:Int)):=ce (m:=j) (by rw[X5,W.ns.len]) (by rw[XP,RF,cS];rfl);refine⟨_,J,r,dx,_,J,W.core.ins,xE (by simp),_,J,_,J,_,J,1,J,pS,_,-1,_,J,J,Ad.of W.hS,bP,r,dx,v,x',pt,ps,so,pw,el,ks,a',(zb b x' j).b',bb,J,W.core.ins,W.core.stands,W.core.eld,λu cU=>?_,λbc cV=>?_⟩
    .obtain⟨n,h1,h2,aS,bQ⟩:=a5.all _ _ cU;exact⟨n,ks[n],aS,by rw[X1 (zU h1 aw)]⟩
    .refine⟨_,J,?_⟩;cases bc with
     |true=>
      exfalso;obtain⟨n,h1,h2⟩:=cV.mp rfl;obtain⟨em,g1,g2,bS,aE⟩:=a5.all _ _ h1;injection aE with aE;exact TC g g2 aE bG
     |false=>
      refine yS ?_;show (xH _ _) _ _ _;refine yT λen cW _ _ _=>zt λbT aF=>?_;refine⟨_,J,r,CP,dx,_,_,J,W.core.ins,D.cl,D.nB,cp v x' pt ps so pw,_,J,r,CP,dx,_,_,J,W.core.ins,D.cl,D.nX,vH v x' pt ps so pw,_,J,_,J,?_⟩;refine⟨z,v,b,q,(zb b x' j).ds,x',(zb b x' j).b',J,W.bag,cQ,W.core.rb,B.ok,W.ds,af.bk,g,by exact zC Z,by exact pX cR (RL g) Z,W.lam,λp bU aG bV bW bX bY=>aF _ _ (zt λbT aF=>?_)⟩;obtain⟨L,aT,as⟩:=W.new;obtain⟨bd,R,aH⟩:=W.read ba g aG bV bW bX bY aT as;have be:L.length=(zb b x' j).ss.length:=by have:=as.length;simpa using this
      refine⟨_,J,.inl ⟨J,_,Ad.of bd⟩,_,J,pT,L,_,J,J,bd,by exact ao bI Z ak g be,aF _ _ (zt λbT aF=>?_)⟩;generalize c' bU pT (.lst (L++[.ref p]))=aI at R aH;clear bX bY bW aG bV aT bd as W;have bZ:=UZ B.ok af.bk g;rw[←qF g] at bZ;obtain⟨cX,bf,bg⟩:=R.ext;have cY:=(xm (x:=x') av au (j+1)).dl;have cZ:=(xm (x:=x') av au (j+1)).le;have c0:ae.length<1000000:=by rw[bf,X4];exact bR cG Z ak al g bg
      refine⟨_,J,.inl ⟨J,_,Ad.of R.hS⟩,?_⟩;refine⟨_,J,r,dx,_,J,R.core.ins,xE (by simp),_,J,1,J,pS,_,-1,_,J,J,Ad.of R.hS,bP,_,J,_,J,?_⟩;refine⟨z,r,dx,v,b,x',x',pt,ps,so,g0,pr,pn,pw,p,q,ae,(zb b x' j).b',bb,(zb b x' j).ds,(zb b x' (j+1)).ds,xF b x' j,J,R.core.ins,aH,R.ds,R.bag,R.sd,cT,bZ,by exact pX cY cZ Z,c0,λaJ c1 I c2 c3 b0 M=>?_⟩;obtain⟨aK,b1⟩:=R.behind ba c2 c3 b0 M;obtain⟨c4,aL,_,bh⟩:=R.sd.ex;have b2:=b0 _ _ (λc=>c.elim (zj aH aL) (zj aH bh)) aH;have b3:c' I pS (.lst ((g5++[aJ]).map λk:Nat=>V.int (k:Int))) p=some (.tup (xQ (xF b x' j))):=by rw[zh (zj b2 aK)];exact b2
      have aU:=R.ns.len;have c5:(g5.map λk:Nat=>V.int (k:Int))++[V.int (aJ:Int)]=(g5++[aJ]).map λk:Nat=>V.int (k:Int):=by rw[T5];rfl
      refine⟨pS,_,_,J,J,aK,by rw[X5];exact am bI Z ak al g aU,?_⟩;rw[c5];refine aF _ _ ?_;generalize c' I pS (.lst ((g5++[aJ]).map λk:Nat=>V.int (k:Int)))=aV at b1 b3;obtain⟨b4,p2,p3,p4,p5,eo⟩:=vj (x:=x') av af.bk au g;have b5:((zb b x' j).b':Int)+(xF b x' j).2.1=((zb b x' (j+1)).b':Int):=by
       have c6:∀(a:Nat) (k:Int),1<=k->((a+k.toNat:Nat):Int)=(a:Int)+k:=λa k c7=>by exact iR c7
       rw[uV g];exact(c6 _ _ b4).symm
      refine⟨_,J,_,J,p,_,1,_,J,J,Ah.of b3,zy (j:=1) J,_,_,J,J,?_⟩;dsimp only;rw[b5];refine cW _ _ ⟨⟨j+1,c1,g5++[aJ],_,J,b1,λl aB=>?_⟩,?_⟩
      .by_cases b6:l=j
       .rw[b6];exact g
       .exact ar l (Qn (R5 aB) b6)
      .show x'.length-((zb b x' (j+1)).b':Int).toNat<x'.length-((zb b x' j).b':Int).toNat;have bi:1<=(xF b x' j).2.1:=b4;exact bA g b5 bi
   .have aW:(zb b x' j).b'=x'.length:=by
     have:¬(zb b x' j).b'<x'.length:=λq=>g (Qxd (wx q));exact RU aD (Qt.1 this)
    exact yi (G _ _ ⟨j,ae,g5,aq,J,W,ar,aW⟩)
  .rintro σ bN ep eq aA ⟨c8,bi,c9,da,aL,db,bj,dc,dd,de,df,dg,dh,di,dj,dk,bQ,dl,dm,dn,dp,b7,dq,h⟩;refine⟨c8,bi,c9,da,aL,db,bj,dc,dd,de,df,dg,dh,di,dj,dk,bQ,dl,dm,dn,dp,b7,dq,?_⟩;cases b7 with
   |false=>exact aA _ _ h
   |true=>
    obtain⟨b8,g1,b9,aM,ca,g2,bS,aE,cb,dr,bk,dt,cc,du,cd,dv,dw,dy,dz,dA,dB,dC,dD,dE,dF,dG,dH,dI,dK,dL,dM,dN,dO,dP,dQ,dR,dS,aX,dT,bl,dU,dV,dW⟩:=h;refine⟨b8,g1,b9,aM,ca,g2,bS,aE,cb,dr,bk,dt,cc,du,cd,dv,dw,dy,dz,dA,dB,dC,dD,dE,dF,dG,dH,dI,dK,dL,dM,dN,dO,dP,dQ,dR,dS,aX,dT,bl,dU,dV,λbc bm=>?_⟩;obtain⟨c,dX,h⟩:=dW bc bm;exact⟨c,dX,aA _ _ h⟩
 case g2=>
  rintro σ' aC ⟨j,ae,g5,aq,rfl,W,ar,aW⟩;have af:=xm (x:=x') av au j;have aD:=af.le;have ak:=af.sl;have al:=iu ar;have cf:=a5.has N (X2 _) (by rw[B.run.b'];exact Mi _);rw[B.run.b',←bG,←aW] at cf;have bm:AO aC el (.int ((zb b x' j).b':Int)) (some (.int (N:Int))):=by rw[←cf];exact AO.k (k:=.inl ((zb b x' j).b':Int)) W.core.eld
  refine zt λU G=>?_;refine⟨_,J,_,J,el,_,J,bm,G _ _ (zt λU G=>?_)⟩;obtain⟨bn,dY,dZ⟩:=W.core.told;have cg:bn.length=N:=by have:=dZ.length;rw[X5,cM] at this;exact this
  obtain⟨L,aT,as⟩:=W.new;have be:L.length=j:=by have:=as.length;rw[X5,al] at this;exact this
  refine⟨_,J,_,J,r,CP,dx,_,_,J,W.core.ins,D.cl,D.nT,sC v x' pt ps so pw,_,J,_,J,pt,bn,J,Ad.of dY,λpl d0=>?_⟩;rw[cx bn (NG cg.symm),Pa (NG cg)];have aG:=Aa.new (o:=.lst []) d0;have aY:c' aC pl (.lst []) pl=some (.lst []):=zd;generalize c' aC pl (.lst [])=bU at aG aY;refine⟨pl,J,⟨_,Ad.of aY⟩,λpc ch=>?_⟩;have ci:pl≠pc:=zi aY ch;refine qI (z:=z) (λ_=>true) (λ_=>yb xV) (λ_=>True) trivial ch (X7 _) (x8 (xs:=[]) (by rw[zh ci];exact aY) ci) (λi=>dJ _) (λi σ aI er et hi=>absurd hi (QJ _)) (λσ aI vs d1 d2 d3=>?_)
  .cases d3;have bo:=aG.trans d1;refine⟨pT,pc,L,[],J,J,bo _ _ aT,d2,by rw[be];exact TD al ak aD Z,λp2 cj=>?_⟩;rw[QI];have ck:=Aa.new (o:=.lst L) cj;have M:=bo.trans ck;have bp:c' aI p2 (.lst L) p2=some (.lst L):=zd;have cm:Ab z (c' aI p2 (.lst L)) L ((zb b x' j).ss.map yb):=as.mono M.x;have Y:=bo.free cj;generalize c' aI p2 (.lst L)=I at ck M bp cm;refine⟨_,J,r,CP,dx,_,J,M _ _ W.core.ins,D.cl,D.nT,by show (6:Nat)<1000;decide,?_⟩;rw[Tj];have ab:=M _ _ W.core.ins;have aZ:yA (λa=>a=r) I (c' I r (.ins CP dx (yf v x' p2 ps so pw))):=wp;have bq:xR (λa=>a=r) I:=vn ab (by intro xs c;cases c);have d4:c' I r (.ins CP dx (yf v x' p2 ps so pw)) p2=some (.lst L):=by rw[zh (zj bp ab)];exact bp
   have d5:=Ab.keep aZ bq cm (xf _);have br:RaC z CP I r dx v b x x' pt ps so pw el N ks a':=W.core.keep (S:=λ_=>False) (λa o _ e=>M a o e) (λ_ _ h=>h.elim) id id id id;have d6:c' I r (.ins CP dx (yf v x' p2 ps so pw)) ps=some (.lst (ks.map λk:Nat=>V.int (k:Int))):=by rw[zh (zj br.stands ab)];exact br.stands
   have aK:=M _ _ W.hS;have d7:c' I r (.ins CP dx (yf v x' p2 ps so pw)) pS=some (.lst (g5.map λk:Nat=>V.int (k:Int))):=by rw[zh (zj aK ab)];exact aK
   have d8:=Aj.keep aZ bq br.rb (.tup (wa _));have bs:=W.sd.same M;obtain⟨c4,aL,_,bh⟩:=id bs.ex;have cn:=bs.keep aZ bq (zj bs.ins ab iw) (zj aL ab) (zj bh ab);have bt:yA (λa=>a=r∨a=pr∨a=pn∨a=tb) H (c' I r (.ins CP dx (yf v x' p2 ps so pw))):=λa o ag e=>by
    rw[zh (λc=>ag (.inl c))];exact M a o (W.keep a o (λc=>ag (.inr c)) e)
   have co:Am z (c' I r (.ins CP dx (yf v x' p2 ps so pw))):=by
    obtain⟨c,d',aN⟩:=W.bag.same M;exact⟨c,d',by rw[zh (zj aN ab)];exact aN⟩
   have bu:zO tb (c' I r (.ins CP dx (yf v x' p2 ps so pw))):=by
    obtain⟨d9,ht⟩:=(W.lam.same M).tbl;refine rE (W.lam.same M) aZ (zj ht ab) (λa ag c q' e=>?_);rw[show a=r from ag,ab] at e;cases e
   have bv:c' I r (.ins CP dx (yf v x' p2 ps so pw)) r=some (.ins CP dx (yf v x' p2 ps so pw)):=zd;refine G _ _ (zt λU G=>?_);generalize c' I r (.ins CP dx (yf v x' p2 ps so pw))=aV at *;refine⟨_,J,_,J,r,CP,dx,_,_,J,bv,D.cl,D.nS,pz v x' p2 ps so pw,_,J,_,_,J,J,_,J,ps,_,J,Ad.of d6,λa0 ea=>?_⟩;have eb:xh (ks.map λk:Nat=>V.int (k:Int)) (some ((N:Int)+1)) none=[]:=by
    have:=cx (ks.map λk:Nat=>V.int (k:Int)) (k:=N+1) (by rw[X5,aw];exact X2 _);rw[Pa (by rw[X5,aw];exact X2 _)] at this;exact this
   rw[eb];have a1:=Aa.new (o:=.lst []) ea;have cr:c' aV a0 (.lst []) a0=some (.lst []):=zd;generalize c' aV a0 (.lst [])=cs at a1 cr;have aU:=W.ns.len;refine⟨pS,a0,_,_,J,J,a1 _ _ d7,cr,by rw[X5,aU];exact TF al ak aD Z,λp3 cu=>?_⟩;rw[QI];have ac:=a1.trans (Aa.new (o:=.lst (g5.map λk:Nat=>V.int (k:Int))) cu);have bw:c' cs p3 (.lst (g5.map λk:Nat=>V.int (k:Int))) p3=some (.lst (g5.map λk:Nat=>V.int (k:Int))):=zd;have O:=a1.free cu;generalize c' cs p3 (.lst (g5.map λk:Nat=>V.int (k:Int)))=bx at ac bw;have ad:=ac _ _ bv;refine⟨_,J,r,CP,dx,_,J,ad,D.cl,D.nS,by show (6:Nat)<1000;decide,?_⟩;rw[Tk];have a2:yA (λa=>a=r) bx (c' bx r (.ins CP dx (yf v x' p2 p3 so pw))):=wp;have bz:xR (λa=>a=r) bx:=vn ad (by intro xs c;cases c);have cv:=ac _ _ d4;have bC:=cn.same ac;obtain⟨eu,aX,_,bl⟩:=id cn.ex;obtain⟨ev,bj,_,ec⟩:=id bC.ex;obtain⟨⟨b8,b9,aM⟩,⟨ca,cb,bk⟩,cc,cd⟩:=B.nes;obtain⟨ew,h1,_,aS⟩:=id B.sd.ex;obtain⟨d9,cy⟩:=a4.tbl;have ed:aC pw=some (.lst bH):=W.keep _ _ (λc=>c.elim aM λc=>c.elim (zj ah aS) (zj ah cy)) ah;have ee:aV pw=some (.lst bH):=bt _ _ (λc=>c.elim (zj ah B.ins) λc=>c.elim aM λc=>c.elim (zj ah aS) (zj ah cy)) ah;obtain⟨ey,cz,_,ef⟩:=id W.sd.ex;obtain⟨cX,bf,bg⟩:=W.ext;refine G _ _ ⟨_,J,cL _ _ (k j p2 p3 g5 ae _ ⟨zd,Aj.keep a2 bz (d8.mono ac.x) (.tup (wa _)),B.ok,⟨aW,ar⟩,⟨L,by rw[zh (zj cv ad)];exact cv,Ab.keep a2 bz (d5.mono ac.x) (xf _)⟩,by rw[zh (zj bw ad)];exact bw,aU,W.ns.st,bC.keep a2 bz (zj bC.ins ad iw) (zj bj ad) (zj ec ad),B.xl',⟨⟨(zi cz Y).symm,(zi aX O).symm,aM⟩,⟨W.bag.ne Y,co.ne O,bk⟩,zi ed Y,zi ee O⟩⟩ ?_ (λa o ag e=>?_) ?_ ?_ ?_ ?_)⟩
   .rw[bf,X4];exact bB Z aD ak al bg
   .rw[zh (λc=>ag (.inl c))];exact ac a o (bt a o ag e)
   .obtain⟨c,d',aN⟩:=co.same ac;exact⟨c,d',by rw[zh (zj aN ad)];exact aN⟩
   .obtain⟨ez,ht⟩:=(bu.same ac).tbl;refine rE (bu.same ac) a2 (zj ht ad) (λa ag c q' e=>?_);rw[show a=r from ag,ad] at e;cases e
   .cases q':H p2 with
    |none=>rfl
    |some o=>
     exfalso;have bD:=W.keep p2 o (λc=>?_) q'
     .rw[bD] at Y;cases Y
     .rcases c with c|c|c
      .rw[c,cz] at Y;cases Y
      .rw[c,ef] at Y;cases Y
      .obtain⟨eg,bE⟩:=W.lam.tbl;rw[c,bE] at Y;cases Y
   .cases q':H p3 with
    |none=>rfl
    |some o=>
     exfalso;have bD:=bt p3 o (λc=>?_) q'
     .rw[bD] at O;cases O
     .rcases c with c|c|c|c
      .rw[c,bv] at O;cases O
      .rw[c,aX] at O;cases O
      .rw[c,bl] at O;cases O
      .obtain⟨eg,bE⟩:=bu.tbl;rw[c,bE] at O;cases O
theorem ix(a b:Str):(a++b).cps.toList=a.cps.toList++b.cps.toList:=by
 show (a.cps++b.cps).toList=_;simp
theorem TK(y:Str){k:Nat}(h:k<=y.length):(yC y none (some (k:Int))).cps.toList=y.cps.toList.take k:=by
 have:=qM y 0 k;rw[Ot] at this;rw[←this];unfold yC;rw[HT.sIx_none];have B:HT.sIx y.length 0 (some ((0:Nat):Int))=0:=by rw[HT.sIx_nat];exact rfl
 have D:((0:Nat):Int)+(k:Int)=(k:Int):=by exact bD
 rw[B,D]
inductive rF(P:U2)(w:Rz)(tb CP CS:Addr):Sp where
 |mk {vs:List V} {H:Hp} {Q:VK} {E:XK} (z r dx:Addr) (v:V) (b:Bk) (x:Str) (pt ps so g0 pr pn pw:Addr) (tab:List zW) (N:Nat) (ks:List Nat) (t:Str)
  (c1:vs=[.ref r,.int 0,.int x.length,.str t]) (c2:AL P w z CP CS H r dx v b x pt ps so g0 pr pn pw tab N ks) (c3:Am z H) (c4:zO tb H) (c7:t.length<=2000) (c8:tab.length+2000<1000000) (c9:∃wl,H pw=some (.lst wl))
  (ho:∀p M g9 he g5 g7 H' (i j:Int),AL P w z CP CS H' r dx v b t g9 he so g0 pr pn pw g7 M g5->g7.length<=tab.length+2000->yA (λa=>a=r∨a=pr∨a=pn∨a=tb) H H'->Am z H'->zO tb H'->H p=none->H' p=some (.tup [.int i,.int j])->H g9=none->H he=none->Q (.ref p) H'):rF P w tb CP CS vs H Q E
theorem Cg:zK ["self","begin","end","text","kept","first","longer","elder","last"] ["self","begin","end","text"] (zq ij):=zP
theorem TL(F:Ao K "put" "Page.put" ij f fd)(T:yu mg)(I:wd K mg CP)(ar:Ml P w K mg base CP 6 "count_sure" ["self","begin"] (mD P w tb CP CS))(as:Ml P w K mg base CP 1 "beginning" ["self","number"] (sD P w CP CS))(au:Ml P w K mg base CP 2 "numbers_by_beginnings" ["self","end","longer"] (mz P w CP CS))(av:Ml P w K mg base CP 5 "read_anew" ["self","kept","first","elder","longer"] (mF P w tb CP CS)):Ag P w K mg base zD 7 f fd ["self","begin","end","text"] (rF P w tb CP CS):=by
 refine F.okA Cg λg4 A outer s H vs Q E W h=>?_;obtain⟨z,r,dx,v,b,x,pt,ps,so,g0,pr,pn,pw,tab,N,ks,t,rfl,Y,aw,ab,Z,ax,⟨ay,ag⟩,k⟩:=h;have O:=Cg.nd;have az:Ak 1 _:=W.mono (by decide);have aA:Ak 2 _:=W.mono (by decide);have aB:Ak 5 _:=W.mono (by decide);refine⟨_,ze (zu (i:=4) O (yX (pv 0) I.cl ar W (zz 1)))
  (ze (zu (i:=5) O (yX (pv 0) I.cl as az (zz 4)))
  (ze (zu (i:=6) O (zG vY (zT yL (by rfl) T.len b_len (zz 3)) (zG vY (pv 2) (pv 1))))
  (ze (zu (i:=7) O (yX (pv 0) I.cl au aA (yk 2 6)))
  (ze (xZ (pv 0) (zG uC (zG uC (x0 v9 (yh (pv 0) J) vd (xz (pv 1))) (pv 3)) (x0 v9 (yh (pv 0) J) (xz (pv 2)) vd)) J)
  (ze (zu (i:=8) O (yX (pv 0) I.cl av aB (xO 4 5 7 6)))
  (zm (zB (yl (yk 5 8))))))))),?_⟩
 dsimp only[zH,Cx.nox,Cx.wish];have a1:=yB;have ac:=Y.xl;refine yT λa2 _ aC _ _=>zt λU G=>?_;refine⟨_,J,r,dx,_,J,Y.ins,xE (by simp),_,J,z,r,dx,v,b,x,pt,ps,so,g0,pr,pn,pw,tab,N,ks,J,Y,aw,ab,λH1 aa aD aE=>G _ _ (zt λU G=>?_)⟩;have R:=Y.butX aa ab;refine⟨_,J,r,dx,_,J,R.ins,xE (by simp),_,J,z,r,dx,v,b,x,pt,ps,so,g0,pr,pn,pw,tab,N,ks,0,J,R,X7 _,G _ _ (zt λU G=>?_)⟩;refine⟨_,J,t,J,zC Z,_,J,_,J,_,_,J,J,_,_,J,J,G _ _ (zt λU G=>?_)⟩;refine⟨_,J,r,dx,_,J,R.ins,xE (by simp),_,J,_,J,z,r,dx,v,b,x,pt,ps,so,g0,pr,pn,pw,tab,N,ks,x.length,(t.length:Int)-((x.length:Int)-0),J,R,λel a' H2 M a3 ah aF=>G _ _ (zt λU G=>?_)⟩;have B:=R.same M;have aG:=aD.same M;have ad:=aE.same M;have S:yC x none (some 0)=⟨#[]⟩:=sn (TK x (X7 _));have V:yC x (some (x.length:Int)) none=⟨#[]⟩:=sn (by rw[nM x (X2 _),←xn x,Nk]);have ct:(⟨#[]⟩:Str)++t++⟨#[]⟩=t:=sn (by rw[ix,ix];show []++t.cps.toList++[]=_;simp);have aH:(⟨#[]⟩:Str)++t=t:=sn (by rw[ix];rfl);refine⟨_,J,r,CP,dx,_,_,J,B.ins,I.cl,I.nX,vH v x pt ps so pw,_,J,_,J,x,J,by exact zC ac,_,J,_,_,J,J,by rw[S];exact xq (Jx _) (zC Z),_,J,r,CP,dx,_,_,J,B.ins,I.cl,I.nX,vH v x pt ps so pw,_,J,_,J,x,J,by exact zC ac,_,_,J,J,by rw[S,V,aH];exact zC Z,_,J,r,CP,dx,_,J,B.ins,I.cl,I.nX,by show (6:Nat)<1000;decide,?_⟩;rw[Ti];rw[S,V,ct];have J0:yA (λa=>a=r) H2 (c' H2 r (.ins CP dx (yf v t pt ps so pw))):=wp;have ae:xR (λa=>a=r) H2:=vn B.ins (by intro xs c;cases c);obtain⟨tv,ai,aI⟩:=B.told;obtain⟨a4,aJ,_,aK⟩:=id B.sd.ex;have aj:cr P w z CP CS (c' H2 r (.ins CP dx (yf v t pt ps so pw))) r dx v b x t pt ps so g0 pr pn pw tab N ks:=⟨zd,Aj.keep J0 ae B.rb (.tup (wa _)),B.ok,B.run,⟨tv,J0 _ _ (zj ai B.ins) ai,Ab.keep J0 ae aI (xf _)⟩,J0 _ _ (zj B.stands B.ins) B.stands,B.kl,B.st,B.sd.keep J0 ae (zj B.sd.ins B.ins iw) (zj aJ B.ins) (zj aK B.ins),ac,Z,B.nes⟩;have aL:Am z (c' H2 r (.ins CP dx (yf v t pt ps so pw))):=by
  obtain⟨c,d',ak⟩:=aG;exact⟨c,d',J0 _ _ (zj ak B.ins) ak⟩
 have aM:zO tb (c' H2 r (.ins CP dx (yf v t pt ps so pw))):=by
  obtain⟨aN,ht⟩:=ad.tbl;refine rE ad J0 (zj ht B.ins) (λa L c q' e=>?_);rw[show a=r from L,B.ins] at e;cases e
 have aO:=J0 _ _ (zj ah B.ins) ah;obtain⟨aN,aP⟩:=ab.tbl;have al:=M _ _ (aa _ _ (zj ag aP) ag);have aQ:=J0 _ _ (zj al B.ins) al;have am:yA (λa=>a=r∨a=pr∨a=pn∨a=tb) H (c' H2 r (.ins CP dx (yf v t pt ps so pw))):=λa o L e=>by
  rw[zh (λc=>L (.inl c))];exact M a o (aa a o (λc=>L (.inr (.inr (.inr c)))) e)
 have aR:c' H2 r (.ins CP dx (yf v t pt ps so pw)) r=some (.ins CP dx (yf v t pt ps so pw)):=zd;have ao:∀ {a:Addr},c' H2 r (.ins CP dx (yf v t pt ps so pw)) a=none->H a=none:=λ{a} n=>by
  cases q:H a with
  |none=>rfl
  |some o=>
   exfalso;by_cases c:a=r
   .rw[c,aR] at n;cases n
   .rw[zh c] at n;by_cases V:a=tb
    .obtain⟨a5,aS⟩:=ad.tbl;rw[V,aS] at n;cases n
    .rw[M a o (aa a o V q)] at n;cases n
 refine G _ _ (zt λU G=>?_);generalize c' H2 r (.ins CP dx (yf v t pt ps so pw))=a6 at *;refine⟨_,J,r,dx,_,J,aj.ins,xE (by simp),_,J,_,J,_,J,_,J,z,r,dx,v,b,x,t,pt,ps,so,g0,pr,pn,pw,el,tab,N,ks,a',(t.length:Int)-((x.length:Int)-0),J,aj,aL,aM,aO,aF,by omega,ax,⟨ay,aQ⟩,λaT g9 he g5 aU a7 af aV ap aW aq aX aY=>G _ _ ?_⟩
 .refine⟨_,J,_,J,by show (2:Nat)<=_;exact X6 _ _,λp D=>aC _ _ (k p aT g9 he g5 aU _ _ _ (af.same (Aa.new D)) aV (λa o L e=>Aa.new D _ _ (ap a o L (am a o L e))) (aW.same (Aa.new D)) (aq.same (Aa.new D)) ?_ zd ?_ ?_)⟩
  rotate_left
  .exact ao aX
  .exact ao aY
  cases q:H p with
  |none=>rfl
  |some o=>
   exfalso;obtain⟨a8,S,_,aZ⟩:=id af.sd.ex;obtain⟨a9,a0⟩:=aq.tbl;have h1:=ap p o (λc=>?_) (am p o (λc=>?_) q)
   .rw[h1] at D;cases D
   all_goals
    rcases c with c|c|c|c
    .rw[c,af.ins] at D;cases D
    .rw[c,S] at D;cases D
    .rw[c,aZ] at D;cases D
    .rw[c,a0] at D;cases D
inductive mG(P:U2)(w:Rz)(CP CS:Addr):Sp where
 |mk {vs:List V} {H:Hp} {Q:VK} {E:XK} (z r dx:Addr) (v:V) (b:Bk) (x:Str) (pt ps so g0 pr pn pw:Addr) (tab:List zW) (N:Nat) (ks:List Nat) (c1:vs=[.ref r]) (c2:AL P w z CP CS H r dx v b x pt ps so g0 pr pn pw tab N ks) (c3:Q (.str x) H):mG P w CP CS vs H Q E
inductive mH(P:U2)(w:Rz)(tb CP CS:Addr):Sp where
 |mk {vs:List V} {H:Hp} {Q:VK} {E:XK} (z r dx:Addr) (v:V) (b:Bk) (x:Str) (pt ps so g0 pr pn pw:Addr) (tab:List zW) (N:Nat) (ks:List Nat) (t:Str) (wl:List V)
  (c1:vs=[.ref r,.int 0,.int x.length,.str t]) (c2:AL P w z CP CS H r dx v b x pt ps so g0 pr pn pw tab N ks) (c3:Am z H) (c4:zO tb H) (c7:t.length<=2000) (c8:tab.length+2000<1000000) (c9:H pw=some (.lst wl)) (c9':wl.length<=1000)
  (ho:∀p wv M g9 he g5 g7 H' (i j:Int),AL P w z CP CS H' r dx v b t g9 he so g0 pr pn pw g7 M g5->g7.length<=tab.length+2000->yA (λa=>a=pw∨a=r∨a=pr∨a=pn∨a=tb) H H'->Am z H'->zO tb H'->H' pw=some (.lst (wl++[wv]))->(∃pq,wv=.ref pq/\pq≠z/\H' pq=some (.tup [.int 0,.int t.length,.str x]))->H p=none->H' p=some (.tup [.int i,.int j])->Q (.ref p) H'):mH P w tb CP CS vs H Q E
theorem TM:zK ["self"] ["self"] (zq ig):=zP
theorem Bm:zK ["self","begin","end","text"] ["self","begin","end","text"] (zq ie):=zP
theorem TN(F:Ao K "text" "Page.text" ig f fd)(B:wd K mg CP):Ag P w K mg base zD 1 f fd ["self"] (mG P w CP CS):=by
 refine F.okA TM λg4 A outer s H vs Q E G h=>?_;obtain⟨z,r,dx,v,b,x,pt,ps,so,g0,pr,pn,pw,tab,N,ks,rfl,D,k⟩:=h;refine⟨_,zm (zB (yh (pv 0) J)),?_⟩;dsimp only[zH,Cx.nox,Cx.wish];exact⟨_,J,r,CP,dx,_,_,J,D.ins,B.cl,B.nX,vH v x pt ps so pw,k⟩
theorem TQ{ae:X3}(F:Ao K "change" "Page.change" ie f fd)(T:yu mg)(I:wd K mg CP)(am:mg "MOST_SIGNS"=some ae)(ao:RelV (.int 2000) ae)(ap:Ml P w K mg base CP 7 "put" ["self","begin","end","text"] (rF P w tb CP CS)):Ag P w K mg base zD 8 f fd ["self","begin","end","text"] (mH P w tb CP CS):=by
 refine F.okA Bm λg4 A outer s H vs Q E aq h=>?_;obtain⟨z,r,dx,v,b,x,pt,ps,so,g0,pr,pn,pw,tab,N,ks,t,D,rfl,R,af,ar,Z,as,ag,au,k⟩:=h;have aV:=Bm.nd;refine⟨_,ze (ya (xr (fS vO vO vO zg (pv 1) (pv 2) (zT yL (by rfl) T.len b_len (zc (yh (pv 0) J) zf)))) wZ ye)
  (ze (ya (zZ tM (zG yO (zG vY (zT yL (by rfl) T.len b_len (zc (yh (pv 0) J) zf)) (zG vY (pv 2) (pv 1))) (zT yL (by rfl) T.len b_len (zz 3))) (tH J am ao) (zR _)) wZ ye)
  (ze (yy (yW U1 S8 S9 xC (yh (pv 0) J) (zc (yl (zc (pv 1) (zc (zG yO (pv 1) (zT yL (by rfl) T.len b_len (zz 3))) (zc (x0 v9 (yh (pv 0) J) (xz (pv 1)) (xz (pv 2))) zf)))) zf)))
  (zm (zB (yX (pv 0) I.cl ap aq (uR 1 2 3)))))),?_⟩
 dsimp only[zH,Cx.nox,Cx.wish];have aW:=yB;have aa:=R.xl;refine yT λaX _ av _ _=>zt λU M=>?_;have S:=R.ins;have aw:yC x (some (0:Int)) (some (x.length:Int))=x:=sn (by
  have e:=qM x 0 x.length;rw[show ((0:Nat):Int)+(x.length:Int)=(x.length:Int) from IS _,Ot,←xn x,R1,xn x] at e;exact e)
 have ax:decide ((0:Int)<=0)=true:=rfl;have ay:decide ((0:Int)<=(x.length:Int))=true:=Qxd (RC _);have az:decide ((x.length:Int)<=(x.length:Int))=true:=Qxd (Mi _);have aA:decide ((2000:Int)<((x.length:Int)-((x.length:Int)-0))+(t.length:Int))=false:=decide_eq_false (by omega);refine⟨_,J,_,_,J,J,_,J,yc (λ_=>?_) (λg=>absurd ax g)⟩;refine⟨_,J,_,_,J,J,_,J,yc (λ_=>?_) (λg=>absurd ay g)⟩;refine⟨_,J,r,CP,dx,_,_,J,S,I.cl,I.nX,vH v x pt ps so pw,x,J,by exact zC aa,_,_,J,J,_,J,?_⟩;refine yc (λg=>absurd g (by rw[az];decide)) (λ_=>M _ _ (zt λU M=>?_));refine⟨_,J,r,CP,dx,_,_,J,S,I.cl,I.nX,vH v x pt ps so pw,x,J,by exact zC aa,_,J,_,J,_,_,J,J,_,_,J,J,_,J,t,J,zC Z,_,_,J,J,_,_,J,J,_,J,?_⟩;refine yc (λg=>absurd g (by rw[aA];decide)) (λ_=>M _ _ (zt λU M=>?_));refine⟨_,J,r,CP,dx,_,_,J,S,I.cl,I.nW,iq v x pt ps so pw,.inl ⟨J,_,Ad.of ag⟩,?_⟩;refine⟨_,J,_,J,_,J,t,J,zC Z,_,_,J,J,_,J,r,CP,dx,_,_,J,S,I.cl,I.nX,vH v x pt ps so pw,_,J,_,J,_,J,_,J,x,J,by exact zC aa,by show (3:Nat)<=_;exact X6 _ _,λB ah=>?_⟩;have O:=Aa.new (o:=.tup [V.int 0,V.int ((0:Int)+(t.length:Int)),V.str (yC x (some (0:Int)) (some (x.length:Int)))]) ah;have G:=O _ _ ag;have J0:=R.same O;have aB:=af.same O;have ai:=ar.same O;refine⟨pw,D,_,J,J,G,by exact vJ au,M _ _ ?_⟩;have L:c' H B (.tup [V.int 0,(λi j=>V.int (i+j)) (0:Int) (t.length:Int),V.str (yC x (some (0:Int)) (some (x.length:Int)))]) B=some (.tup [.int 0,.int t.length,.str x]):=by rw[zd,aw];show some (HO.tup [V.int 0,V.int (0+(t.length:Int)),V.str x])=_;rw[IS]
 have aC:=af.ne ah;generalize c' H B (.tup [V.int 0,(λi j=>V.int (i+j)) (0:Int) (t.length:Int),V.str (yC x (some (0:Int)) (some (x.length:Int)))])=H1 at *;have W:yA (λa=>a=pw) H1 (c' H1 pw (.lst (D++[.ref B]))):=wp;have aD:xR (λa=>a=pw) H1:=vn G (by intro xs c;cases c);obtain⟨⟨aY,aZ,aj⟩,⟨a0,a1,aE⟩,aF,aG⟩:=R.nes;obtain⟨a2,aH,_,ab⟩:=id J0.sd.ex;obtain⟨a3,ht⟩:=ai.tbl;have ak:=J0.keep W aD (zj J0.ins G) aF.symm aG.symm (zj J0.sd.ins G) aj.symm (zj ab G);have aI:Am z (c' H1 pw (.lst (D++[.ref B]))):=by
  obtain⟨c,d',aJ⟩:=aB;exact⟨c,d',W _ _ aE.symm aJ⟩
 have L2:=mE (l':=D++[.ref B]) ai G;have ac:c' H1 pw (.lst (D++[.ref B])) pw=some (.lst (D++[.ref B])):=zd;have aK:c' H1 pw (.lst (D++[.ref B])) B=some (.tup [.int 0,.int t.length,.str x]):=W _ _ (zj L G) L;have al:yA (λa=>a=pw) H (c' H1 pw (.lst (D++[.ref B]))):=λa o Y e=>W a o Y (O a o e);have aL:∀ {a:Addr},c' H1 pw (.lst (D++[.ref B])) a=none->H a=none:=λ{a} n=>by
  cases q:H a with
  |none=>rfl
  |some o=>
   exfalso;by_cases c:a=pw
   .rw[c,ac] at n;cases n
   .rw[al a o c q] at n;cases n
 generalize c' H1 pw (.lst (D++[.ref B]))=H2 at *;refine⟨_,J,r,dx,_,J,ak.ins,xE (by simp),_,J,_,J,_,J,z,r,dx,v,b,x,pt,ps,so,g0,pr,pn,pw,tab,N,ks,t,J,ak,aI,L2,Z,as,⟨_,ac⟩,λp aM g9 he g5 aN aO _ _ aP aQ ad aR aS aT aU a4 a5=>av _ _ (k p (.ref B) aM g9 he g5 aN aO _ _ aP aQ (λa o Y e=>ad a o (λc=>Y (.inr c)) (al a o (λc=>Y (.inl c)) e)) aR aS ?_ ⟨B,J,aC,?_⟩ (aL aT) aU)⟩
 .exact ad _ _ (λc=>c.elim (zj G J0.ins) λc=>c.elim aj λc=>c.elim (zj G ab) (zj G ht)) ac
 .exact ad _ _ (λc=>c.elim (zj L J0.ins) λc=>c.elim (zj L aH) λc=>c.elim (zj L ab) (zj L ht)) aK
inductive mI(P:U2)(w:Rz)(CP CS:Addr):Sp where
 |mk {vs:List V} {H:Hp} {Q:VK} {E:XK} (z r dx:Addr) (v:V) (b:Bk) (x:Str) (pt ps so g0 pr pn pw:Addr) (tab:List zW) (N:Nat) (ks:List Nat) (c1:vs=[.ref r]) (c2:AL P w z CP CS H r dx v b x pt ps so g0 pr pn pw tab N ks)
  (c3:∀p tv H',Aa H H'->H p=none->H' p=some (.lst tv)->Ab z H' tv ((zb b x N).ss.map yb)->Q (.ref p) H'):mI P w CP CS vs H Q E
inductive mJ(P:U2)(w:Rz)(tb CP CS:Addr):Sp where
 |mk {vs:List V} {H:Hp} {Q:VK} {E:XK} (z r dx:Addr) (v:V) (b:Bk) (t:Str) (c1:vs=[.ref r,v,.str t]) (c2:H r=some (.ins CP dx [])) (c3:Am z H) (c4:zO tb H) (c5:Aj z H v (yp b)) (c6:yn b) (c7:t.length<=2000)
  (c8:∀pt ps so g0 pr pn pw tab N ks H',AL P w z CP CS H' r dx v b t pt ps so g0 pr pn pw tab N ks->tab.length<=2000->yA (λa=>a=r∨a=tb) H H'->Am z H'->zO tb H'->H' pw=some (.lst [])->H pr=none->H pn=none->H pw=none->H pt=none->H ps=none->Q .non H'):mJ P w tb CP CS vs H Q E
theorem rG(f:Str)(v:V):∀fs:List (Str×V),(zJ f v fs).length<=fs.length+1
 |[]=>X2 _
 |(g,x)::r=>by
  show (if g=f then (g,v)::r else (g,x)::zJ f v r).length<=_;split
  .show r.length+1<=r.length+1+1;exact PF _
  .have:=rG f v r;show (zJ f v r).length+1<=r.length+1+1;exact Ra this
theorem TU(v:V)(x:Str)(pt ps so pw:Addr):zJ "ways_back" (.ref pw) (zJ "standings" (.ref so) (zJ "stands" (.ref ps) (zJ "told" (.ref pt) (zJ "signs" (.str x) (zJ "book" v [])))))=yf v x pt ps so pw:=by
 have B:zJ "signs" (.str x) (zJ "book" v [])=[(("book":Str),v),("signs",.str x)]:=xD;rw[B];have D:zJ "told" (.ref pt) [(("book":Str),v),("signs",.str x)]=[(("book":Str),v),("signs",.str x),("told",.ref pt)]:=(xD).trans (congrArg _ (xD));rw[D];have F:zJ "stands" (.ref ps) [(("book":Str),v),("signs",.str x),("told",.ref pt)]=[(("book":Str),v),("signs",.str x),("told",.ref pt),("stands",.ref ps)]:=(xD).trans (congrArg _ ((xD).trans (congrArg _ (xD))));rw[F];have G:zJ "standings" (.ref so) [(("book":Str),v),("signs",.str x),("told",.ref pt),("stands",.ref ps)]=[(("book":Str),v),("signs",.str x),("told",.ref pt),("stands",.ref ps),("standings",.ref so)]:=(xD).trans (congrArg _ ((xD).trans (congrArg _ ((xD).trans (congrArg _ (xD))))));rw[G];exact(xD).trans (congrArg _ ((xD).trans (congrArg _ ((xD).trans (congrArg _ ((xD).trans (congrArg _ (xD))))))))
theorem TV:zK ["self"] ["self"] (zq ii):=zP
theorem BF:zK ["self","book","text"] ["self","book","text"] (zq ic):=zP
theorem TW(F:Ao K "steps" "Page.steps" ii f fd)(I:ud mg)(D:wd K mg CP):Ag P w K mg base zD 1 f fd ["self"] (mI P w CP CS):=by
 refine F.okA TV λg4 A outer s H vs Q E M h=>?_;obtain⟨z,r,dx,v,b,x,pt,ps,so,g0,pr,pn,pw,tab,N,ks,rfl,G,k⟩:=h;refine⟨_,zm (zB (vc oA (by rfl) I.list vS (zc (yh (pv 0) J) zf))),?_⟩;dsimp only[zH,Cx.nox,Cx.wish];obtain⟨tv,J0,L⟩:=G.told;exact⟨_,J,r,CP,dx,_,_,J,G.ins,D.cl,D.nT,sC v x pt ps so pw,pt,tv,J,.inl (Ad.of J0),λl B=>k l tv _ (Aa.new B) B zd (L.mono (Aa.new B).x)⟩
theorem TX{aS:FuncData}{aT:X3}(F:Ao K "__init__" "Page.__init__" ic f fd)(T:yu mg)(D:wd K mg CP)(bj:mg "MOST_SIGNS"=some aT)(bk:RelV (.int 2000) aT)(bl:Ml P w K mg base CP 7 "put" ["self","begin","end","text"] (rF P w tb CP CS))(M2:L2.Mk K CS aR)(bm:mg "Standings"=some (.ref CS))(bn:Binds K aS ["self"] [])(bo:Ag P w K mg base zD 1 aR aS ["self"] (mq P w CS)):Ag P w K mg base zD 8 f fd ["self","book","text"] (mJ P w tb CP CS):=by
 refine F.okA BF λg4 A outer s H vs Q E au h=>?_;obtain⟨z,r,dx,v,b,t,rfl,ae,bp,aU,bq,br,aV,k⟩:=h;have b2:=BF.nd;have af:Ak 2 _:=au.mono (by decide);refine⟨_,ze (ya (zZ tM (zT yL (by rfl) T.len b_len (zz 2)) (tH J bj bk) (zR _)) wZ ye)
  (ze (xZ (pv 0) (pv 1) J)
  (ze (xZ (pv 0) z0 J)
  (ze (xZ (pv 0) (zV zf) J)
  (ze (xZ (pv 0) (zV (zc zg zf)) J)
  (ze (xZ (pv 0) (YB M2 bo af J bm bn .nil uI) J)
  (ze (xZ (pv 0) (zV zf) J)
  (zm (yy (yX (pv 0) D.cl bl au (zc zg (zc zg (zz 2)))))))))))),?_⟩
 dsimp only[zH,Cx.nox,Cx.wish];have b3:=yB;have bs:decide ((2000:Int)<(t.length:Int))=false:=decide_eq_false (by omega);refine yT λb4 bt _ _ _=>zt λU I=>?_;refine⟨_,J,t,J,by exact zC aV,_,_,J,J,_,J,yc (λg=>absurd g (by rw[bs];decide)) (λ_=>I _ _ (zt λU I=>?_))⟩;refine⟨_,J,_,J,r,CP,dx,_,J,ae,D.cl,D.nB,by show (0:Nat)<1000;decide,?_⟩;have bu:xR (λa=>a=r) H:=vn ae (by intro xs c;cases c);have aW:c' H r (.ins CP dx (zJ "book" v [])) r=some (.ins CP dx (zJ "book" v [])):=zd;have aX:yA (λa=>a=r) H (c' H r (.ins CP dx (zJ "book" v []))):=wp;refine I _ _ (zt λU I=>?_);generalize c' H r (.ins CP dx (zJ "book" v []))=H1 at aW aX;refine⟨_,J,r,CP,dx,_,J,aW,D.cl,D.nX,by show (1:Nat)<1000;decide,I _ _ (zt λU I=>?_)⟩;have af:c' H1 r (.ins CP dx (zJ "signs" (.str (YP "")) (zJ "book" v []))) r=some (.ins CP dx (zJ "signs" (.str (YP "")) (zJ "book" v []))):=zd;have aF:yA (λa=>a=r) H (c' H1 r (.ins CP dx (zJ "signs" (.str (YP "")) (zJ "book" v [])))):=λa o B e=>wp a o B (aX a o B e);generalize c' H1 r (.ins CP dx (zJ "signs" (.str (YP "")) (zJ "book" v [])))=H2 at af aF;refine⟨X7 _,λpt aY=>?_⟩;have av:=Aa.new (o:=.lst []) aY;have aG:c' H2 pt (.lst []) pt=some (.lst []):=zd;generalize c' H2 pt (.lst [])=ag at av aG;have bv:(zJ "signs" (.str (YP "")) (zJ "book" v [])).length<=2:=S5 (rG _ _ _) (Ra (rG _ _ _));refine⟨_,J,r,CP,dx,_,J,av _ _ af,D.cl,D.nT,by exact X6 _ _,I _ _ (zt λU I=>?_)⟩;have bw:=av _ _ af;have aZ:=S5 (rG "told" (.ref pt) (zJ "signs" (.str (YP "")) (zJ "book" v []))) (Ra bv);generalize bx:zJ "told" (.ref pt) (zJ "signs" (.str (YP "")) (zJ "book" v []))=O at *;have a0:c' ag r (.ins CP dx O) r=some (.ins CP dx O):=zd;have a1:yA (λa=>a=r) ag (c' ag r (.ins CP dx O)):=wp;have aH:=a1 _ _ (zj aG bw) aG;have aI:yA (λa=>a=r) H (c' ag r (.ins CP dx O)):=λa o B e=>a1 a o B (av a o (aF a o B e));generalize c' ag r (.ins CP dx O)=a2 at a0 aH aI;refine⟨by show (1:Nat)<=_;exact Qy _,λps a3=>?_⟩;have ah:=Aa.new (o:=.lst [.int 0]) a3;have aJ:c' a2 ps (.lst [.int 0]) ps=some (.lst [.int 0]):=zd;have aw:=ah _ _ a0;refine⟨_,J,r,CP,dx,_,J,aw,D.cl,D.nS,by exact vJ aZ,I _ _ (zt λU I=>?_)⟩;generalize c' a2 ps (.lst [.int 0])=ai at ah aJ aw;have a4:=S5 (rG "stands" (.ref ps) O) (Ra aZ);generalize bz:zJ "stands" (.ref ps) O=R at *;have aj:c' ai r (.ins CP dx R) r=some (.ins CP dx R):=zd;have aK:yA (λa=>a=r) ai (c' ai r (.ins CP dx R)):=wp;have ax:=aK _ _ (zj aJ aw) aJ;have ay:=aK _ _ (zj (ah _ _ aH) aw) (ah _ _ aH);have W:yA (λa=>a=r) H (c' ai r (.ins CP dx R)):=λa o B e=>aK a o B (ah a o (aI a o B e));generalize c' ai r (.ins CP dx R)=Y at aj ax ay W;intro so g0 aL bA bB;have bC:Aa Y (c' Y g0 (.own so)):=Aa.new bA;have bD:c' Y g0 (.own so) so=none:=by rw[zh bB.symm];exact aL
 have aM:=bC.trans (Aa.new (o:=.ins CS g0 []) bD);refine⟨so,g0,J,zd,λpr pn Z bE bF b5 bG bH a5 a6=>⟨J,?_⟩⟩;have aa:∀a o,Y a=some o->Z a=some o:=λa o e=>bG a o (zi e aL) (aM a o e);have ak:Y pr=none:=aM.free bE;have a7:Y pn=none:=aM.free bF;have al:=aa _ _ aj;refine⟨_,J,r,CP,dx,_,J,al,D.cl,D.nG,by exact vJ a4,I _ _ (zt λU I=>?_)⟩;have bI:=S5 (rG "standings" (.ref so) R) (Ra a4);generalize bJ:zJ "standings" (.ref so) R=ab at *;have a8:r≠so:=zi aj aL;have ac:yA (λa=>a=r) Z (c' Z r (.ins CP dx ab)):=wp;have aN:c' Z r (.ins CP dx ab) r=some (.ins CP dx ab):=zd;have az:=ac _ _ (zj (aa _ _ ax) al) (aa _ _ ax);have aA:=ac _ _ (zj (aa _ _ ay) al) (aa _ _ ay);have a9:=ac _ _ a8.symm bH;have am:=ac _ _ (zj a5 al) a5;have aB:=ac _ _ (zj a6 al) a6;have ao:yA (λa=>a=r) H (c' Z r (.ins CP dx ab)):=λa o B e=>ac a o B (aa a o (W a o B e));generalize c' Z r (.ins CP dx ab)=ba at aN az aA a9 am aB ao;refine⟨X7 _,λpw L=>?_⟩;have J0:=Aa.new (o:=.lst []) L;have aC:c' ba pw (.lst []) pw=some (.lst []):=zd;have M:=J0 _ _ aN;refine⟨_,J,r,CP,dx,_,J,M,D.cl,D.nW,by exact vJ bI,I _ _ ?_⟩;generalize c' ba pw (.lst [])=ap at J0 aC M;have bK:zJ "ways_back" (.ref pw) ab=yf v (YP "") pt ps so pw:=by rw[←bJ,←bz,←bx,TU]
 rw[bK];have S:yA (λa=>a=r) ap (c' ap r (.ins CP dx (yf v (YP "") pt ps so pw))):=wp;have aq:c' ap r (.ins CP dx (yf v (YP "") pt ps so pw)) r=some (.ins CP dx (yf v (YP "") pt ps so pw)):=zd;have bb:=S _ _ (zj (J0 _ _ az) M) (J0 _ _ az);have bc:=S _ _ (zj (J0 _ _ aA) M) (J0 _ _ aA);have bd:=S _ _ a8.symm (J0 _ _ a9);have be:=S _ _ (zj (J0 _ _ am) M) (J0 _ _ am);have bf:=S _ _ (zj (J0 _ _ aB) M) (J0 _ _ aB);have aO:=S _ _ (zj aC M) aC;have V:yA (λa=>a=r) H (c' ap r (.ins CP dx (yf v (YP "") pt ps so pw))):=λa o B e=>S a o B (J0 a o (ao a o B e));generalize c' ap r (.ins CP dx (yf v (YP "") pt ps so pw))=aP at aq bb bc bd be bf aO V;obtain⟨c,d,ad⟩:=bp;obtain⟨b6,ht⟩:=aU.tbl;have ar:z≠r:=zj ad ae (by intro c;cases c);have bL:=W _ _ ar ad;have bM:=ao _ _ ar ad;have bN:Am z aP:=⟨c,d,V _ _ ar ad⟩;have bg:tb≠r:=zj ht ae (by intro c;cases c);have bO:zO tb aP:=rE aU V bg (λa B c q e=>by rw[show a=r from B,ae] at e;cases e);have bh:(YP "").length=0:=by rw[wk];rfl
 have bP:=aF _ _ ar ad;have bQ:=aI _ _ ar ad;have bR:AL P w z CP CS aP r dx v b (YP "") pt ps so g0 pr pn pw [] 0 [0]:=by
  refine⟨aq,Aj.keep V bu bq (.tup (wa _)),br,⟨by rw[bh];rfl,λj aQ=>absurd aQ (QJ _)⟩,⟨[],bc,.nil⟩,bb,J,λj aQ=>?_,⟨bd,⟨[],be,.nil,bf⟩,(zi bL ak).symm,λj b7 h=>by simp at h,Ie⟩,by exact X6 _ _,⟨⟨zi ay ak,zi ax ak,(zi am L).symm⟩,⟨(zi bP aY).symm,(zi bQ a3).symm,(zi bM L).symm⟩,(zi aA L).symm,(zi az L).symm⟩⟩;have bS:j=0:=MX aQ;subst bS;exact⟨0,J,.zero⟩
 refine⟨_,J,r,dx,_,J,aq,xE (by simp),_,J,z,r,dx,v,b,YP "",pt,ps,so,g0,pr,pn,pw,[],0,[0],t,by rw[bh];rfl,bR,bN,bO,aV,by show 0+2000<1000000;decide,⟨_,aO⟩,λp b8 g9 he g5 bT bU _ _ bV bW bi bX bY b9 ca bZ b0=>bt _ _ ?_⟩;have as:∀ {G:Hp} {o':HO} {a:Addr},yA (λa=>a=r) H G->G r=some o'->G a=none->H a=none:=λ{G o' a} b1 au aD=>by
  cases q:H a with
  |none=>rfl
  |some o=>
   exfalso;by_cases c:a=r
   .rw[c,au] at aD;cases aD
   .rw[b1 a o c q] at aD;cases aD
 refine k g9 he so g0 pr pn pw bT _ g5 bU bV (by simpa using bW) (λa o B e=>?_) bX bY ?_ (as W aj ak) (as W aj a7) (as ao aN L) (as V aq bZ) (as V aq b0)
 .have aE:=W a o (λc=>B (.inl c)) e;refine bi a o (λc=>?_) (V a o (λc=>B (.inl c)) e);rcases c with c|c|c|c
  .exact B (.inl c)
  .rw[c,ak] at aE;cases aE
  .rw[c,a7] at aE;cases aE
  .exact B (.inr c)
 .refine bi _ _ (λc=>?_) aO;rcases c with c|c|c|c
  .exact zj aC M (by intro c;cases c) c
  .exact(zi am L).symm c
  .exact(zi aB L).symm c
  .exact(zi (ao _ _ bg ht) L).symm c
theorem TY(D:zO tb H)(B:Am z H)(A:AA z H H'):zO tb H':=by
 obtain⟨c,d,F⟩:=B;exact D.sameX F A.1
noncomputable abbrev iy:Stmt:=xj wJ 2
theorem TZ{x:Str}{pt:Addr}:(yf v x pt ps so pw).lookup ("take_back":Str)=none:=by
 unfold yf;rw[yI,yI,yI,yI,yI,yI];rfl
inductive mK(P:U2)(w:Rz)(tb CP CS:Addr):Sp where
 |mk {vs:List V} {H:Hp} {Q:VK} {E:XK} (z r dx:Addr) (v:V) (b:Bk) (x:Str) (pt ps so g0 pr pn pw pq:Addr) (tab:List zW) (N:Nat) (ks:List Nat) (t:Str) (wl:List V)
  (c1:vs=[.ref r]) (c2:AL P w z CP CS H r dx v b x pt ps so g0 pr pn pw tab N ks) (c3:Am z H) (c4:zO tb H) (c7:t.length<=2000) (c8:tab.length+2000<1000000) (c9:H pw=some (.lst (wl++[.ref pq]))) (c9':H pq=some (.tup [.int 0,.int x.length,.str t]))
  (ho:∀M g9 he g5 g7 H',AL P w z CP CS H' r dx v b t g9 he so g0 pr pn pw g7 M g5->g7.length<=tab.length+2000->yA (λa=>a=pw∨a=r∨a=pr∨a=pn∨a=tb) H H'->Am z H'->zO tb H'->Q .non H'):mK P w tb CP CS vs H Q E
theorem BQ:zK ["self","begin","end","text"] ["self"] (zq iy):=zP
theorem T0(F:Ao K "take_back" "Page.take_back" iy f fd)(I:wd K mg CP)(aa:Ml P w K mg base CP 7 "put" ["self","begin","end","text"] (rF P w tb CP CS)):Ag P w K mg base zD 8 f fd ["self"] (mK P w tb CP CS):=by
 refine F.okA BQ λg4 A outer s H vs Q E ab h=>?_;obtain⟨z,r,dx,v,b,x,pt,ps,so,g0,pr,pn,pw,J0,tab,N,ks,t,B,rfl,G,ac,R,ad,ae,D,S,k⟩:=h;have M:=BQ.nd;refine⟨_,ze (ya (xr (uB (yh (pv 0) J) (λ_=>rfl))) wZ ye)
  (ze (xt (tQ U1 Ob Oc oC (yh (pv 0) J)) (yR J (zF (zw (i:=1) M) (zF (zw (i:=2) M) (zF (zw (i:=3) M) yJ)))))
  (zm (yy (yX (pv 0) I.cl aa ab (uR 1 2 3))))),?_⟩
 dsimp only[zH,Cx.nox,Cx.wish];have aB:=yB;have aC:=G.xl;have W:=G.ins;refine yT λaD af _ _ _=>zt λU O=>?_;have ag:(!(B++[V.ref J0]).isEmpty)=true:=by cases B<;>rfl
 refine⟨_,J,r,CP,dx,_,_,J,W,I.cl,I.nW,iq v x pt ps so pw,_,.inl ⟨_,Ad.of D,J⟩,?_⟩;rw[ag];refine yi (O _ _ (zt λU O=>?_));have L:yA (λa=>a=pw) H (c' H pw (.lst B)):=wp;have ah:xR (λa=>a=pw) H:=vn D (by intro xs c;cases c);obtain⟨⟨aE,aF,ai⟩,⟨aG,aH,aj⟩,ak,al⟩:=G.nes;obtain⟨aI,aJ,_,am⟩:=id G.sd.ex;obtain⟨aK,ht⟩:=R.tbl;have Y:=G.keep L ah (zj G.ins D) ak.symm al.symm (zj G.sd.ins D) ai.symm (zj am D);have ao:Am z (c' H pw (.lst B)):=by
  obtain⟨c,d',ap⟩:=ac;exact⟨c,d',L _ _ aj.symm ap⟩
 have L2:=mE (l':=B) R D;have aq:c' H pw (.lst B) pw=some (.lst B):=zd;have ar:=L _ _ (zj S D) S;refine⟨_,J,r,CP,dx,_,_,J,W,I.cl,I.nW,iq v x pt ps so pw,.inl ⟨J,_,Ad.of D⟩,pw,B++[.ref J0],.ref J0,J,J,D,by simp,?_⟩;rw[show (B++[V.ref J0]).dropLast=B by simp];generalize c' H pw (.lst B)=H2 at *;refine⟨J0,_,J,Ah.of ar,J,_,_,J,_,_,J,_,_,J,J,O _ _ ?_⟩;refine⟨_,J,r,dx,_,J,Y.ins,xE (by simp),_,J,_,J,_,J,z,r,dx,v,b,x,pt,ps,so,g0,pr,pn,pw,tab,N,ks,t,J,Y,ao,L2,ad,ae,⟨_,aq⟩,λp as g9 he g5 au av _ _ aw ax ay az aA aL aM aN aO=>af _ _ (k as g9 he g5 au av aw ax (λa o Z e=>ay a o (λc=>Z (.inr c)) (L a o (λc=>Z (.inl c)) e)) az aA)⟩
theorem T8{x:Str}{pt:Addr}:(yf v x pt ps so pw).lookup ("standing_at":Str)=none:=by
 unfold yf;rw[yI,yI,yI,yI,yI,yI];rfl
noncomputable abbrev iz:Stmt:=xj wJ 5
structure T9(b:Bk)(x:Str)(N i n:Nat):Prop where
 le:n<=N
 b':(zb b x n).b'<=i
 no:∀j,n<j->j<=N->i<(zb b x j).b'
inductive mL(P:U2)(w:Rz)(CP CS:Addr):Sp where
 |mk {vs:List V} {H:Hp} {Q:VK} {E:XK} (z r dx:Addr) (v:V) (b:Bk) (x:Str) (pt ps so g0 pr pn pw:Addr) (tab:List zW) (N:Nat) (ks:List Nat) (i:Nat) (c1:vs=[.ref r,.int (i:Int)]) (c2:AL P w z CP CS H r dx v b x pt ps so g0 pr pn pw tab N ks) (c3:Am z H) (c4:i<=x.length)
  (q:∀p n H',Aa H H'->H p=none->T9 b x N i n->Aj z H' (.ref p) (.tup ((zb b x n).ds.map pdD))->Q (.ref p) H'):mL P w CP CS vs H Q E
theorem Cb:zK ["self","place"] ["self","place"] (zq iz):=zP
theorem Sa(F:Ao K "standing_at" "Page.standing_at" iz f fd)(T:yu mg)(D:wd K mg CP)(W:uj K mg CS)(Y:Ml P w K mg base CP 2 "count_ended" ["self","place"] (pF P w CP CS))(Z:Ml P w K mg base CS 1 "doors_by" ["self","number"] (rC P w CS)):Ag P w K mg base zD 3 f fd ["self","place"] (mL P w CP CS):=by
 refine F.okA Cb λg4 A outer s H vs Q E J0 h=>?_;obtain⟨z,r,dx,v,b,x,pt,ps,so,g0,pr,pn,pw,tab,N,ks,i,rfl,B,L,hi,q⟩:=h;have ap:=Cb.nd;have aa:Ak 1 _:=J0.mono (by decide);refine⟨_,ze (ya (xr (Yd vO vO zg (pv 1) (zT yL (by rfl) T.len b_len (zc (yh (pv 0) J) zf)))) wZ ye)
  (zm (zB (vc oB (by rfl) T.tuple v8 (zc (yX (yh (pv 0) J) W.cl Z aa (zc (zx Ae (yh (pv 0) J) (yX (pv 0) D.cl Y J0 (zz 1)) (λ_ _=>rfl)) zf)) zf)))),?_⟩
 dsimp only[zH,Cx.nox,Cx.wish];have aq:=yB;have M:=B.xl;obtain⟨ab,ar,ac,_⟩:=id B.ok;refine yT λas _ ad _ _=>zt λU ae=>?_;refine⟨_,J,_,_,J,J,_,J,?_⟩;rw[Qxd (show (0:Int)<=(i:Int) by exact RC _)];refine yS ⟨_,J,r,CP,dx,_,_,J,B.ins,D.cl,D.nX,vH v x pt ps so pw,x,J,by exact zC M,_,_,J,J,_,J,?_⟩;rw[Qxd (show (i:Int)<=(x.length:Int) by exact uo hi)];refine yi (ae _ _ ?_);refine⟨_,J,r,CP,dx,_,_,J,B.ins,D.cl,D.nG,pE v x pt ps so pw,so,g0,_,J,B.sd.ins,pj (by simp),?_⟩;refine⟨_,J,r,CP,dx,_,_,J,B.ins,D.cl,D.nS,pz v x pt ps so pw,_,J,r,dx,_,J,B.ins,xE (by simp),_,J,z,r,dx,v,b,x,pt,ps,so,g0,pr,pn,pw,tab,N,ks,(i:Int),J,B,λn O h1 h2=>?_⟩;obtain⟨af,ag,ah⟩:=B.st n O;have R:=xm (x:=x) ac ab n;have ai:=R.dl;have aj:=R.le;refine⟨ps,_,n,_,J,J,Ad.of B.stands,zy (by rw[RF,ag];rfl),z,so,g0,pr,pn,tab,af,(zb b x n).ds.map (·.2),J,L,B.sd,ah,by rw[X5];exact pX ai aj M,λp S H1 G au ak al=>?_⟩;refine⟨p,S,J,.inl ⟨Ad.of ak,λl I=>ad _ _ ?_⟩⟩;have V:=Aa.new (o:=.tup S) I;refine q l n _ (G.trans V) (G.free I) ⟨O,?_,λj am ao=>?_⟩ (.tup zd ((L.same G).ne I) ?_)
 .rcases h1 with h|h
  .rw[h];exact X7 _
  .exact Jg.1 h
 .have:=h2 j am ao;exact Qs.1 this
 .have e:((zb b x n).ds.map (·.2)).map tf=(zb b x n).ds.map pdD:=by rw[R6];rfl
  rw[←e];exact al.mono V.x
theorem scPR:zK ["book","text","page","told","change"] ["book","text"] (zq jt):=zP
theorem Sb{aS:FuncData}(F:Ao K "_law_page_right" "_law_page_right" jt f fd)(T:yu mg)(TP:wd K mg CP)(bB:mg "Page"=some (.ref CP))(bC:L2.Mk K CP aR)(bD:Cl P w K mg base 5 "_law_plain" ["thing"] (rq 5))(aT:Cl P w K mg base 2 "_law_steps" ["book","text"] qG)(bE:Binds K aS ["self","book","text"] [])(bF:Ag P w K mg base zD 8 aR aS ["self","book","text"] (mJ P w tb CP CS))(ad:Ml P w K mg base CP 1 "steps" ["self"] (mI P w CP CS))(bG:Ml P w K mg base CP 1 "text" ["self"] (mG P w CP CS))(bH:Ml P w K mg base CP 8 "change" ["self","begin","end","text"] (mH P w tb CP CS))(bI:Ml P w K mg base CP 3 "standing_at" ["self","place"] (mL P w CP CS))(bJ:Ml P w K mg base CP 8 "take_back" ["self"] (mK P w tb CP CS)):Ag P w K mg base zD 10 f fd ["book","text"] (sy tb):=by
 refine F.okA scPR λg4 A outer s H vs Q E S h=>?_;obtain⟨z,v,b,x,rfl,bK,bL,J0,G,bM,k⟩:=h;have aw:=scPR.nd;have ab:Ak 1 _:=S.mono (by decide);have aU:Ak 2 _:=S.mono (by decide);have bN:Ak 3 _:=S.mono (by decide);have ax:Ak 5 _:=S.mono (by decide);have aV:Ak 8 _:=S.mono (by decide);refine⟨_,ze (zu (i:=2) aw (gI bC bF S J bB bE .nil uI (yk 0 1)))
  (ze (zu (i:=3) aw (ub (pv 2) TP.cl ad ab))
  (ze (yy (tQ U1 MI MJ fb (pv 3)))
  (ze (zu (i:=4) aw (yX (pv 2) TP.cl bH aV (yY zg (zc (zT yL (by rfl) T.len b_len (zz 1)) (tZ (zG uC (pv 1) z0) zf)))))
  (ze (ya (PW.pt (sN (xr (xa (zA bD ax (eV (zV (zc (pv 4) (zc (ub (pv 2) TP.cl bG ab) (zc (yX (pv 2) TP.cl bI bN (yY zg zf)) zf)))) zf))))
   (rP (zZ (XM ax) (ub (pv 2) TP.cl ad ab) (zx Ae (zA aT aU (zc (pv 0) (tZ (zG uC (pv 1) z0) zf))) zg (λ_ _=>rfl)) (zR _))))) (zm (zB wy)) ye)
  (ze (yy (yW U1 S8 S9 xC (ub (pv 2) TP.cl ad ab) (yY sM zf)))
  (ze (yy (ub (pv 2) TP.cl bJ aV))
  (zm (zB (vZ (fX ax) (ub (pv 2) TP.cl ad ab) (zx Ae (zA aT aU (yk 0 1)) zg (λ_ _=>rfl)) (zR _)))))))))),?_⟩
 dsimp only[zH,Cx.nox,Cx.wish];have ce:=yB;refine yT λcf _ bO _ _=>zt λU D=>?_;refine⟨_,J,_,J,λr dx ae aW aX=>?_⟩;have aY:Aa H (c' H dx (.own r)):=Aa.new aW;have aZ:c' H dx (.own r) r=none:=by rw[zh aX.symm];exact ae
 have I:=aY.trans (Aa.new (o:=.ins CP dx []) aZ);refine⟨z,r,dx,v,b,x,J,zd,bK.same I,bM.same I,bL.mono I.x,J0,by exact zC G,λpt ps so g0 pr pn pw tab N ks H1 af cg a0 a1 a2 a3 ag ah ai _ _=>⟨J,D _ _ (zt λU D=>?_)⟩⟩;have a4:ym tb H H1:=λB o' L e=>a0 B o' (λc=>c.elim (zi e ae) L) (I B o' e);have ag:=I.free ag;have ah:=I.free ah;have ai:=I.free ai;clear a0 aY I aZ aW aX
 -- told
 refine⟨_,J,r,dx,_,J,af.ins,xE (by simp),z,r,dx,v,b,x,pt,ps,so,g0,pr,pn,pw,tab,N,ks,J,af,λp2 tv H2 a5 a6 ay R2=>D _ _ (zt λU D=>?_)⟩;refine⟨_,J,.inl ⟨J,_,Ad.of ay⟩,p2,tv,J,J,ay,D _ _ (zt λU D=>?_)⟩;have V:Aa H1 (c' H2 p2 (.lst [])):=λB o' e=>by rw[zh (zi e a6)];exact a5 _ _ e
 have aj:=af.same V;have az:=a1.same V;have aA:=a2.same V;have aB:=V _ _ a3;have aC:ym tb H (c' H2 p2 (.lst [])):=λB o' h e=>V B o' (a4 B o' h e);generalize c' H2 p2 (.lst [])=ch at aj az aA aB aC;clear V af a1 a2 a3 a4 a5 ay a6 R2
 -- change
 have a7:(x++YP "x").length=x.length+1:=Mg;refine⟨_,J,r,dx,_,J,aj.ins,xE (by simp),_,J,x,J,by exact zC G,_,J,x,_,J,J,?_,?_⟩
 .rw[show (YP "x").length=1 by lia];exact vJ G
 refine⟨z,r,dx,v,b,x,pt,ps,so,g0,pr,pn,pw,tab,N,ks,x++YP "x",[],J,aj,az,aA,ww a7 (Ra G),by omega,aB,by decide,λp4 ci N' g9 he g5 W bP _ _ Y bQ a8 aD a9 ba bR bS bb=>D _ _ (zt λU D=>?_)⟩;have bc:ym tb H bP:=λB o' L e=>by
  refine a8 B o' (λc=>?_) (aC B o' L e);rcases c with c|c|c|c|c
  .exact zi e ai c
  .exact zi e ae c
  .exact zi e ag c
  .exact zi e ah c
  .exact L c
 obtain⟨bT,bU,cj,bd⟩:=bR;subst bU;have bV:W.length+2000<1000000:=by omega
 clear a8 aC aj az aA aB bS bQ
 -- the kinds
 refine⟨_,J,_,J,r,dx,_,J,Y.ins,xE (by simp),z,r,dx,v,b,_,g9,he,so,g0,pr,pn,pw,W,N',g5,J,Y,_,J,r,dx,_,J,Y.ins,T8,z,r,dx,v,b,_,g9,he,so,g0,pr,pn,pw,W,N',g5,0,J,Y,aD,X7 _,λp5 n5 ck be bW bX bf=>⟨by show (3:Nat)<=_;exact X6 _ _,λcm bg=>?_⟩⟩;have aE:=Aa.new (o:=.lst [.ref p4,.str (x++YP "x"),.ref p5]) bg;have aF:=be.trans aE;refine⟨_,J,.lst (n:=3) zd λy ac=>?_,λbY bh=>⟨_,J,yi ?_⟩⟩
 .simp only[S7,QD,or_false] at ac;rcases ac with rfl|rfl|rfl
  .refine .tup (aF _ _ bb) λy ac=>?_;simp only[S7,QD,or_false] at ac;rcases ac with rfl|rfl
   .exact .int _ _
   .exact .int _ _
  .exact .str _ _
  .refine(dy (n:=2) ?_ (bf.mono aE.x)).up;refine QR.mpr λd bZ=>?_;obtain⟨s,_,rfl⟩:=S4.mp bZ;rfl
 have M:=aF.trans bh;have Z:=Y.same M;have ak:=aD.same M;have bi:=a9.same M;have bj:=M _ _ ba;have bk:=M _ _ bd;have bl:ym tb H bY:=λB o' h e=>M B o' (bc B o' h e);clear M aF be aE bh Y aD a9 ba bd bc bb bf bW bg bX;refine⟨_,J,r,dx,_,J,Z.ins,xE (by simp),z,r,dx,v,b,_,g9,he,so,g0,pr,pn,pw,W,N',g5,J,Z,λcn co cp al bm bn bo=>?_⟩;refine⟨_,J,_,J,x,_,J,J,?_,?_⟩
 .rw[show (YP "x").length=1 by lia];exact vJ G
 refine⟨z,v,b,x++YP "x",J,ak.same al,(Z.same al).rb,J0,by exact ww a7 (Ra G),λpl b0 b1 n1 bp am ao ap aa bq=>?_⟩;rw[jT ap Z.run.b'] at aa;refine⟨pl,_,0,_,J,J,Ad.of ao,zy (j:=0) J,z,z,_,.lst (am _ _ bn) (ak.ne bm) (bo.mono am.x),aa,me 3 _,_,J,yi (D _ _ (zt λU D=>?_))⟩;have O:=al.trans am;have aq:=Z.same O;have br:=ak.same O;have bs:=bi.same O;have bt:=O _ _ bj;have bu:=O _ _ bk;have bv:ym tb H bp:=λB o' h e=>O B o' (bl B o' h e);clear O al am Z ak bi bj bk bl aa bq ao bn bm bo ap
 -- None put in
 refine⟨_,J,r,dx,_,J,aq.ins,xE (by simp),z,r,dx,v,b,_,g9,he,so,g0,pr,pn,pw,W,N',g5,J,aq,λar as aG bw bx aH bz=>⟨.inl ⟨J,_,Ad.of aH⟩,ar,as,.non,J,J,aH,?_,D _ _ (zt λU D=>?_)⟩⟩
 .have b2:=bz.length;have cq:=(xm (x:=x++YP "x") J0.2.2.1 J0.1 N').sl;have cr:=(xm (x:=x++YP "x") J0.2.2.1 J0.1 N').le;rw[X5] at b2;omega
 have R:Aa bp (c' aG ar (.lst (as++[.non]))):=λB o' e=>by rw[zh (zi e bx)];exact bw _ _ e
 have au:=aq.same R;have aI:=br.same R;have aJ:=bs.same R;have aK:=R _ _ bt;have aL:=R _ _ bu;have aM:ym tb H (c' aG ar (.lst (as++[.non]))):=λB o' h e=>R B o' (bv B o' h e);generalize c' aG ar (.lst (as++[.non]))=cs at au aI aJ aK aL aM;clear R bw aq br bs bt bu bv bx aH bz
 -- taken back
 refine⟨_,J,r,dx,_,J,au.ins,TZ,z,r,dx,v,b,_,g9,he,so,g0,pr,pn,pw,bT,W,N',g5,x,[],J,au,aI,aJ,zC G,bV,aK,aL,λb3 b4 b5 b6 b7 b8 av cu bA aN b9=>D _ _ ?_⟩;have ca:ym tb H b8:=λB o' L e=>by
  refine bA B o' (λc=>?_) (aM B o' L e);rcases c with c|c|c|c|c
  .exact zi e ai c
  .exact zi e ae c
  .exact zi e ag c
  .exact zi e ah c
  .exact L c
 clear bA aM au aI aJ aK aL;refine⟨_,J,r,dx,_,J,av.ins,xE (by simp),z,r,dx,v,b,_,b4,b5,so,g0,pr,pn,pw,b7,b3,b6,J,av,λcv cw cx aO cb cc cd=>?_⟩;refine⟨_,J,_,J,z,v,b,x,J,aN.same aO,(av.same aO).rb,J0,by exact zC G,λpl b0 b1 n1 cy aP ao ap aa bq=>?_⟩;rw[jT ap av.run.b'] at aa;have aQ:=aO.trans aP;exact⟨pl,_,0,_,J,J,Ad.of ao,zy (j:=0) J,z,z,_,.lst (aP _ _ cc) (aN.ne cb) (cd.mono aP.x),aa,me 3 _,bO _ _ (k _ (λB o' h e=>aQ B o' (ca B o' h e)) (aN.same aQ) (b9.same aQ))⟩
inductive mM(tb:Addr):Sp where
 |mk {vs:List V} {H:Hp} {Q:VK} {E:XK} (z v b x:_) (c1:vs=[v,.str x]) (c2:Am z H) (c3:Aj z H v (yp b)) (c4:yn b) (c5:x.length<=20000) (c6:zO tb H) (c7:∀p fv n H',ym tb H H'->H p=none->H' p=some (.lst fv)->(zb b x n).b'=x.length->Ab z H' fv (wc (zb b x n).ss)->Am z H'->zO tb H'->Q (.ref p) H'):mM tb vs H Q E
theorem Bb:zK ["book","text","signs","place","many","word","tongue","depth"] ["book","text"] (zq je):=zP
theorem Sc(F:Ao K "tongues" "tongues" je f fd)(aC:Cl P w K mg base 6 "steps" ["book","text"] (rB tb)):Ag P w K mg base zD 7 f fd ["book","text"] (mM tb):=by
 refine F.okA Bb λg4 A outer s H vs Q E aD h=>?_;obtain⟨z,v,b,x,rfl,ah,aE,ai,aF,aj,k⟩:=h;have J0:=Bb.nd;obtain⟨aG,aZ,aH,_⟩:=id ai;refine⟨_,ze (zu (i:=2) J0 (zV zf))
  (ze (xu Rn J (xb (zA aC aD (yk 0 1))) (yR J (zF (zw (i:=3) J0) (zF (zw (i:=4) J0) (zF (zw (i:=5) J0) (zF (zw (i:=6) J0) (zF (zw (i:=7) J0) yJ))))))
   (zm (yy (yW U1 Mu Mv gZ (pv 2) (zc (zG Y5 (zV (zc (yl (yk 6 7)) zf)) (pv 4)) zf)))))
  (zm (zB (pv 2)))),?_⟩
 dsimp only[zH,Cx.nox,Cx.wish];have a0:=yV;have a1:=yB;refine⟨X7 _,λp R=>?_⟩;have M:Aa H (c' H p (.lst [])):=Aa.new R;have Y:c' H p (.lst []) p=some (.lst []):=zd;refine⟨_,J,_,J,z,v,b,x,J,ah.same M,aE.mono M.x,ai,aF,aj.same M,λq S n H2 ak aI al am ao ap aq=>?_⟩;obtain⟨ps,aJ⟩:=(aj.same M).tbl;have U:H2 p=some (.lst []):=ak _ _ (zj Y aJ) Y;have ar:p≠z:=ah.ne R;have aK:p≠q:=zi Y aI;obtain⟨a2,aL⟩:=aq.tbl;have a3:p≠tb:=zj U aL (by intro q;cases q);have aM:=cf (x:=x) aH aG n;have aN:=dY b x n;rw[am] at aN;generalize aO:(zb b x n).ss=B at *;have as:S.length=B.length:=by have:=ao.length;simpa using this
 refine⟨q,J,⟨_,Ad.of al⟩,tJ (K:=K) (a:=q) (xs:=S) (λt σ D=>∃Z aa ab ac ad L,σ=[some v,some (.str x),some (.ref p),Z,aa,ab,ac,ad]/\Ac p H2 D/\D p=some (.lst L)/\Ab z D L (wc (B.take t)))
  ⟨none,none,none,none,none,[],J,Ac.refl,U,.nil⟩ (λt σ D _ ⟨_,_,_,_,_,_,_,s,_⟩=>Ad.of (s _ _ aK.symm al)) ?_ ?_⟩
 .rintro t y σ D ht ⟨Z,aa,ab,ac,ad,L,rfl,I,V,O⟩;have W:t<B.length:=by have:=(W5.mp ht).1;exact zU this (RH as)
  have aP:y=S.getD t .non:=by rw[XP,ht];rfl
  obtain⟨a,e,a4,au,_⟩:=qU (qV (t:=t) ao W);have aQ:=I _ _ (zj au U) au;have aR:B.getD t xV∈B:=by
   rw[XP,X1 W];exact RT W
  have a5:=aM _ aR;have av:=U3 B (t+1);rw[dO W,jQ] at av ⊢;rw[X4,Oa] at av;have a6:=O.length;rw[aP,e];generalize a7:B.getD t xV=st at *;refine⟨a,_,J,Ah.of aQ,J,_,_,J,_,_,J,_,_,J,_,_,J,_,_,J,J,?_⟩;refine⟨_,J,.inl ⟨J,_,Ad.of V⟩,_,J,_,J,by show (2:Nat)<=_;exact X6 _ _,λG aw=>⟨by show (1:Nat)<=_;exact Qy _,λp2 aS=>?_⟩⟩;have aT:=Aa.new (o:=.tup [.int st.2.2.2.1,.int st.2.2.2.2]) aw;have ax:=Aa.new (o:=.lst [.ref G]) aS;refine⟨_,J,p2,st.2.1,[.ref G],J,J,zd,by omega,by omega,by show 1*_<=_;omega,λp3 aU=>?_⟩;rw[d6];have ay:=Aa.new (o:=.lst (R3 st.2.1.toNat (.ref G))) aU;have ae:=(aT.trans ax).trans ay;have az:=ae _ _ V;refine⟨p,p3,L,_,J,J,az,zd,by rw[Oa];omega,?_⟩;have aV:G≠z:=by
   obtain⟨aA,aB,af⟩:=ap;exact(zi (I _ _ ar.symm af) aw).symm
  have aW:c' (c' (c' D G (.tup [.int st.2.2.2.1,.int st.2.2.2.2])) p2 (.lst [.ref G])) p3 (.lst (R3 st.2.1.toNat (.ref G))) G=some (.tup [.int st.2.2.2.1,.int st.2.2.2.2]):=ay _ _ (ax _ _ zd);have aX:=O.mono ae.x (z:=z);refine⟨_,_,_,_,_,_,J,(I.trans ae.x).c',zd,?_⟩;refine Ab.updL az (aX.append (dZ (.tup aW aV (.cons (.int _) (.cons (.int _) .nil))) _)) ?_;have:=UI (B.take t++[st]);rw[jQ] at this;exact this
 .rintro σ D ⟨Z,aa,ab,ac,ad,L,rfl,I,V,O⟩;have e:B.take S.length=B:=by rw[as];exact R1
  rw[e,←aO] at O;have aY:Am z D:=by
   obtain⟨aA,aB,af⟩:=ap;exact⟨aA,aB,I _ _ ar.symm af⟩
  exact⟨_,J,k p L n D (λag o h e=>I ag o (zi e R) (ak ag o h (M ag o e))) R V am O aY (aq.sameX U I)⟩
theorem Sd{x:Str}(hi:i<=x.length):((zE b ds x i).map (·.1)).Perm (xP b ds x i):=by
 have B:(zE b ds x i).map (·.1)=((zY b ds).map (·.1)).filter (xc x i):=by
  unfold zE;rw[OJ];congr 1;refine Mh λm _=>?_;exact qJ hi
 rw[B];unfold xP;refine List.Perm.filter _ ?_;unfold zY xw yD;rw[T5,R6,R6];exact List.perm_append_comm
noncomputable def sE(f:Nat×List Str):D:=.tup [.int f.1,.tup (f.2.map D.str)]
theorem Se(f:Nat×List Str):xJ (sE f):=by
 have:∀l:List Str,Av (l.map D.str):=λl=>by
  induction l with
  |nil=>exact .nil
  |cons a r B=>exact .cons (.str _) B
 exact .tup (.cons (.int _) (.cons (.tup (this _)) .nil))
theorem mN:∀fs:List (Nat×List Str),Av (fs.map sE)
 |[]=>.nil
 |f::r=>.cons (Se f) (mN r)
theorem cy{z:Addr}{H:Hp}:∀ {l:List Str},(∀m∈l,m.length<=1000)->Ab z H (l.map V.str) (l.map D.str)
 |[],_=>.nil
 |a::r,h=>.cons (.str _ (h a W8)) (cy λm B=>h m (T7 _ B))
inductive mO(tb:Addr):Sp where
 |mk {vs:List V} {H:Hp} {Q:VK} {E:XK} (z v b x:_) (c1:vs=[v,.str x]) (c2:Am z H) (c3:Aj z H v (yp b)) (c4:yn b) (c5:x.length<=20000) (c6:zO tb H) (c7:∀p fv (L:List (Nat×List Str)) H',ym tb H H'->H p=none->H' p=some (.lst fv)->Ab z H' fv (L.map sE)->Am z H'->zO tb H'->Q (.ref p) H'):mO tb vs H Q E
theorem Sf(ms:List Mk):(RO ms.length).map (λj=>V.str (ms.getD j yq).1)=(ms.map (·.1)).map V.str:=by
 refine Pt (by simp) λi h1 h2=>?_;have B:i<ms.length:=by simpa using h2
 simp[B]
theorem Bz:zK ["book","text","found","doors","place","marks"] ["book","text"] (zq o8):=zP
theorem cz:(["mark","door"]:List Str).Nodup:=by lia
theorem Sg(F:Ao K "forks" "forks" o8 f fd)(T:yu mg)(bd:Cl P w K mg base 3 "fitting_marks" ["book","text","place","doors"] sg)(be:Cl P w K mg base 4 "read_step" ["book","text","place","doors"] (si tb)):Ag P w K mg base zD 5 f fd ["book","text"] (mO tb):=by
 refine F.okA Bz λg4 A outer s H vs Q E aL h=>?_;obtain⟨z,v,b,x,rfl,ao,bf,ap,aq,bg,k⟩:=h;have ab:=Bz.nd;have bh:Ak 3 _:=aL.mono (by decide);obtain⟨ar,cb,ac,_⟩:=id ap;refine⟨_,ze (zu (i:=2) ab (zV zf))
  (ze (zu (i:=3) ab (zV zf))
  (ze (zu (i:=4) ab zg)
  (ze (uw Rn (zZ vb (pv 4) (zT yL (by rfl) T.len b_len (zz 1)) (zR _))
   (ze (uJ (N':=["mark","door"]) (js:=[none,none]) (i:=5) J J ab J (Or.inl J) (yZ (zq o8) (by lia)) trivial
    (xb (zA bd bh (xO 0 1 4 3)))
    (λcl s H fp=>qc 2 rfl (zF (wA (i:=0) cz J (Or.inl J) (Or.inr J)) (zF (wA (i:=1) cz J (Or.inl J) (Or.inr J)) yJ))) (λcl s H fp=>wG) (λcl s H fp=>pv 0))
   (ze (ya (zZ tM (zT xB (by rfl) T.len b_len (zz 5)) zg (zR _))
    (zm (yy (yW U1 S8 S9 xC (pv 2) (zc (yl (zc (pv 4) (zc (vc oB (by rfl) T.tuple v8 (zc (X8 T.sorted T.len (pv 5)) zf)) zf))) zf)))) ye)
   (zm (rV (i:=4) ab J (Or.inl J) (zx Ai (zA be aL (xO 0 1 4 3)) zg (λ_ _=>rfl)) rW)))))
  (zm (zB (pv 2)))))),?_⟩
 dsimp only[zH,Cx.nox,Cx.wish];have cc:=yV;have cd:=yB;refine⟨X7 _,λB ag=>⟨X7 _,λq ah=>?_⟩⟩;have as:=Aa.new (o:=.lst []) ag;have aM:=Aa.new (o:=.lst []) ah;have ai:=as.trans aM;have aN:c' H B (.lst []) B=some (.lst []):=zd;have bi:B≠z:=ao.ne ag;have aO:q≠z:=(ao.same as).ne ah;have aP:q≠B:=(zi aN ah).symm;have bj:H q=none:=as.free ah;refine uy (λσ I=>∃n u,σ=[some v,some (.str x),some (.ref B),some (.ref q),some (.int (zb b x n).b'),u]/\ym tb H I/\Am z I/\Aj z I v (yp b)/\AD z I q (zb b x n).ds/\zO tb I/\∃(J0:List (Nat×List Str)) (D:List V),J0.length<=(zb b x n).b'/\I B=some (.lst D)/\Ab z I D (J0.map sE))
  (λσ I=>match σ[4]? with|some (some (V.int i))=>x.length-i.toNat|_=>0) ⟨0,none,J,λG o _ e=>ai G o e,ao.same ai,bf.mono ai.x,⟨[],zd,.nil⟩,bg.same ai,[],[],X2 _,aM _ _ aN,.nil⟩ ?_ ?_
 .rintro σ I ⟨n,u,rfl,au,av,aQ,aR,aw,J0,D,ce,aS,ax⟩;have Y:=xm (x:=x) ac ar n;have bk:=Y.le;refine⟨_,J,_,J,x,J,by exact zC aq,_,_,J,J,_,J,?_⟩;refine yc (λL=>?_) (λL=>?_)
  .have L:(zb b x n).b'<x.length:=by have:=Qxc L;exact Qs.1 this
   show (xH _ _) _ _ _;refine yT λcf bl _ _ _=>zt λU aj=>?_;have bm:=Y.dl;have cg:=Y.sl;have ay:=Y.bk.ok ac;have ch:D.length=J0.length:=by have:=ax.length;simpa using this
   refine⟨_,J,_,J,_,J,_,J,z,v,b,q,(zb b x n).ds,x,(zb b x n).b',J,av,aQ,ap,aR,ay,λpw aT ci az cj aA aU=>?_⟩;have aB:aT.length=(zE b (zb b x n).ds x (zb b x n).b').length:=by have:=aU.length;simpa using this
   have bn:=Sd (b:=b) (ds:=(zb b x n).ds) (x:=x) (i:=(zb b x n).b') (bk);have aV:∀m∈(zE b (zb b x n).ds x (zb b x n).b').map (·.1),Sm m:=λm aC=>se (x:=x) (i:=(zb b x n).b') ac ay m (T3.mp (bn.mem_iff.mp aC)).1;have aW:(zE b (zb b x n).ds x (zb b x n).b').length<64:=by
    obtain⟨bo,bp,bq⟩:=ue ay ar;have br:(zI (zb b x n).ds).toNat=bo:=by rw[bp];rfl
    have bs:=(ac _ (yE zk bq)).2.1;unfold zE;refine KU (Py _ _) ?_;unfold zY yo;rw[br,X4,X5,X5,Qw];exact bM bs
   refine⟨pw,J,⟨_,Ad.of aA⟩,λO Z=>?_⟩;have aX:pw≠O:=zi aA Z;refine vf (λj=>some (V.str ((zE b (zb b x n).ds x (zb b x n).b').getD j yq).1)) (λσ=>∃bt aY,σ=[bt,aY]) ⟨none,none,J⟩ Z (ww aB (RL aW)) (x8 (xs:=aT) (by rw[zh aX];exact aA) aX) (λj σ M C bu ⟨ck,cm,hw⟩ aD bv=>?_) (λσ M aD aE=>?_)
   .subst hw;obtain⟨a,aY,e,cn,bw,co,cp⟩:=uX ((uY (ms:=zE b (zb b x n).ds x (zb b x n).b') (i:=j) aU (zU bu (RH aB))).mono aD.x);rw[e];refine⟨a,_,J,Ah.of bw,J,_,_,J,_,_,J,J,?_⟩;dsimp only[ve];rw[Qxb rfl];exact⟨_,J,bv _ _ ⟨_,_,J⟩ (Aa.refl _)⟩
   .rw[v7,aB,Sf] at aE;have W:=az.trans aD;have aa:=W _ _ aS;have aZ:=ax.mono W.x (z:=z);have aF:=av.same W;have bx:=aQ.mono W.x (z:=z);have bz:=aR.same W;have bA:=aw.same W;have cq:H O=none:=by
     cases e:H O with
     |none=>rfl
     |some o=>
      exfalso;by_cases L:O=tb
      .obtain⟨cr,bB⟩:=(aw.same az).tbl;rw[L,bB] at Z;cases Z
      .rw[az _ _ (au O o L e)] at Z;cases Z
    have bC:ym tb H M:=λG o h e=>W G o (au G o h e);refine aj _ _ (zt λU aj=>?_);refine⟨_,J,O,_,J,.inl (Ad.of aE),_,_,J,J,_,J,?_⟩;have bD:∀ {G:Addr} {o:HO},H G=some o->G≠B:=λe=>zi e ag;refine yc (λg=>?_) (λg=>?_)
    case' refine_2=>
     obtain⟨R,aG,S,ak,al,a0,ad,ae⟩:∃R,M=R/\Ac B M R/\∃(ak:List (Nat×List Str)) (al:List V),ak.length<=J0.length+1/\R B=some (.lst al)/\Ab z R al (ak.map sE):=⟨M,J,Ac.refl,J0,D,by exact PF _,aa,aZ⟩;rw[aG];refine aj _ _ ?_
    case' refine_1=>
     refine⟨_,J,.inl ⟨J,_,Ad.of aa⟩,_,J,_,J,O,_,J,Ad.of aE,by rw[X5];exact aW,λy bE=>by have:=(aV y bE).2;exact zC this,λpS ys bF bG cs=>?_⟩;have aH:=Aa.new (o:=.lst (ys.map V.str)) bF;refine⟨pS,_,J,.inl ⟨Ad.of zd,λl a1=>⟨by show (2:Nat)<=_;exact X6 _ _,λpt a2=>?_⟩⟩⟩;have a3:=Aa.new (o:=.tup (ys.map V.str)) a1;have a4:=Aa.new (o:=.tup [.int (zb b x n).b',.ref l]) a2;have aI:=(aH.trans a3).trans a4;have a5:=aI _ _ aa;refine⟨B,D,_,J,J,a5,by omega,aj _ _ ?_⟩;have bH:l≠z:=(aF.same aH).ne a1;have bI:pt≠z:=((aF.same aH).same a3).ne a2;have bJ:∀m∈ys,m.length<=1000:=λm aC=>by have:=(aV m (bG.mem_iff.mp aC)).2;exact zC this
     have bK:Aj z (c' (c' (c' M pS (.lst (ys.map V.str))) l (.tup (ys.map V.str))) pt (.tup [.int (zb b x n).b',.ref l])) (.ref pt) (sE ((zb b x n).b',ys)):=.tup zd bI (.cons (.int _) (.cons (.tup (a4 _ _ zd) bH (cy bJ)) .nil));have S:Ac B M (c' (c' (c' (c' M pS (.lst (ys.map V.str))) l (.tup (ys.map V.str))) pt (.tup [.int (zb b x n).b',.ref l])) B (.lst (D++[.ref pt]))):=aI.x.c';have ad:c' (c' (c' (c' M pS (.lst (ys.map V.str))) l (.tup (ys.map V.str))) pt (.tup [.int (zb b x n).b',.ref l])) B (.lst (D++[.ref pt])) B=some (.lst (D++[.ref pt])):=zd;have ae:Ab z (c' (c' (c' (c' M pS (.lst (ys.map V.str))) l (.tup (ys.map V.str))) pt (.tup [.int (zb b x n).b',.ref l])) B (.lst (D++[.ref pt]))) (D++[.ref pt]) ((J0++[((zb b x n).b',ys)]).map sE):=by
      rw[T5];exact Ab.updL a5 ((aZ.mono aI.x).append (.cons bK .nil)) ((mN _).append (mN [_]))
     generalize c' (c' (c' (c' M pS (.lst (ys.map V.str))) l (.tup (ys.map V.str))) pt (.tup [.int (zb b x n).b',.ref l])) B (.lst (D++[.ref pt]))=R at S ad ae;generalize D++[.ref pt]=al at ad ae;have a0:(J0++[((zb b x n).b',ys)]).length<=J0.length+1:=by rw[X4];exact X2 _
     generalize J0++[((zb b x n).b',ys)]=ak at a0 ae
    all_goals
     have a6:Am z R:=by
      obtain⟨aJ,aK,e⟩:=aF;exact⟨aJ,aK,S _ _ bi.symm e⟩
     have a7:=Aj.butL aa S bx (.tup (wa b));have a8:AD z R q (zb b x n).ds:=by
      obtain⟨bL,bN,bO⟩:=bz;exact⟨bL,S _ _ aP bN,Ab.butL aa S bO (vF _)⟩
     have a9:=bA.sameX aa S;have bP:ym tb H R:=λG o h e=>S G o (bD e) (bC G o h e);obtain⟨cu,ba,_⟩:=id a8;obtain⟨ps,am⟩:=a9.tbl;refine⟨_,J,_,J,_,J,_,J,_,J,z,v,b,q,(zb b x n).ds,x,(zb b x n).b',J,a6,aO,a7,ap,a8,Y.bk,L,aq,by exact pX bm (RL L) aq,a9,λp bb af cv bQ bc bR=>?_⟩;obtain⟨cw,p2,p3,p4,p5,cx⟩:=vj (x:=x) ac Y.bk ar L;rw[←qF L] at bc;have bS:=Aj.but2 ba am af a7 (.tup (wa b));have bT:=Ab.but2 ba am af ae (mN _);have bU:=af _ _ aP.symm (zj ad am) ad;have bV:Am z bb:=by
      obtain⟨aJ,aK,e⟩:=a6;exact⟨aJ,aK,af _ _ aO.symm (zj e am) e⟩
     have bW:ym tb H bb:=λG o h e=>af G o (zi e bj) h (bP G o h e);refine⟨p,_,1,_,J,J,Ah.of bQ,zy (j:=1) J,_,_,J,J,?_⟩;have bX:((zb b x n).b':Int)+(zN b (zb b x n).ds x (zb b x n).b' (zL b (zb b x n).ds x (zb b x n).b')).1.2.1=((zb b x (n+1)).b':Int):=by
      rw[uV L];show _=((_+_:Nat):Int);omega
     refine bl _ _ ⟨⟨n+1,some (.ref O),?_,bW,bV,bS,bc,bR,_,_,by omega,bU,bT⟩,?_⟩
     .show [some v,some (.str x),some (.ref B),some (.ref q),some (V.int (((zb b x n).b':Int)+(zN b (zb b x n).ds x (zb b x n).b' (zL b (zb b x n).ds x (zb b x n).b')).1.2.1)),some (.ref O)]=_;rw[bX]
     .show x.length-(((zb b x n).b':Int)+(zN b (zb b x n).ds x (zb b x n).b' (zL b (zb b x n).ds x (zb b x n).b')).1.2.1).toNat<x.length-((zb b x n).b':Int).toNat;omega
  .exact⟨_,J,k B D J0 I au ag aS ax av aw⟩
 .rintro σ I cA cB bY ⟨bZ,b0,b1,b2,b3,b4,b5,b6,b7,b8,aG,b9,ca,h⟩;exact⟨bZ,b0,b1,b2,b3,b4,b5,b6,b7,b8,aG,b9,ca,bY _ _ h⟩
noncomputable def tj(t:Int)(s:zQ):Bool:=decide (s.2.2.2.1=t)&&(decide (s.2.2.1=YP "sign") || decide (s.2.2.1=YP "escape"))
noncomputable def uk(t:Int)(B:List zQ):List zQ:=B.filter (tj t)
noncomputable def wT(s:zQ):Int:=s.1+s.2.1-1
structure BX(n:Nat)(S:List zQ):Prop where
 ord:S.Pairwise (λs t=>s.1+s.2.1<=t.1)
 pos:∀s∈S,0<=s.1/\1<=s.2.1/\s.2.1<=4/\s.1+s.2.1<=n
theorem BX.sub{S B:List zQ}(h:BX n S)(s:B.Sublist S):BX n B:=⟨h.ord.sublist s,λt ht=>h.pos t (s.subset ht)⟩
theorem Si(b:Bk)(ds:List zp)(x:Str)(i:Nat)(m:Str):(zN b ds x i m).1.1=(i:Int):=by
 unfold zN
 repeat' split
 all_goals rfl
theorem cA{b:Bk}{x:Str}(B:∀t∈b,An b.length t)(D:1<=b.length):∀n,BX x.length (zb b x n).ss/\∀s∈(zb b x n).ss,s.1+s.2.1<=(zb b x n).b'
 |0=>⟨⟨.nil,λs hs=>nomatch hs⟩,λs hs=>nomatch hs⟩
 |n+1=>by
  obtain⟨F,G⟩:=cA (x:=x) B D n;have J0:=xm (x:=x) B D n;by_cases h:(zb b x n).b'<x.length
  .obtain⟨L,p2,p3,p4,p5,M⟩:=vj (x:=x) B J0.bk D h;have I:(zN b (zb b x n).ds x (zb b x n).b' (zL b (zb b x n).ds x (zb b x n).b')).1.1=((zb b x n).b':Int):=Si _ _ _ _ _;rw[uV h];refine⟨⟨List.pairwise_append.mpr ⟨F.ord,List.pairwise_singleton _ _,λs hs t ht=>?_⟩,λs hs=>?_⟩,λs hs=>?_⟩
   .rw[RA.mp ht,I];exact G s hs
   .rcases T6.mp hs with hs|hs
    .exact F.pos s hs
    .rw[RA.mp hs,I];exact⟨by exact RC _,L,p2,p3⟩
   .show s.1+s.2.1<=(((zb b x n).b'+_:Nat):Int);rcases T6.mp hs with hs|hs
    .have:=G s hs;exact ar this
    .rw[RA.mp hs,I];exact aH
  .have e:zb b x (n+1)=zb b x n:=by
    show yQ b x (zb b x n)=_;unfold yQ;rw[Qxa h]
   rw[e];exact⟨F,G⟩
noncomputable abbrev wU:zQ:=(0,0,⟨#[]⟩,0,0)
noncomputable def hr(s:zQ):List V:=[.int s.1,.int s.2.1,.str s.2.2.1,.int s.2.2.2.1,.int s.2.2.2.2]
theorem cB{d:zQ}(r:Aj z H v (yb d)):∃a,v=.ref a/\a≠z/\H a=some (.tup (hr d)):=by
 cases r with
 |tup h B r=>
  cases r with
  |cons D r=>
   cases r with
   |cons F r=>
    cases r with
    |cons G r=>
     cases r with
     |cons I r=>
      cases r with
      |cons J0 r=>
       cases r;cases D;cases F;cases G;cases I;cases J0;exact⟨_,J,B,h⟩
theorem Sj(w:Str):oz (.str w) [.str (YP "sign"),.str (YP "escape")]=(decide (w=YP "sign") || decide (w=YP "escape")):=by
 have h:∀a:Str,(a==w)=decide (w=a):=λa=>by
  by_cases e:a=w
  .rw[beq_iff_eq.mpr e,Qxd e.symm]
  .rw[beq_eq_false_iff_ne.mpr e,decide_eq_false (Q3 e)]
 show ((YP "sign"==w) || ((YP "escape"==w) || false))=_;rw[h,h,Iu]
theorem cC(B:List zQ):(RO B.length).map (λi=>B.getD i wU)=B:=by
 refine Pt (by simp) λi h1 h2=>?_;simp[h2]
theorem Sk{D:Type}(q:zQ->Bool)(f:zQ->D)(B:List zQ):((RO B.length).filter λi=>q (B.getD i wU)).map (λi=>f (B.getD i wU))=(B.filter q).map f:=by
 have e:=cC B
 conv=>rhs;rw[←e,OJ,R6]
 rfl
theorem Sl(s:zQ):xJ (yb s):=.tup (.cons (.int _) (.cons (.int _) (.cons (.str _) (.cons (.int _) (.cons (.int _) .nil)))))
inductive mP:Sp where
 |mk {vs:List V} {H:Hp} {Q:VK} {E:XK} (i n:Int) (c1:vs=[.int i,.int n]) (c2:0<=i) (c3:i<n) (c4:Q (.bl true) H):mP vs H Q E
inductive pG(tb:Addr):Sp where
 |mk {vs:List V} {H:Hp} {Q:VK} {E:XK} (z v b x:_) (t:Int) (c1:vs=[v,.str x,.int t]) (c2:Am z H) (c3:Aj z H v (yp b)) (c4:yn b) (c5:x.length<=20000) (c6:0<=t) (c7:t<b.length) (c8:zO tb H) (c9:∀p fv n H',ym tb H H'->H p=none->H' p=some (.lst fv)->(zb b x n).b'=x.length->Ab z H' fv ((uk t (zb b x n).ss).map yb)->Am z H'->zO tb H'->Q (.ref p) H'):pG tb vs H Q E
theorem Sn:zK ["thing","bound"] ["thing","bound"] (zq kW):=zP
theorem So(F:Ao K "is_number_below" "is_number_below" kW f fd)(T:yu mg):Ag P w K mg base zD 1 f fd ["thing","bound"] mP:=by
 refine F.okA Sn λg4 A outer s H vs Q E D h=>?_;obtain⟨i,n,rfl,B,h1,k⟩:=h;refine⟨_,ze (ya (PW.pt (sN (xr (xa (vT T.isinst T.int oI (pv 0)))) (rP (xa (vT T.isinst T.bool km (pv 0)))))) (zm (zB wy)) ye)
  (zm (zB (Yc vO vb zg (pv 0) (pv 1)))),?_⟩
 dsimp only[zH,Cx.nox,Cx.wish];refine⟨_,J,_,_,_,_,J,.int i,Xv K (.int i),_,J,?_⟩;refine yi ⟨_,J,_,_,_,_,J,.int i,Xw K (.int i),_,J,yi ?_⟩;refine⟨_,J,_,_,J,J,_,J,?_⟩;rw[Qxb (Qxd B)];refine⟨_,J,_,_,J,J,?_⟩;show Q (V.bl (decide (i<n))) H;rw[Qxd h1];exact k
theorem Sq:zK ["book","text","tongue"] ["book","text","tongue"] (zq nj):=zP
theorem Sr:(["step","tongue"]:List Str).Nodup:=by lia
theorem Ss(F:Ao K "own_steps" "own_steps" nj f fd)(T:yu mg)(aq:Cl P w K mg base 1 "is_number_below" ["thing","bound"] mP)(ar:Cl P w K mg base 6 "steps" ["book","text"] (rB tb)):Ag P w K mg base zD 7 f fd ["book","text","tongue"] (pG tb):=by
 refine F.okA Sq λg4 A outer s H vs Q E U h=>?_;obtain⟨z,v,b,x,t,rfl,as,J0,W,au,av,aK,Y,k⟩:=h;have aw:Ak 1 _:=U.mono (by decide);refine⟨_,ze (ya (xr (xa (zA aq aw (zc (pv 2) (zc (zT xB (by rfl) T.len b_len (zz 0)) zf))))) wZ ye)
  (zm (zB (xS (N':=["step","tongue"]) (js:=[none,some 2]) J J (yZ (zq nj) (by lia)) ⟨J,Or.inr (Or.inl J),J,trivial⟩
   (xb (zA ar U (yk 0 1)))
   (λcl s H fp=>zw (i:=0) Sr)
   (λcl s H fp=>vt (PW.pt (ut (zZ xI (zx wg (pv 0) zg (λ_ _=>rfl)) (pv 1) (zR _)) (ur (zZ XB (zx wg (pv 0) zg (λ_ _=>rfl)) (yl (yY z0 (yY z0 zf))) J)))))
   (λcl s H fp=>pv 0)))),?_⟩
 dsimp only[zH,Cx.nox,Cx.wish];have aL:=yB;obtain⟨ax,aM,ay,_⟩:=id W;cases J0 with
 |@tup a xs _ Z az aa=>
 have aN:xs.length=b.length:=by have:=aa.length;simpa using this
 have J0:Aj z H (.ref a) (yp b):=.tup Z az aa;refine⟨_,J,_,J,a,xs,J,.inr (Ah.of Z),t,xs.length,J,av,by omega,?_⟩;refine⟨_,J,yi ?_⟩;refine⟨_,J,_,J,z,.ref a,b,x,J,as,J0,W,au,Y,λp L n H2 ab aO M aA ac aB ad=>?_⟩;have aC:=xm (x:=x) ay ax n;have aP:=aC.sl;have ae:L.length=(zb b x n).ss.length:=by have:=ac.length;simpa using this
 obtain⟨ps,ht⟩:=Y.tbl;refine⟨p,J,⟨_,Ad.of M⟩,λB D=>?_⟩;have af:p≠B:=zi M D;refine qI (z:=z) (λj=>tj t ((zb b x n).ss.getD j wU)) (λj=>yb ((zb b x n).ss.getD j wU)) (λσ=>∃u,σ=[u,some (.int t)]) ⟨none,J⟩ D (by omega) (x8 (xs:=L) (by rw[zh af];exact M) af) (λj=>Sl _) (λj σ O aQ aR aD ⟨u,aE⟩ G aF ag=>?_) (λσ O vs G aG ah=>?_)
 .subst aE;have ai:j<(zb b x n).ss.length:=zU aD (RH ae);have R:Aj z O (L.getD j .non) (yb ((zb b x n).ss.getD j wU)):=by
   have:=(ac.mono G.x (z:=z)).get (i:=j) (by simp;exact ai);simpa [ai] using this
  obtain⟨aj,ak,aS,al⟩:=cB R;generalize (zb b x n).ss.getD j wU=st at *;rw[ak];rw[ak] at R;refine⟨_,J,aj,_,3,_,J,J,Ah.of al,zy (j:=3) J,_,J,J,_,J,?_⟩;refine yc (λg=>?_) (λg=>?_)
  .have g:st.2.2.2.1=t:=by
    have:=Qxc g;injection this
   refine⟨_,J,aj,_,2,_,J,J,Ah.of al,zy (j:=2) J,by show (2:Nat)<=_;exact X6 _ _,λlo aH=>?_⟩;refine⟨lo,_,J,.inr (Ah.of zd),J,J,_,J,?_⟩;have S:=Aa.new (o:=.tup [.str (YP "sign"),.str (YP "escape")]) aH;have am:tj t st=oz (.str st.2.2.1) [.str (YP "sign"),.str (YP "escape")]:=by
    rw[Sj];unfold tj;rw[Qxd g,OH]
   refine yc (λI=>?_) (λI=>?_)
   .exact⟨_,J,aF (am.trans I) _ _ _ ⟨_,J⟩ S (R.mono S.x)⟩
   .exact ag (am.trans (Bool.not_eq_true _ |>.mp I)) _ _ ⟨_,J⟩ S
  .have I:tj t st=false:=by
    cases e:tj t st with
    |false=>rfl
    |true=>
     exfalso;unfold tj at e;have q:=Qxc (R0 _ _ |>.mp e).1;exact g (Qxd (by show V.int _=V.int _;rw[q]))
   exact yi (ag I _ _ ⟨_,J⟩ (Aa.refl _))
 .rw[ae,Sk] at ah;have aI:H B=none:=by
   cases e:H B with
   |none=>rfl
   |some o=>
    exfalso;by_cases ao:B=tb
    .obtain⟨aT,aJ⟩:=ad.tbl;rw[ao,aJ] at D;cases D
    .rw[ab B o ao e] at D;cases D
  exact k B vs n O (λap o h e=>G ap o (ab ap o h e)) aI aG aA ah (aB.same G) (ad.same G)
noncomputable def pH(x:Str)(p:Int):Str:=⟨#[x.cps.getD p.toNat 0]⟩
noncomputable def cD(x:Str)(S:List zQ):Str:=ME (YP "") (S.map λs=>pH x (wT s))
noncomputable def Su(S:List zQ):List V:=S.map λs=>V.int (wT s)
theorem cE{D:Type}(f:zQ->D)(B:List zQ):(RO B.length).map (λi=>f (B.getD i wU))=B.map f:=by
 have e:=cC B
 conv=>rhs;rw[←e,R6]
 rfl
theorem Sv{x:Str}(B:∀t∈b,An b.length t)(D:1<=b.length)(t:Int)(n:Nat):BX x.length (uk t (zb b x n).ss):=(cA B D n).1.sub List.filter_sublist
theorem cF{x:Str}(D:∀t∈b,An b.length t)(F:1<=b.length)(t:Int)(n:Nat):(uk t (zb b x n).ss).length<=x.length:=by
 have h1:=Py (tj t) (zb b x n).ss;have B:=xm (x:=x) D F n;have:=B.sl;have:=B.le;unfold uk;omega
theorem Sw{x:Str}{i:Int}(B:0<=i)(h1:i<x.length):xi x.cps.toList i=some (x.cps.getD i.toNat 0):=by
 obtain⟨j,rfl⟩:∃j:Nat,i=(j:Int):=⟨i.toNat,by exact sK B⟩;have D:j<x.cps.size:=by
  have:(x.length:Int)=(x.cps.size:Int):=rfl;exact Qs.1 h1
 refine zy ?_;simp[D]
inductive mQ(tb:Addr):Sp where
 |mk {vs:List V} {H:Hp} {Q:VK} {E:XK} (z v b x:_) (t:Int) (c1:vs=[v,.str x,.int t]) (c2:Am z H) (c3:Aj z H v (yp b)) (c4:yn b) (c5:x.length<=20000) (c6:0<=t) (c7:t<b.length) (c8:zO tb H) (c9:∀p q n H',ym tb H H'->p≠z->q≠z->H' p=some (.tup [.str (cD x (uk t (zb b x n).ss)),.ref q])->H' q=some (.lst (Su (uk t (zb b x n).ss)))->(zb b x n).b'=x.length->Am z H'->zO tb H'->Q (.ref p) H'):mQ tb vs H Q E
theorem Ca:zK ["book","text","tongue","places"] ["book","text","tongue"] (zq qB):=zP
theorem Sx:(["step"]:List Str).Nodup:=by lia
theorem Sy:(["place","text"]:List Str).Nodup:=by lia
theorem Sz(F:Ao K "own" "own" qB f fd)(ax:Cl P w K mg base 7 "own_steps" ["book","text","tongue"] (pG tb)):Ag P w K mg base zD 8 f fd ["book","text","tongue"] (mQ tb):=by
 refine F.okA Ca λg4 A outer s H vs Q E ay h=>?_;obtain⟨z,v,b,x,t,rfl,az,aA,ac,J0,aB,aC,aD,k⟩:=h;have aE:=Ca.nd;refine⟨_,ze (uJ (N':=["step"]) (js:=[none]) (i:=3) J J aE J (Or.inl J) (yZ (zq qB) (by lia)) trivial
   (xb (zA ax ay (uR 0 1 2)))
   (λcl s H fp=>zw (i:=0) Sx) (λcl s H fp=>wG)
   (λcl s H fp=>zG vY (zG yO (zx wg (pv 0) zg (λ_ _=>rfl)) (zx wg (pv 0) zg (λ_ _=>rfl))) zg))
  (zm (zB (yl (zc (yW QM Od Oe Wx z0 (zc
   (xS (N':=["place","text"]) (js:=[none,some 1]) J J (yZ (zq qB) (by lia)) ⟨J,Or.inr (Or.inl J),J,trivial⟩ (xb (pv 3))
    (λcl s H fp=>zw (i:=0) Sy) (λcl s H fp=>wG) (λcl s H fp=>zx rZ (pv 1) (pv 0) (λ_ _=>rfl))) zf)) (zz 3))))),?_⟩
 dsimp only[zH,Cx.nox,Cx.wish];have aQ:=yB;obtain⟨ad,aR,ae,_⟩:=id ac;refine⟨_,J,_,J,_,J,z,v,b,x,t,J,az,aA,ac,J0,aB,aC,aD,λp M n H2 aF aS O aG af R ag=>?_⟩;have aH:=Sv (x:=x) ae ad t n;have ah:=cF (x:=x) ae ad t n;have ai:=k;clear k;have aj:M.length=(uk t (zb b x n).ss).length:=by have:=af.length;simpa using this
 have aI:=λp q H'=>ai p q n H';clear ai;generalize uk t (zb b x n).ss=S at *;refine⟨p,J,⟨_,Ad.of O⟩,λB U=>?_⟩;have ak:p≠B:=zi O U;refine vf (λj=>some (V.int (wT (S.getD j wU)))) (λσ=>∃u,σ=[u]) ⟨none,J⟩ U (by omega) (x8 (xs:=M) (by rw[zh ak];exact O) ak) (λj σ al C W ⟨u,Y⟩ D Z=>?_) (λσ al D G=>?_)
 .subst Y;have I:j<S.length:=zU W (RH aj);have aJ:Aj z al (M.getD j .non) (yb (S.getD j wU)):=by
   have:=(af.mono D.x (z:=z)).get (i:=j) (by simp;exact I);simpa [I] using this
  obtain⟨am,aK,aT,ao⟩:=cB aJ;rw[aK];dsimp only[ve,va];rw[Qxb rfl];exact⟨_,J,am,_,0,_,J,J,Ah.of ao,zy (j:=0) J,_,J,am,_,1,_,J,J,Ah.of ao,zy (j:=1) J,_,_,J,J,_,_,J,J,Z _ _ ⟨_,J⟩ (Aa.refl _)⟩
 .rw[v7,aj,cE (λs=>V.int (wT s))] at G;have aL:=R.same D;have aU:=ag.same D;have aM:B≠z:=R.ne U;refine⟨J,_,J,B,J,⟨_,Ad.of G⟩,λaa ap=>?_⟩;have aq:B≠aa:=zi G ap;refine vf (λj=>some (V.str (pH x (wT (S.getD j wU))))) (λσ=>∃u,σ=[u,some (.str x)]) ⟨none,J⟩ ap (by rw[X5];exact bt (Ra ah) (Ra J0)) (x8 (xs:=S.map λs=>V.int (wT s)) (by rw[zh aq];exact G) aq) (λj σ ar C W ⟨u,Y⟩ L Z=>?_) (λσ ar L as=>?_)
  .subst Y;have I:j<S.length:=by simpa using W
   have aN:(S.map λs=>V.int (wT s)).getD j .non=V.int (wT (S.getD j wU)):=by simp[I]
   have aV:=aH.pos (S.getD j wU) (by simp[I]);rw[aN];dsimp only[ve,va];rw[Qxb rfl];exact⟨_,J,_,J,x,_,_,J,J,by exact zC J0,Sw (by unfold wT;omega) (by unfold wT;omega),Z _ _ ⟨_,J⟩ (Aa.refl _)⟩
  .rw[v7,X5,cE (λs=>V.str (pH x (wT s)))] at as;have aO:ar aa=some (.lst ((S.map λs=>pH x (wT s)).map V.str)):=by rw[as,R6];rfl
   refine⟨_,aa,S.map λs=>pH x (wT s),J,J,Ad.of aO,by rw[X5];exact S5 ah J0,by lia,λy aP=>?_,?_⟩
   .obtain⟨s',_,rfl⟩:=S4.mp aP;exact(by decide:(1:Nat)<=100)
   .refine⟨_,J,by show (2:Nat)<=_;exact X6 _ _,λpt au=>?_⟩;have av:=Aa.new (o:=.tup [.str (cD x S),.ref B]) au;have ab:=(D.trans L).trans av;exact aI pt B _ (λaw o h e=>ab aw o (aF aw o h e)) ((aL.same L).ne au) aM zd ((L.trans av) _ _ G) aG (R.same ab) (ag.same ab)
theorem SA(h:i<=j)(B:j<=xs.length):xh xs (some (i:Int)) (some (j:Int))=(xs.drop i).take (j-i):=by
 unfold xh;rw[HT.sIx_nat,HT.sIx_nat,show min i xs.length=i by exact bv h B,show min j xs.length=j by exact iL B]
inductive mR(tb:Addr):Sp where
 |mk {vs:List V} {H:Hp} {Q:VK} {E:XK} (z v b x:_) (t:Int) (c1:vs=[v,.str x,.int t,.int 0,.int 0]) (c2:Am z H) (c3:Aj z H v (yp b)) (c4:yn b) (c5:x.length<=20000) (c6:0<=t) (c7:t<b.length) (c8:zO tb H) (c12:∀p H',ym tb H H'->p≠z->H' p=some (.lst [])->Am z H'->zO tb H'->Q (.ref p) H'):mR tb vs H Q E
theorem Cc:zK ["book","text","tongue","begin","end","found","stretches","place","many","word","owner","depth","first"] ["book","text","tongue","begin","end"] (zq jj):=zP
theorem SD(F:Ao K "led_back" "led_back" jj f fd)(T:yu mg)(V:Cl P w K mg base 7 "own_steps" ["book","text","tongue"] (pG tb)):Ag P w K mg base zD 8 f fd ["book","text","tongue","begin","end"] (mR tb):=by
 refine F.okA Cc λg4 A outer s H vs Q E W h=>?_;obtain⟨z,v,b,x,t,rfl,Y,Z,L,aa,ab,ac,ad,k⟩:=h;have B:=Cc.nd;refine⟨_,ze (zu (i:=5) B (zA V W (uR 0 1 2)))
  (ze (ya (xr (fS vO vO vO zg (pv 3) (pv 4) (zT xB (by rfl) T.len b_len (zz 5)))) wZ ye)
  (ze (zu (i:=6) B (zV zf))
  (ze (xu Rn J (xb (x0 tP (pv 5) (xz (pv 3)) (xz (pv 4)))) (yR J (zF (zw (i:=7) B) (zF (zw (i:=8) B) (zF (zw (i:=9) B) (zF (zw (i:=10) B) (zF (zw (i:=11) B) yJ))))))
   wZ)
  (zm (zB (pv 6)))))),?_⟩
 dsimp only[zH,Cx.nox,Cx.wish];have as:=yB;obtain⟨ae,au,af,_⟩:=id L;refine⟨_,J,_,J,_,J,z,v,b,x,t,J,Y,Z,L,aa,ab,ac,ad,λp G n1 H2 ag av M aw ah O ai=>?_⟩;have ax:=cF (x:=x) af ae t n1;have ay:G.length=(uk t (zb b x n1).ss).length:=by have:=ah.length;simpa using this
 refine⟨_,J,_,_,J,J,_,J,?_⟩;rw[Qxb (Qxd (by exact RC _))];refine⟨_,J,_,_,J,J,_,J,?_⟩;rw[Qxb (Qxd (by exact RC _))];refine⟨_,J,p,_,J,.inl (Ad.of M),_,_,J,J,_,J,?_⟩;rw[Qxd (show (0:Int)<=(G.length:Int) by exact RC _)];refine yi ?_;refine⟨X7 _,λD R=>?_⟩;have S:=Aa.new (o:=.lst []) R;have aj:c' H2 D (.lst []) D=some (.lst []):=zd;refine⟨_,J,_,J,_,J,_,J,_,J,p,G,J,Ad.of (S _ _ M),λl U=>?_⟩;have ak:xh G (some 0) (some 0)=[]:=by
  have q:=SA (xs:=G) (i:=0) (j:=0) (X2 _) (X7 _);simpa using q
 rw[ak];have J0:=(S.trans (Aa.new (o:=.lst []) U));have al:c' (c' H2 D (.lst [])) l (.lst []) l=some (.lst []):=zd;have am:=Aa.new (o:=.lst []) U _ _ aj;refine⟨l,J,⟨_,Ad.of zd⟩,?_⟩;refine tJ (xs:=[]) (λe σ I=>σ=[some v,some (.str x),some (.int t),some (.int 0),some (.int 0),some (.ref p),some (.ref D),none,none,none,none,none,none]/\I=c' (c' H2 D (.lst [])) l (.lst [])) ⟨J,J⟩ (λe σ I _ ⟨_,ao⟩=>Ad.of (ao ▸ al)) (λe y σ I ap _=>by simp at ap) ?_;rintro σ I ⟨rfl,rfl⟩;exact⟨_,J,k D _ (λaq o ar e=>J0 _ _ (ag aq o ar e)) (O.ne R) am (O.same J0) (ai.same J0)⟩
section
variable (b:Bk)(x:Str)
noncomputable def tm:Nat->List zp->Nat->Nat
 |0,ds,i=>if i=x.length/\ds=[] then 1 else 0
 |f+1,ds,i=>
  if x.length<=i then (if i=x.length/\ds=[] then 1 else 0)
  else if zE b ds x i=[] then (if (yz b ds x i).2.2.1=YP "cut" then 0 else tm f ds (i+(yz b ds x i).2.1.toNat))
  else ((zE b ds x i).map λy=>tm f (yH ds i y.1 y.2).2 (i+y.1.length)).sum
noncomputable def cn(ds:List zp)(i:Nat):Nat:=tm b x (x.length-i) ds i
end
theorem tu(b:Bk)(ds:List zp)(x:Str)(i:Nat):1<=(yz b ds x i).2.1.toNat/\(yz b ds x i).2.1.toNat<=2/\((yz b ds x i).2.1.toNat:Int)=(yz b ds x i).2.1/\(i<x.length->i+(yz b ds x i).2.1.toNat<=x.length):=by
 unfold yz;split
 .split
  .exact⟨(by decide:(1:Nat)<=2),X2 2,J,λ_=>by show i+2<=_;omega⟩
  .exact⟨X2 1,(by decide:(1:Nat)<=2),J,λ_=>by show i+1<=_;omega⟩
 .exact⟨X2 1,(by decide:(1:Nat)<=2),J,λ_=>by show i+1<=_;omega⟩
theorem rH(h:y∈zE b ds x i):i+y.1.length<=x.length:=by
 have:=(T3.mp h).2;unfold xk at this;rw[R0] at this;exact Qxc this.1
theorem tw(B:∀t∈b,An b.length t)(D:wn b ds){y:Mk}(h:y∈zY b ds):Sm y.1:=se (x:=⟨#[]⟩) (i:=0) B D _ (qK h)
theorem sF(F:As b ds)(G:y∈zY b ds):As b (yH ds i y.1 y.2).2:=by
 obtain⟨m,o⟩:=y;cases o with
 |none=>exact λd B=>F d (Nu _ B)
 |some J0=>
  intro d B;rcases T6.mp B with h|h
  .exact F d h
  .rw[RA.mp h];unfold zY at G;rcases T6.mp G with h|h
   .obtain⟨_,_,e⟩:=S4.mp h;injection e with _ e;cases e
   .obtain⟨d',D,e⟩:=S4.mp h;injection e with _ e;injection e with e;subst e;by_cases I:(zI ds).toNat<b.length
    .exact⟨_,yE zk I,d',D,J,J⟩
    .have e:b.getD (zI ds).toNat zk=zk:=by simp[I]
     rw[e] at D;cases D
theorem cG(G:∀t∈b,An b.length t):∀(f g:Nat) (ds:List zp) (i:Nat),As b ds->x.length-i<=f->x.length-i<=g->tm b x f ds i=tm b x g ds i:=by
 have D:∀(g:Nat) (ds:List zp) (i:Nat),x.length<=i->tm b x g ds i=if i=x.length/\ds=[] then 1 else 0:=λg ds i h=>by
  cases g with
  |zero=>rfl
  |succ g=>unfold tm;rw[Qxb h]
 intro f;induction f with
 |zero=>
  intro g ds i _ h1 _;rw[D g ds i (by omega)];rfl
 |succ f I=>
  intro g ds i F h1 h2;by_cases hi:x.length<=i
  .rw[D _ ds i hi,D _ ds i hi]
  .cases g with
   |zero=>omega
   |succ g=>
    unfold tm;rw[Qxa hi,Qxa hi];obtain⟨J0,p2,_,_⟩:=tu b ds x i;by_cases B:zE b ds x i=[]
    .rw[Qxb B,Qxb B];split
     .rfl
     .exact I g ds _ F (by exact iO h1 J0) (by exact iO h2 J0)
    .rw[Qxa B,Qxa B];congr 1;refine PQ λy L=>?_;have O:=tw G (F.ok G) (T3.mp L).1;have M:=O.1;refine I g _ _ ?_ (by exact iM h1 M) (by exact iM h2 M);exact sF F (T3.mp L).1
theorem cH(ds:List zp):cn b x ds x.length=if ds=[] then 1 else 0:=by
 unfold cn;rw[Ox];show (if x.length=x.length/\ds=[] then 1 else 0)=_;simp
theorem mS(D:∀t∈b,An b.length t)(F:As b ds)(hi:i<x.length)(G:zE b ds x i=[]):cn b x ds i=if (yz b ds x i).2.2.1=YP "cut" then 0 else cn b x ds (i+(yz b ds x i).2.1.toNat):=by
 obtain⟨I,p2,_,_⟩:=tu b ds x i;unfold cn;obtain⟨f,B⟩:∃f,x.length-i=f+1:=⟨x.length-i-1,by exact iN hi⟩;rw[B];show (if _ then _ else _)=_;rw[Qxa (NN.2 hi),Qxb G];split
 .rfl
 .exact cG D _ _ ds _ F (by exact ak I B) (X2 _)
theorem pI(B:∀t∈b,An b.length t)(D:As b ds)(hi:i<x.length)(I:zE b ds x i≠[]):cn b x ds i=((zE b ds x i).map λy=>cn b x (yH ds i y.1 y.2).2 (i+y.1.length)).sum:=by
 unfold cn;obtain⟨f,F⟩:∃f,x.length-i=f+1:=⟨x.length-i-1,by exact iN hi⟩;rw[F];show (if _ then _ else _)=_;rw[Qxa (NN.2 hi),Qxa I];congr 1;refine PQ λy G=>?_;have J0:=tw B (D.ok B) (T3.mp G).1;have L:=J0.1;exact cG B _ _ _ _ (sF D (T3.mp G).1) (by exact aG F L) (X2 _)
theorem SE{l:List Nat}:0<l.sum↔∃n∈l,0<n:=by
 induction l with
 |nil=>simp
 |cons a r B=>
  rw[Mw];constructor
  .intro h;by_cases g:0<a
   .exact⟨a,W8,g⟩
   .obtain⟨n,hn,h'⟩:=B.mp (by omega);exact⟨n,T7 _ hn,h'⟩
  .rintro⟨n,hn,h⟩;rcases S7.mp hn with e|hn
   .rw[←e];omega
   .have:=B.mpr ⟨n,hn,h⟩;omega
noncomputable abbrev Rm:=Int×Str
noncomputable abbrev zS:Rm:=(0,YP "")
variable {R:Rm}{rs:List Rm}
noncomputable def yr(R:Rm):List zp:=if R=zS then [] else [((0:Int),R.1,R.2)]
noncomputable def vo(ds:List zp):Rm:=match ds.getLast? with
 |some d=>d.2
 |none=>zS
theorem iA(h:wn b ds){d:zp}(B:d∈ds):d.2≠zS:=λe=>by
 have h1:=(h d B).2.1;rw[e] at h1;exact absurd h1 (by lia)
theorem cI(ds:List zp)(d:zp):yo (ds++[d])=[d]:=by
 unfold yo;rw[X4,Pc,Nat.add_sub_cancel,Ih]
theorem cJ(ds:List zp)(d:zp):zI (ds++[d])=d.2.1:=by
 unfold zI;rw[Kt];rfl
theorem sG(ds:List zp)(d:zp):vo (ds++[d])=d.2:=by
 unfold vo;rw[Kt];rfl
theorem pJ(h:ds≠[]):∃B d,ds=B++[d]:=⟨ds.dropLast,ds.getLast h,(List.dropLast_concat_getLast h).symm⟩
theorem SF(h:wn b ds):zY b ds=zY b (yr (vo ds)):=by
 by_cases e:ds=[]
 .subst e;show _=zY b (if zS=zS then [] else _);rw[Qxb rfl]
 .obtain⟨B,d,rfl⟩:=pJ e;rw[sG];unfold yr;rw[Qxa (iA h (S2 _ W8))];unfold zY;rw[cI,cJ];rfl
theorem pK(h:wn b ds)(i:Nat):zE b ds x i=zE b (yr (vo ds)) x i:=by
 unfold zE;rw[SF h]
theorem SG(h:wn b ds):zI ds=zI (yr (vo ds)):=by
 by_cases e:ds=[]
 .subst e;show _=zI (if zS=zS then [] else _);rw[Qxb rfl]
 .obtain⟨B,d,rfl⟩:=pJ e;rw[sG];unfold yr;rw[Qxa (iA h (S2 _ W8)),cJ];rfl
theorem cK(h:wn b ds)(i:Nat):(yz b ds x i).2.1=(yz b (yr (vo ds)) x i).2.1/\(yz b ds x i).2.2.1=(yz b (yr (vo ds)) x i).2.2.1:=by
 unfold yz;rw[←SG h];split
 .split
  .exact⟨J,J⟩
  .exact⟨J,J⟩
 .exact⟨J,J⟩
inductive Sh(b:Bk)(x:Str):Rm->Nat->Nat->Prop where
 |out:Sh b x zS x.length x.length
 |plain {R:Rm} {i e:Nat} (hi:i<x.length) (hf:zE b (yr R) x i=[]) (hc:(yz b (yr R) x i).2.2.1≠YP "cut") (h:Sh b x R (i+(yz b (yr R) x i).2.1.toNat) e):Sh b x R i e
 |close {R:Rm} {i:Nat} {m:Str} (hi:i<x.length) (hy:((m,none):Mk)∈zE b (yr R) x i):Sh b x R i (i+m.length)
 |opn {R:Rm} {i k e:Nat} {m:Str} {d:Dr} (hi:i<x.length) (hy:((m,some d):Mk)∈zE b (yr R) x i) (h1:Sh b x d.2 (i+m.length) k) (h2:Sh b x R k e):Sh b x R i e
noncomputable def pL(b:Bk)(x:Str):List Rm->Nat->Prop
 |[],_=>True
 |R::rs,i=>∃e,Sh b x R i e/\pL b x rs e
noncomputable def xp(ds:List zp):List Rm:=(ds.map (·.2)).reverse++[zS]
theorem mT(ds:List zp)(d:zp):xp (ds++[d])=d.2::xp ds:=by
 unfold xp;rw[T5,KJ];rfl
theorem SH{b:Bk}:∃rs,xp ds=vo ds::rs:=by
 by_cases e:ds=[]
 .subst e;exact⟨[],J⟩
 .obtain⟨B,d,rfl⟩:=pJ e;exact⟨xp B,by rw[mT,sG]⟩
theorem mU{m:Str}(h:((m,none):Mk)∈zY b ds):∃D d,ds=D++[d]/\d.2.2=m:=by
 unfold zY at h;rcases T6.mp h with h|h
 .obtain⟨d,B,e⟩:=S4.mp h;injection e with e;have F:ds≠[]:=λq=>by rw[q] at B;cases B
  obtain⟨D,d',rfl⟩:=pJ F;rw[cI] at B;rw[RA.mp B] at e;exact⟨D,d',J,e⟩
 .obtain⟨_,_,e⟩:=S4.mp h;injection e with _ e;cases e
theorem mV{D:Type}{l:List D}{g:D->Nat}:0<(l.map g).sum↔∃y∈l,0<g y:=by
 rw[SE];constructor
 .rintro⟨n,F,h⟩;obtain⟨y,B,rfl⟩:=S4.mp F;exact⟨y,B,h⟩
 .rintro⟨y,B,h⟩;exact⟨_,Qz B,h⟩
theorem SI(G:∀t∈b,An b.length t):∀(f:Nat) (ds:List zp) (i:Nat),As b ds->x.length-i=f->i<=x.length->0<cn b x ds i->pL b x (xp ds) i:=by
 intro f;induction f using Nat.strongRecOn with
 |ind f Y=>
  intro ds i F Z hi B;have I:=F.ok G;by_cases aa:i=x.length
  .subst aa;rw[cH] at B;have e:ds=[]:=by
    by_cases e:ds=[]
    .exact e
    .rw[Qxa e] at B;cases B
   subst e;exact⟨_,.out,trivial⟩
  .have D:i<x.length:=Qn hi aa;obtain⟨rs,M⟩:=SH (b:=b) (ds:=ds);by_cases O:zE b ds x i=[]
   .rw[mS G F D O] at B;obtain⟨ab,p2,p3,p4⟩:=tu b ds x i;by_cases hw:(yz b ds x i).2.2.1=YP "cut"
    .rw[Qxb hw] at B;cases B
    .rw[Qxa hw] at B;have h:=Y _ (by have:=p4 D;exact bC Z ab this) ds _ F rfl (p4 D) B;rw[M] at h ⊢;obtain⟨e,h1,h2⟩:=h;obtain⟨q1,ac⟩:=cK (x:=x) I i;rw[q1] at h1;rw[ac] at hw;exact⟨e,.plain D (by rw[←pK I];exact O) hw h1,h2⟩
   .rw[pI G F D O,mV] at B;obtain⟨⟨m,o⟩,R,ad⟩:=B;have S:=(T3.mp R).1;have J0:=rH R;have U:=(tw G I S).1;have J0:i+m.length<=x.length:=J0;have U:1<=m.length:=U;have h:=Y _ (by exact bN Z J0 U) _ _ (sF (i:=i) F S) rfl J0 ad;have V:((m,o):Mk)∈zE b (yr (vo ds)) x i:=by rw[←pK I];exact R
    cases o with
    |none=>
     obtain⟨L,d,rfl,rfl⟩:=mU S;have e:(yH (L++[d]) i d.2.2 none).2=L:=by show (L++[d]).dropLast=L;simp
     rw[e] at h;rw[mT];rw[sG] at V;exact⟨_,.close D V,h⟩
    |some W=>
     have e:(yH ds i m (some W)).2=ds++[((i:Int),W.2.1,W.2.2)]:=rfl;rw[e,mT,M] at h;obtain⟨k,h1,ae,h2,af⟩:=h;rw[M];exact⟨ae,.opn D V h1 h2,af⟩
theorem vV(F:∀t∈b,An b.length t){R:Rm}{i e:Nat}(h:Sh b x R i e):e<=x.length/\i<=e/\(R=zS->e=x.length/\0<cn b x [] i)/\∀ds d,d.2=R->As b (ds++[d])->0<cn b x ds e->0<cn b x (ds++[d]) i:=by
 have U:As b []:=λd B=>by cases B
 induction h with
 |out=>
  refine⟨X2 _,X2 _,λ_=>⟨J,by rw[cH,Qxb rfl];exact Nat.one_pos⟩,λds d e B _=>absurd e (iA (B.ok F) (S2 _ W8))⟩
 |@plain R i e hi M O h aa=>
  obtain⟨W,ab,V,S⟩:=aa;refine⟨W,by omega,λg=>⟨(V g).1,?_⟩,λds d g B L=>?_⟩
  .subst g;have M:zE b [] x i=[]:=M;have O:(yz b [] x i).2.2.1≠YP "cut":=O;rw[mS F U hi M,Qxa O];exact(V J).2
  .have I:=B.ok F;obtain⟨q1,Y⟩:=cK (x:=x) I i;have ht:vo (ds++[d])=R:=by rw[sG,g]
   rw[ht] at q1 Y;rw[mS F B hi (by rw[pK I,ht];exact M),Qxa (by rw[Y];exact O),q1];exact S ds d g B L
 |@close R i m hi D=>
  have ac:i+m.length<=x.length:=rH D;refine⟨ac,by exact Ov _ _,λg=>?_,λds d g B L=>?_⟩
  .subst g;have D:((m,none):Mk)∈zE b [] x i:=D;obtain⟨ah,d,e,_⟩:=mU (T3.mp D).1;exact absurd e (by simp)
  .have I:=B.ok F;have ht:vo (ds++[d])=R:=by rw[sG,g]
   have G:((m,none):Mk)∈zE b (ds++[d]) x i:=by rw[pK I,ht];exact D
   rw[pI F B hi (λq=>by rw[q] at G;cases G),mV];refine⟨_,G,?_⟩;have e:(yH (ds++[d]) i m none).2=ds:=by show (ds++[d]).dropLast=ds;simp
   show 0<cn b x (yH (ds++[d]) i m none).2 _;rw[e];exact L
 |@opn R i k e m J0 hi D h1 h2 ad ae=>
  obtain⟨W,ab,V,S⟩:=ad;obtain⟨af,ai,Z,ag⟩:=ae;refine⟨af,by omega,λg=>⟨(Z g).1,?_⟩,λds d g B L=>?_⟩
  .subst g;have D:((m,some J0):Mk)∈zE b [] x i:=D;rw[pI F U hi (λq=>by rw[q] at D;cases D),mV];exact⟨_,D,S [] ((i:Int),J0.2.1,J0.2.2) J (sF (i:=i) U (T3.mp D).1) (Z J).2⟩
  .have I:=B.ok F;have ht:vo (ds++[d])=R:=by rw[sG,g]
   have G:((m,some J0):Mk)∈zE b (ds++[d]) x i:=by rw[pK I,ht];exact D
   rw[pI F B hi (λq=>by rw[q] at G;cases G),mV];exact⟨_,G,S (ds++[d]) ((i:Int),J0.2.1,J0.2.2) J (sF (i:=i) B (T3.mp G).1) (ag ds d g B L)⟩
theorem cL(D:∀t∈b,An b.length t):∀(n:Nat) (ds:List zp) (i:Nat),ds.length=n->As b ds->pL b x (xp ds) i->0<cn b x ds i
 |0,ds,i,B,F,h=>by
  have e:ds=[]:=OW.mp B;subst e;obtain⟨e,h1,_⟩:=h;exact((vV D h1).2.2.1 rfl).2
 |n+1,ds,i,B,F,h=>by
  obtain⟨G,d,rfl⟩:=pJ (ds:=ds) (λq=>by rw[q] at B;cases B);rw[mT] at h;obtain⟨e,h1,h2⟩:=h;have I:As b G:=λd' h'=>F d' (RW _ h');exact(vV D h1).2.2.2 G d rfl F (cL D n G e (by simpa using B) I h2)
theorem SJ(B:∀t∈b,An b.length t){ds:List zp}{i:Nat}(D:As b ds)(hi:i<=x.length):0<cn b x ds i↔pL b x (xp ds) i:=
 ⟨SI B _ ds i D J hi,cL B _ ds i J D⟩
inductive tz(b:Bk)(x:Str):List zQ->List zp->Nat->Prop where
 |nil:tz b x [] [] 0
 |plain {ss:List zQ} {ds:List zp} {i:Nat} (h:tz b x ss ds i) (hi:i<x.length) (hf:zE b ds x i=[]) (hc:(yz b ds x i).2.2.1≠YP "cut"):tz b x (ss++[yz b ds x i]) ds (i+(yz b ds x i).2.1.toNat)
 |mark {ss:List zQ} {ds:List zp} {i:Nat} (y:Mk) (h:tz b x ss ds i) (hi:i<x.length) (hy:y∈zE b ds x i):tz b x (ss++[(yH ds i y.1 y.2).1]) (yH ds i y.1 y.2).2 (i+y.1.length)
theorem pM{F:List zQ}(h:tz b x F ds i):As b ds/\i<=x.length/\ds.length<=F.length:=by
 induction h with
 |nil=>exact⟨λd I=>(by cases I),X7 _,X2 _⟩
 |plain h hi J0 L D=>
  obtain⟨h1,h2,B⟩:=D;exact⟨h1,(tu b _ x _).2.2.2 hi,by rw[X4];exact R9 B⟩
 |mark y h hi G D=>
  obtain⟨h1,h2,B⟩:=D;refine⟨sF h1 (T3.mp G).1,rH G,?_⟩;rw[X4,Pc];obtain⟨m,o⟩:=y;cases o with
  |none=>show (List.dropLast _).length<=_;rw[Oq];exact iT B
  |some d=>show (_++[_]:List zp).length<=_;rw[X4,Pc];exact Ra B
theorem SK(F:∀t∈b,An b.length t){B:List zQ}{ds:List zp}{i:Nat}(h:tz b x B ds i):B.length<=i:=by
 induction h with
 |nil=>exact X2 _
 |@plain B ds i h hi I J0 D=>
  have:=(tu b ds x i).1;rw[X4,Pc];exact O8 D this
 |mark y h hi G D=>
  have:=(tw F ((pM h).1.ok F) (T3.mp G).1).1;rw[X4,Pc];exact O8 D this
noncomputable def g8(b:Bk)(x:Str)(ds:List zp)(i:Nat):List Mk:=(zE b ds x i).filter λy=>decide (0<cn b x (yH ds i y.1 y.2).2 (i+y.1.length))
structure vW where
 b':Nat
 ds:List zp
 ss:List zQ
 ts:List Nat
noncomputable def xy(b:Bk)(x:Str)(turn:Option Nat)(s:vW):vW:=
 if s.b'<x.length then
  let h:=g8 b x s.ds s.b';let B:=if 1<h.length then s.ts++[s.b'] else s.ts
  if h=[] then ⟨s.b'+(yz b s.ds x s.b').2.1.toNat,s.ds,s.ss++[yz b s.ds x s.b'],B⟩
  else let y:=h.getD (if some s.b'=turn then 1 else 0) yq
   ⟨s.b'+y.1.length,(yH s.ds s.b' y.1 y.2).2,s.ss++[(yH s.ds s.b' y.1 y.2).1],B⟩
 else s
noncomputable def zM(b:Bk)(x:Str)(turn:Option Nat):Nat->vW
 |0=>⟨0,[],[],[]⟩
 |k+1=>xy b x turn (zM b x turn k)
theorem cM{B:Type}(g:B->Nat):∀l:List B,(l.map g).sum=((l.filter λy=>decide (0<g y)).map g).sum
 |[]=>rfl
 |a::r=>by
  rw[RD,Mw,cM g r];by_cases h:0<g a
  .rw[PX (by simpa using h),RD,Mw]
  .rw[OV (by simpa using h)];omega
theorem SM(B:∀t∈b,An b.length t)(D:As b ds)(hi:i<x.length)(F:zE b ds x i≠[]):cn b x ds i=((g8 b x ds i).map λy=>cn b x (yH ds i y.1 y.2).2 (i+y.1.length)).sum:=by
 rw[pI B D hi F,cM];rfl
theorem cN(F:∀t∈b,An b.length t)(G:As b ds)(hi:i<x.length)(B:0<cn b x ds i):g8 b x ds i=[]↔zE b ds x i=[]:=by
 constructor
 .intro h;by_cases D:zE b ds x i=[]
  .exact D
  .rw[SM F G hi D,h] at B;cases B
 .intro h;unfold g8;rw[h];rfl
theorem iB(h:y∈g8 b x ds i):y∈zE b ds x i/\0<cn b x (yH ds i y.1 y.2).2 (i+y.1.length):=⟨(T3.mp h).1,by simpa using (T3.mp h).2⟩
structure tE(b:Bk)(x:Str)(s:vW):Prop where
 pth:tz b x s.ss s.ds s.b'
 pos:0<cn b x s.ds s.b'
theorem cO(D:∀t∈b,An b.length t){turn:Option Nat}{s:vW}(h:tE b x s)(ht:some s.b'=turn->1<(g8 b x s.ds s.b').length):tE b x (xy b x turn s):=by
 unfold xy;by_cases hi:s.b'<x.length
 .rw[Qxb hi];obtain⟨F,_⟩:=pM h.pth;dsimp only;by_cases B:g8 b x s.ds s.b'=[]
  .have G:=(cN D F hi h.pos).mp B;rw[Qxb B,B];have I:=h.pos;have J0:=mS D F hi G;have L:(yz b s.ds x s.b').2.2.1≠YP "cut":=λq=>by rw[J0,Qxb q] at I;cases I
   rw[Qxa L] at J0;exact⟨.plain h.pth hi G L,by rw[←J0];exact I⟩
  .rw[Qxa B];have G:zE b s.ds x s.b'≠[]:=λq=>B ((cN D F hi h.pos).mpr q);obtain⟨j,M⟩:∃j,j=if some s.b'=turn then 1 else 0:=⟨_,J⟩;rw[←M];have O:j<(g8 b x s.ds s.b').length:=by
    rw[M];split
    .rename_i g;exact ht g
    .exact QA.mpr B
   have R:(g8 b x s.ds s.b').getD j yq∈g8 b x s.ds s.b':=by rw[XP,X1 O];exact RT O
   obtain⟨S,U⟩:=iB R;exact⟨.mark _ h.pth hi S,U⟩
 .rw[Qxa hi];exact h
theorem cP(B:0<cn b x [] 0):tE b x ⟨0,[],[],[]⟩:=⟨.nil,B⟩
theorem mW(B:∀t∈b,An b.length t)(D:0<cn b x [] 0):∀k,tE b x (zM b x none k)
 |0=>cP D
 |k+1=>cO B (mW B D k) (λh=>by cases h)
theorem mX{s:vW}(D:∀t∈b,An b.length t)(h:tE b x s)(ht:some s.b'=turn->1<(g8 b x s.ds s.b').length)(hi:s.b'<x.length):s.b'<(xy b x turn s).b':=by
 unfold xy;rw[Qxb hi];dsimp only;obtain⟨G,_⟩:=pM h.pth;by_cases B:g8 b x s.ds s.b'=[]
 .rw[Qxb B];have:=(tu b s.ds x s.b').1;show s.b'<s.b'+_;omega
 .rw[Qxa B];have F:(if some s.b'=turn then 1 else 0)<(g8 b x s.ds s.b').length:=by
   split
   .rename_i g;exact ht g
   .exact QA.mpr B
  have I:(g8 b x s.ds s.b').getD (if some s.b'=turn then 1 else 0) yq∈g8 b x s.ds s.b':=by rw[XP,X1 F];exact RT F
  have:=(tw D (G.ok D) (T3.mp (iB I).1).1).1;show s.b'<s.b'+_;omega
theorem SN(s:vW):s.ts <+: (xy b x turn s).ts:=by
 unfold xy;by_cases hi:s.b'<x.length
 .rw[Qxb hi];dsimp only;have:s.ts <+: (if 1<(g8 b x s.ds s.b').length then s.ts++[s.b'] else s.ts):=by
   split
   .exact OR _ _
   .exact JL _
  split<;>exact this
 .rw[Qxa hi];exact JL _
theorem cQ{p:Nat}:∀ {k:Nat},(zM b x none k).ts.head?=some p->∃j,j<k/\(zM b x none j).ts=[]/\(zM b x none j).b'=p/\p<x.length/\1<(g8 b x (zM b x none j).ds p).length
 |0,h=>by cases h
 |k+1,h=>by
  by_cases e:(zM b x none k).ts=[]
  .have h:(xy b x none (zM b x none k)).ts.head?=some p:=h;unfold xy at h;by_cases hi:(zM b x none k).b'<x.length
   .rw[Qxb hi] at h;dsimp only at h;by_cases B:1<(g8 b x (zM b x none k).ds (zM b x none k).b').length
    .have D:(zM b x none k).b'=p:=by
      rw[Qxb B,e] at h;split at h<;>simpa using h
     exact⟨k,Q5 _,e,D,by rw[←D];exact hi,by rw[←D];exact B⟩
    .rw[Qxa B,e] at h;split at h<;>cases h
   .rw[Qxa hi,e] at h;cases h
  .have h':(zM b x none k).ts.head?=some p:=by
    obtain⟨r,F⟩:=SN (b:=b) (x:=x) (turn:=none) (zM b x none k);have h:(xy b x none (zM b x none k)).ts.head?=some p:=h;rw[←F] at h;cases q:(zM b x none k).ts with
    |nil=>exact absurd q e
    |cons a I=>rw[q] at h;exact h
   obtain⟨j,G,r⟩:=cQ h';exact⟨j,PL G,r⟩
theorem iC(B:∀t∈b,An b.length t)(D:0<cn b x [] 0){j k:Nat}(F:j<k)(hi:(zM b x none j).b'<x.length):(zM b x none j).b'<(zM b x none k).b':=by
 induction k with
 |zero=>exact iW F
 |succ k G=>
  have I:(zM b x none k).b'<=(zM b x none (k+1)).b':=by
   by_cases h:(zM b x none k).b'<x.length
   .exact RL (mX B (mW B D k) (λq=>by cases q) h)
   .show _<=(xy b x none (zM b x none k)).b';unfold xy;rw[Qxa h];exact X2 _
  by_cases e:j=k
  .subst e;exact mX B (mW B D j) (λq=>by cases q) hi
  .exact Rt (G (Qn (R5 F) e)) I
theorem mY(B:∀t∈b,An b.length t)(D:0<cn b x [] 0){j p:Nat}(G:(zM b x none j).b'=p)(I:p<x.length):∀k,k<=j->zM b x (some p) k=zM b x none k
 |0,_=>rfl
 |k+1,F=>by
  have J0:=mY B D G I k (RL F);show xy b x (some p) (zM b x (some p) k)=xy b x none (zM b x none k);rw[J0];have L:(zM b x none k).b'≠p:=by
   by_cases h:(zM b x none k).b'<x.length
   .have:=iC B D (show k<j by exact F) h;omega
   .omega
  unfold xy;have M:(some (zM b x none k).b'=some p)=False:=by simp[L]
  have O:(some (zM b x none k).b'=none)=False:=by simp
  simp only[M,O,if_false]
theorem cR(B:∀t∈b,An b.length t)(D:0<cn b x [] 0){j p:Nat}(F:(zM b x none j).b'=p)(G:p<x.length)(J0:1<(g8 b x (zM b x none j).ds p).length):∀k,tE b x (zM b x (some p) k)/\(j<k->p<(zM b x (some p) k).b')
 |0=>⟨cP D,λh=>by exact iW h⟩
 |k+1=>by
  obtain⟨L,M⟩:=cR B D F G J0 k;have ht:some (zM b x (some p) k).b'=some p->1<(g8 b x (zM b x (some p) k).ds (zM b x (some p) k).b').length:=λq=>by
   have O:(zM b x (some p) k).b'=p:=by simpa using q
   by_cases I:k<=j
   .have e:=mY B D F G k I;rw[e] at O ⊢;have:k=j:=by
     by_cases g:k=j
     .exact g
     .have:=iC B D (show k<j by exact Qn I g) (by rw[O];exact G);omega
    subst this;rw[F];exact J0
   .have:=M (NN.1 I);omega
  refine⟨cO B L ht,λI=>?_⟩;show p<(xy b x (some p) (zM b x (some p) k)).b';by_cases hi:(zM b x (some p) k).b'<x.length
  .have h1:=mX B L ht hi;by_cases g:k=j
   .subst g;have e:=mY B D F G k (X2 _);have:(zM b x (some p) k).b'=p:=by rw[e];exact F
    exact Zc h1 this
   .have:=M (Qn (R5 I) (Q3 g));exact S5 this (RL h1)
  .unfold xy;rw[Qxa hi];exact S5 G (Qt.1 hi)
theorem cS{B:Type} [DecidableEq B]:∀ {l m:List B},l.Nodup->l ⊆ m->l.length<=m.length
 |[],_,_,_=>X7 _
 |a::l,m,I,D=>by
  obtain⟨h1,h2⟩:=Q4.mp I;have F:a∈m:=D W8;have J0:=cS (m:=m.erase a) h2 λx G=>(List.mem_erase_of_ne (λe=>h1 (by rw[←e];exact G))).mpr (D (T7 _ G));rw[List.length_erase_of_mem F] at J0;have:=MY F;rw[RN];omega
theorem cT{a':List (zr×V)}{k:zr}{j:zr}:j∈(yP a' k v).map (·.1)↔j∈a'.map (·.1)∨j=k:=by
 unfold yP;split
 .rename_i h;have e:(a'.map λB=>if B.1=k then (B.1,v) else B).map (·.1)=a'.map (·.1):=by
   rw[R6];apply PQ;intro p _;show (if p.1=k then (p.1,v) else p).1=p.1;split<;>rfl
  rw[e];refine⟨.inl,λg=>g.elim id λg=>?_⟩;obtain⟨p,D,F⟩:=Qx.mp h;rw[g,←Qxc F];exact Qz D
 .rw[T5,T6];simp
theorem cU{a':List (zr×V)}{k:zr}(B:(a'.map (·.1)).Nodup):((yP a' k v).map (·.1)).Nodup:=by
 cases h:yN a' k with
 |none=>exact Ww v B h
 |some u=>
  have e:(yP a' k v).map (·.1)=a'.map (·.1):=by
   unfold yP;rw[Qxb (by rw[tU,h];rfl),R6];apply PQ;intro p _;show (if p.1=k then (p.1,v) else p).1=p.1;split<;>rfl
  rw[e];exact B
structure Aw(kv:List (zr×V))(S:Nat->Prop):Prop where
 nd:(kv.map (·.1)).Nodup
 iff:∀k,k∈kv.map (·.1)↔∃e:Nat,k=.inl (e:Int)/\S e
theorem Aw.nil:Aw [] λ_=>False:=⟨.nil,λk=>⟨(λh=>nomatch h),λ⟨_,_,h⟩=>h.elim⟩⟩
theorem Aw.to(h:Aw B S)(g:∀e,S e↔T e):Aw B T:=⟨h.nd,λk=>(h.iff k).trans ⟨λ⟨e,h1,h2⟩=>⟨e,h1,(g e).mp h2⟩,λ⟨e,h1,h2⟩=>⟨e,h1,(g e).mpr h2⟩⟩⟩
theorem Aw.put(h:Aw B S)(n:Nat)(v:V):Aw (yP B (.inl (n:Int)) v) λe=>S e∨e=n:=⟨cU h.nd,λk=>by
 rw[cT,h.iff];constructor
 .rintro(⟨e,h1,h2⟩|h)
  .exact⟨e,h1,.inl h2⟩
  .exact⟨n,h,.inr rfl⟩
 .rintro⟨e,h1,h2|h2⟩
  .exact .inl ⟨e,h1,h2⟩
  .exact .inr (by rw[h1,h2])⟩
theorem cV:∀ {B a':List (zr×V)}{j:zr},j∈(vz a' B).map (·.1)↔j∈a'.map (·.1)∨j∈B.map (·.1)
 |[],a',j=>⟨.inl,λh=>h.elim id λh=>nomatch h⟩
 |p::r,a',j=>by
  show j∈(vz (yP a' p.1 p.2) r).map (·.1)↔_;rw[cV,cT,RD,S7,or_assoc]
theorem cW:∀ {B a':List (zr×V)},(a'.map (·.1)).Nodup->((vz a' B).map (·.1)).Nodup
 |[],_,h=>h
 |p::r,a',h=>by
  show ((vz (yP a' p.1 p.2) r).map (·.1)).Nodup;exact cW (cU h)
theorem Aw.merge{D:List (zr×V)}(h:Aw B S)(g:Aw D T):Aw (vz B D) λe=>S e∨T e:=⟨cW h.nd,λk=>by
 rw[cV,h.iff,g.iff];constructor
 .rintro(⟨e,h1,h2⟩|⟨e,h1,h2⟩)
  .exact⟨e,h1,.inl h2⟩
  .exact⟨e,h1,.inr h2⟩
 .rintro⟨e,h1,h2|h2⟩
  .exact .inl ⟨e,h1,h2⟩
  .exact .inr ⟨e,h1,h2⟩⟩
theorem Aw.len(h:Aw B S)(D:∀e,S e->e<=n):B.length<=n+1:=by
 have F:=cS (m:=(RO (n+1)).map λe:Nat=>(Pq (e:Int):zr)) h.nd λk G=>by
  obtain⟨e,rfl,g⟩:=(h.iff k).mp G;exact S4.mpr ⟨e,Pu.mpr (by have:=D e g;exact Ra this),J⟩
 simpa using F
theorem Aw.at(h:Aw B S){p:zr×V}(D:p∈B):∃e:Nat,p.1=.inl (e:Int)/\S e:=(h.iff _).mp (Qz D)
noncomputable abbrev wr:List Bool:=[false,true]
noncomputable def xK(R:Rm):List zr:=[.inl R.1,.inr R.2]
noncomputable def xG(R:Rm)(i:Nat):List yg:=[.inr (xK R),.inl (.inl (i:Int))]
theorem iD{S:Rm}(h:xK R=xK S):R=S:=by
 unfold xK at h;injection h with h1 h2;injection h2 with h2 _;injection h1 with h1;injection h2 with h2;exact Prod.ext h1 h2
theorem iE{S:Rm}(h:xG R i=xG S j):R=S/\i=j:=by
 unfold xG at h;injection h with h1 h2;injection h2 with h2 _;injection h1 with h1;injection h2 with h2;injection h2 with h2;exact⟨iD h1,by exact Q7 h2⟩
theorem SO(h:Ah K H a xs)(s:Aa H H'):Ah K H' a xs:=by
 rcases h with(h|⟨o,h⟩)|h
 .exact .inl (.inl (s _ _ h))
 .exact .inl (.inr ⟨o,s _ _ h⟩)
 .exact .inr h
noncomputable def AQ(K:W.Frag)(z:Addr)(H:Hp)(a:Addr)(R:Rm):Prop:=Ah K H a ((xK R).map kV)/\(R≠zS->H a=some (.tup [.int R.1,.str R.2])/\a≠z)
theorem AQ.same(h:AQ K z H a R)(s:Aa H H'):AQ K z H' a R:=⟨SO h.1 s,λg=>⟨s _ _ (h.2 g).1,(h.2 g).2⟩⟩
structure AG(K:W.Frag)(z:Addr)(H:Hp)(as:List Addr)(rs:List Rm):Prop where
 len:as.length=rs.length
 b':∀i (h:i<as.length),AQ K z H as[i] (rs.getD i zS)
theorem AG.same{K:W.Frag}{z:Addr}{H H':Hp}{B:List Addr}{rs:List Rm}(h:AG K z H B rs)(s:Aa H H'):AG K z H' B rs:=⟨h.len,λi g=>(h.b' i g).same s⟩
theorem AG.snoc{B:List Addr}(h:AG K z H B rs)(g:AQ K z H a R):AG K z H (B++[a]) (rs++[R]):=⟨by rw[X4,X4,h.len];rfl,λi hi=>by
 rw[X4] at hi;by_cases e:i<B.length
 .have h1:=h.b' i e;rw[List.getElem_append_left e];have:(rs++[R]).getD i zS=rs.getD i zS:=by
   rw[XP,XP,Qr (by rw[←h.len];exact e)]
  rw[this];exact h1
 .have D:i=B.length:=by have:[a].length=1:=rfl;exact RU (R5 hi) (Qt.1 e)
  subst D;rw[List.getElem_append_right (X2 _)];have:(rs++[R]).getD B.length zS=R:=by
   rw[h.len,XP,Qp (X2 _),Ox];rfl
  rw[this];simpa using g⟩
structure ul(b:Bk)(rs:List Rm):Prop where
 nd:rs.Nodup
 out:zS∈rs
 all:∀t∈b,∀d∈t.2,d.2∈rs
 bk:∀R∈rs,R=zS∨∃t∈b,∃d∈t.2,R=d.2
 few:rs.length<=100
theorem cX(h:R=zS∨∃t∈b,∃d∈t.2,R=d.2):As b (yr R):=by
 unfold yr;split
 .exact λd B=>nomatch B
 .rename_i D;intro d B;obtain⟨t,ht,F,G,e⟩:=h.resolve_left D;obtain rfl:=RA.mp B;exact⟨t,ht,F,G,by rw[e],by rw[e]⟩
theorem cY:Sh b x R x.length e↔R=zS/\e=x.length:=by
 constructor
 .intro h;generalize hi:x.length=i at h;cases h with
  |out=>exact⟨J,J⟩
  |plain B _ _ _=>exact(oh hi B).elim
  |close B _=>exact(oh hi B).elim
  |opn B _ _ _=>exact(oh hi B).elim
 .rintro⟨rfl,rfl⟩;exact .out
theorem SQ(hi:i<x.length)(D:zE b (yr R) x i=[]):Sh b x R i e↔(yz b (yr R) x i).2.2.1≠YP "cut"/\Sh b x R (i+(yz b (yr R) x i).2.1.toNat) e:=by
 constructor
 .intro h;cases h with
  |out=>exact rM hi
  |plain _ _ F h=>exact⟨F,h⟩
  |close _ B=>rw[D] at B;cases B
  |opn _ B _ _=>rw[D] at B;cases B
 .rintro⟨F,h⟩;exact .plain hi D F h
noncomputable def mZ(b:Bk)(x:Str)(R:Rm)(i:Nat)(y:Mk)(e:Nat):Prop:=match y.2 with
 |none=>e=i+y.1.length
 |some d=>∃k,Sh b x d.2 (i+y.1.length) k/\Sh b x R k e
theorem SR(hi:i<x.length)(D:zE b (yr R) x i≠[]):Sh b x R i e↔∃y∈zE b (yr R) x i,mZ b x R i y e:=by
 constructor
 .intro h;cases h with
  |out=>exact rM hi
  |plain _ F _ _=>exact absurd F D
  |close _ B=>exact⟨_,B,J⟩
  |opn _ B h1 h2=>exact⟨_,B,_,h1,h2⟩
 .rintro⟨⟨m,o⟩,B,h⟩;cases o with
  |none=>
   have G:e=i+m.length:=h;subst G;exact .close hi B
  |some d=>
   obtain⟨k,h1,h2⟩:=h;exact .opn hi B h1 h2
noncomputable def AK(P:U2)(w:Rz)(H:Hp)(d:Addr)(b:Bk)(x:Str)(R:Rm)(i:Nat):Prop:=∃ep B,H d=some (dE P w d ep B)/\Aw B (Sh b x R i)
theorem AK.same{x:Str}(h:AK P w H d b x R i)(s:Aa H H'):AK P w H' d b x R i:=let ⟨ep,B,h1,h2⟩:=h;⟨ep,B,s _ _ h1,h2⟩
structure AH(P:U2)(w:Rz)(K:W.Frag)(H:Hp)(ed:Addr)(b:Bk)(x:Str)(rs:List Rm)(p:Nat)(a':List yU):Prop where
 here:H ed=some (dN P w wr ed a')
 keys:AT K H wr a'
 b':∀R∈rs,∀j,p<=j->j<=x.length->∃d,d≠ed/\yG a' (xG R j)=some (.ref d)/\AK P w H d b x R j
theorem AH.same{P:U2}{w:Rz}{K:W.Frag}{H H':Hp}{B:Addr}{b:Bk}{x:Str}{rs:List Rm}{p:Nat}{a':List yU}(h:AH P w K H B b x rs p a')(s:Aa H H'):AH P w K H' B b x rs p a':=⟨s _ _ h.here,h.keys.same s,λR D j h1 h2=>let ⟨d,F,G,I⟩:=h.b' R D j h1 h2;⟨d,F,G,I.same s⟩⟩
theorem pN{z:Addr}(h:Ah K H a ((xK R).map kV))(B:H r=some (.tup [.ref a,.int (i:Int)])):AC K H (xG R i) r:=⟨_,B,.cons ⟨a,J,h⟩ (.cons rfl .nil)⟩
theorem iF{k j:List yg}(h:yG a' k=none):yG (a'++[(k,r,v)]) j=if j=k then some v else yG a' j:=by
 unfold yG at *;rw[List.find?_append];by_cases e:j=k
 .subst e;rw[Qxb rfl];cases g:a'.find? λp=>decide (p.1=j) with
  |none=>simp[QP]
  |some q=>rw[g] at h;cases h
 .rw[Qxa e];cases g:a'.find? λp=>decide (p.1=j) with
  |none=>simp[QP,Q3 e]
  |some q=>simp
structure Ck(mg:Str->Option X3)(K:W.Frag)(aO:Addr):Prop where
 g:mg "OUTSIDE"=some (.ref aO)
 t:∃(o:Obj) (its:Array X3) (n:Nat),K.lookup aO=some o/\o.cls=.type "tuple"/\o.data=.seq its n/\its.size<=sizeLine/\Af ((xK zS).map kV) its.toList
theorem Ck.rm{B:Addr}(T:Ck mg K B)(z:Addr)(H:Hp):AQ K z H B zS:=⟨.inr T.t,λh=>absurd J h⟩
theorem SS(B:H p=some (.lst l))(h:Ah K H a xs):Ah K (c' H p (.lst l')) a xs:=by
 rcases h with(h|⟨o,h⟩)|h
 .exact .inl (.inl (by rw[zh (zj h B)];exact h))
 .exact .inl (.inr ⟨o,by rw[zh (zj h B)];exact h⟩)
 .exact .inr h
theorem AQ.updL(B:H p=some (.lst l))(h:AQ K z H a R):AQ K z (c' H p (.lst l')) a R:=⟨SS B h.1,λg=>⟨by rw[zh (zj (h.2 g).1 B)];exact(h.2 g).1,(h.2 g).2⟩⟩
inductive m3(K:W.Frag):Sp where
 |mk {vs:List V} {H:Hp} {Q:VK} {E:XK} (z v b:_) (c1:vs=[v]) (c2:Am z H) (c3:Aj z H v (yp b)) (c4:yn b)
  (q:∀p as rs H',Aa H H'->H p=none->H' p=some (.lst (as.map V.ref))->AG K z H' as rs->ul b rs->Q (.ref p) H'):m3 K vs H Q E
structure Ay(b:Bk)(i:Nat)(j:Nat)(rs:List Rm):Prop where
 nd:rs.Nodup
 out:zS∈rs
 all:∀t∈b.take i,∀d∈t.2,d.2∈rs
 now:∀d∈(b.getD i zk).2.take j,d.2∈rs
 bk:∀R∈rs,R=zS∨∃t∈b,∃d∈t.2,R=d.2
 few:rs.length<=1+6*i+j
theorem Ay.start(b:Bk):Ay b 0 0 [zS]:=⟨by simp,by simp,λt ht=>(by simp at ht),λd B=>(by simp at B),λR D=>.inl (by simpa using D),by simp⟩
theorem Ay.next(hi:i<b.length)(h:Ay b i (b.getD i zk).2.length rs)(D:(b.getD i zk).2.length<=6):Ay b (i+1) 0 rs:=⟨h.nd,h.out,λt ht d B=>by
  rw[QK,T6] at ht;rcases ht with ht|ht
  .exact h.all t ht d B
  .rw[X1 hi] at ht;have e:t=b.getD i zk:=by
    have:t=b[i]:=by simpa using ht
    rw[this];simp[hi]
   rw[e] at B;exact h.now d (by rw[R1];exact B),λd B=>(by simp at B),h.bk,by have:=h.few;omega⟩
theorem Ay.more(h:Ay b i j rs)(hi:i<b.length)(B:j<(b.getD i zk).2.length) :
  (((b.getD i zk).2.getD j yd).2∈rs->Ay b i (j+1) rs)/\(((b.getD i zk).2.getD j yd).2∉rs->Ay b i (j+1) (rs++[((b.getD i zk).2.getD j yd).2])):=by
 have tk:∀d,d∈(b.getD i zk).2.take (j+1)->d∈(b.getD i zk).2.take j∨d=(b.getD i zk).2.getD j yd:=λd hd=>by
  rw[QK,T6] at hd;refine hd.imp id λhd=>?_;rw[X1 B] at hd;have:d=(b.getD i zk).2[j]:=by simpa using hd
  rw[this];exact(uf yd B).symm
 refine⟨λg=>⟨h.nd,h.out,h.all,λd hd=>?_,h.bk,by have:=h.few;exact R9 this⟩,λg=>⟨?_,RW _ h.out,λt ht d hd=>RW _ (h.all t ht d hd),λd hd=>?_,λR hR=>?_,by rw[X4];have:=h.few;show _+1<=_;exact Ra this⟩⟩
 .rcases tk d hd with hd|hd
  .exact h.now d hd
  .rw[hd];exact g
 .rw[Jy];refine⟨h.nd,by simp,λa D c F e=>?_⟩;rw[RA.mp F] at e;rw[e] at D;exact g D
 .rcases tk d hd with hd|hd
  .exact RW _ (h.now d hd)
  .rw[hd];exact S2 _ W8
 .rcases T6.mp hR with hR|hR
  .exact h.bk R hR
  .exact .inr ⟨_,yE zk hi,_,yE yd B,RA.mp hR⟩
theorem Ay.done(h:Ay b b.length 0 rs)(B:b.length<=6):ul b rs:=⟨h.nd,h.out,λt ht=>h.all t (by rw[R1];exact ht),h.bk,by have:=h.few;omega⟩
theorem BG:zK ["book","rooms","escape","doors","opening","inner","close"] ["book"] (zq o9):=zP
theorem SU{aa:Addr}(F:Ao K "rooms_of" "rooms_of" o9 f fd)(TO:Ck mg K aa):Ag P w K mg base zD 1 f fd ["book"] (m3 K):=by
 refine F.okA BG λg4 A outer s H vs Q E aH h=>?_;obtain⟨z,v,b,rfl,aq,aI,aJ,k⟩:=h;obtain⟨a,xs,rfl,a6,ar,as,R⟩:=uS aI;obtain⟨a7,au,aK,_⟩:=aJ;have Z:=BG.nd;have aL:(A.deeper (QH (YP "rooms_of") (zq o9) s.heap.objs.size f g4)).units+6<cLine:=by have:=aH.un;exact ly this
 refine⟨_,ze (zu (i:=1) Z (zV (zc (tH (v:=.ref aa) J TO.g J) zf)))
  (ze (xu Rn J (xX (pv 0)) (yR J (zF (zw (i:=2) Z) (zF (zw (i:=3) Z) yJ)))
   (zm (xu Rn J (xX (pv 3)) (yR J (zF (zw (i:=4) Z) (zF (zw (i:=5) Z) (zF (zw (i:=6) Z) yJ))))
    (zm (ya (zZ (WZ aL) (yl (yk 5 6)) (pv 1) J) (zm (yy (yW U1 S8 S9 xC (pv 1) (zc (yl (yk 5 6)) zf)))) ye)))))
  (zm (zB (pv 1)))),?_⟩
 dsimp only[zH,Cx.nox,Cx.wish];have aM:=yV;refine⟨by show (1:Nat)<=_;exact Qy _,λp ae=>?_⟩;have av:Aa H (c' H p (.lst [.ref aa])):=Aa.new ae;have a8:p≠z:=aq.ne ae;refine⟨_,J,a,J,⟨_,Ah.of (av _ _ ar)⟩,ux (K:=K) (a:=a) (xs:=xs) (λi σ H2=>∃B rs L aj M O U,σ=[some (.ref a),some (.ref p),L,aj,M,O,U]/\Aa H H2/\H2 p=some (.lst (B.map V.ref))/\AG K z H2 B rs/\Ay b i 0 rs)
  ⟨[aa],[zS],_,_,_,_,_,J,av,zd,⟨J,λi hi=>by
   have e:i=0:=by have:[aa].length=1:=rfl;exact Nat.sub_eq_zero_of_le hi
   subst e;exact TO.rm z _⟩,Ay.start b⟩ (λi σ H2 _ ⟨_,_,_,_,_,_,_,_,s,_⟩=>Ah.of (s _ _ ar)) ?_ ?_⟩
 .rintro i y σ H2 hi ⟨B,rs,L,aj,M,O,U,rfl,ab,W,Y,G⟩;have ac:i<b.length:=by have:=(W5.mp hi).1;exact zU this (RH as)
  have aN:y=xs.getD i .non:=by rw[XP,hi];rfl
  have aw:=aK _ (yE zk ac);obtain⟨c,d,ys,e,a9,ba,aO,ax,af,aP⟩:=vh (vi (b:=b) (i:=i) R ac);have af:ys.length=(b.getD i zk).2.length:=af;rw[aN,e];have ay:=aw.2.1;refine⟨c,_,J,Ah.of (ab _ _ aO),J,_,_,J,_,_,J,J,?_⟩;refine yT λbb aQ _ _ _=>?_;refine⟨_,J,d,J,⟨_,Ah.of (ab _ _ ax)⟩,ux (K:=K) (a:=d) (xs:=ys) (λj σ I=>∃B rs L M O U,σ=[some (.ref a),some (.ref p),L,some (.ref d),M,O,U]/\Aa H I/\I p=some (.lst (B.map V.ref))/\AG K z I B rs/\Ay b i j rs)
   ⟨B,rs,_,_,_,_,J,ab,W,Y,G⟩ (λj σ I _ ⟨_,_,_,_,_,_,_,s,_⟩=>Ah.of (s _ _ ax)) ?_ ?_⟩
  .rintro j aR σ I az ⟨B,rs,L,M,O,U,rfl,ag,W,Y,G⟩;have ah:j<(b.getD i zk).2.length:=by have:=(W5.mp az).1;exact zU this (RH af)
   have aS:aR=ys.getD j .non:=by rw[XP,az];rfl
   obtain⟨q,aT,bc,aU⟩:=vB (vC (ds:=(b.getD i zk).2) (i:=j) aP ah);have bd:=aw.2.2 _ (yE yd ah);have aA:=G.more ac ah;have aV:=G.few;rw[aS,aT];generalize (b.getD i zk).2.getD j yd=D at *;refine⟨q,_,J,Ah.of (ag _ _ aU),J,_,_,J,_,_,J,_,_,J,J,?_⟩;refine yT λbe aB _ _ _=>?_;refine⟨_,J,_,J,by show (2:Nat)<=_;exact X6 _ _,λpt aW=>?_⟩;have ak:=Aa.new (o:=.tup [.int D.2.1,.str D.2.2]) aW;have aX:c' I pt (.tup [.int D.2.1,.str D.2.2]) pt=some (.tup [.int D.2.1,.str D.2.2]):=zd;have al:=ag.trans ak;have ad:=Y.same ak;have ai:=ak _ _ W;generalize c' I pt (.tup [.int D.2.1,.str D.2.2])=aC at *;have aY:(!((rs.map xK).any λm=>decide (m=xK D.2)))=!decide (D.2∈rs):=by
    congr 1;rw[QX,decide_eq_true_iff,Qx];constructor
    .rintro⟨m,aZ,e⟩;obtain⟨S,a0,rfl⟩:=S4.mp aZ;rw[←iD (Qxc e)];exact a0
    .exact λh=>⟨_,Qz h,Qxd J⟩
   refine⟨_,J,pt,p,B,xK D.2,rs.map xK,J,J,ai,Ah.of aX,(by rw[X5];exact ad.len),λi hi=>?_,?_⟩
   .have e:(rs.map xK).getD i []=xK (rs.getD i zS):=by
     have h1:i<rs.length:=by rw[←ad.len];exact hi
     rw[uf [] (by rw[X5];exact h1),uf zS h1,List.getElem_map]
    rw[e];exact⟨(ad.b' i hi).1,J⟩
   .rw[aY];refine⟨_,J,yc (λg=>?_) (λg=>?_)⟩
    .have g:D.2∉rs:=by simpa using g
     refine⟨_,J,.inl ⟨J,_,Ad.of ai⟩,_,J,_,J,by show (2:Nat)<=_;exact X6 _ _,λJ0 aD=>?_⟩;have am:=Aa.new (o:=.tup [.int D.2.1,.str D.2.2]) aD;have aE:c' aC J0 (.tup [.int D.2.1,.str D.2.2]) J0=some (.tup [.int D.2.1,.str D.2.2]):=zd;have a1:J0≠z:=(aq.same al).ne aD;have a2:=al.trans am;have ao:=ad.same am;have ap:=am _ _ ai;generalize c' aC J0 (.tup [.int D.2.1,.str D.2.2])=aF at *;refine⟨p,B.map V.ref,_,J,J,ap,by rw[X5,ao.len];exact Zb au aM ac ay ah aV,?_⟩;have a3:AQ K z aF J0 D.2:=⟨Ah.of aE,λ_=>⟨aE,a1⟩⟩;have a4:AG K z (c' aF p (.lst (B.map V.ref++[.ref J0]))) (B++[J0]) (rs++[D.2]):=AG.snoc ⟨ao.len,λi hi=>(ao.b' i hi).updL ap⟩ (a3.updL ap);exact aB _ _ ⟨B++[J0],rs++[D.2],_,_,_,_,J,λa5 o aG=>by rw[zh (zi aG ae)];exact a2 a5 o aG,by rw[zd,T5];rfl,a4,aA.2 g⟩
    .have g:D.2∈rs:=by simpa using g
     exact aB _ _ ⟨B,rs,_,_,_,_,J,al,ai,ad,aA.1 g⟩
  .rintro σ I ⟨B,rs,L,M,O,U,rfl,ag,W,Y,G⟩;exact aQ _ _ ⟨B,rs,_,_,_,_,_,J,ag,W,Y,(by rw[af] at G;exact G.next ac ay)⟩
 .rintro σ H2 ⟨B,rs,L,aj,M,O,U,rfl,ab,W,Y,G⟩;exact⟨_,J,k p B rs H2 ab ae W Y ((by rw[as] at G;exact G:Ay b b.length 0 rs).done au)⟩
theorem cZ(R S:Rm):decide (xK R=xK S)=decide (R=S):=decide_eq_decide.mpr ⟨iD,λh=>by rw[h]⟩
theorem SV(B:∀t∈b,An b.length t)(h:R=zS∨∃t∈b,∃d∈t.2,R=d.2):R.2.length<=4:=by
 rcases h with h|⟨t,ht,d,D,h⟩
 .rw[h];lia
 .rw[h];exact(wm ((B t ht).2.2 d D).2.2).1
theorem c0{x:Str}(B:∀t∈b,An b.length t){ds:List zp}(D:y∈zE b ds x i)(h:mZ b x R i y e):e<=x.length:=by
 rcases y with⟨m,o⟩;cases o with
 |none=>
  have F:e=i+m.length:=h;rw[F];exact rH D
 |some d=>
  obtain⟨k,_,h2⟩:=h;exact(vV B h2).1
theorem SW{x:Str}{m:Str}{d:Dr}(D:R=zS∨∃t∈b,∃d∈t.2,R=d.2)(F:1<=b.length)(G:∀t∈b,An b.length t)(h:((m,some d):Mk)∈zE b (yr R) x i):∃t∈b,d∈t.2:=by
 have h:=(T3.mp h).1;unfold zY at h;rcases T6.mp h with h|h
 .obtain⟨_,_,e⟩:=S4.mp h;injection e with _ e;cases e
 .obtain⟨d',B,e⟩:=S4.mp h;injection e with _ e;injection e with e;rw[e] at B;obtain⟨L,I,J0⟩:=ue ((cX D).ok G) F;rw[I] at B;exact⟨_,yE zk J0,B⟩
inductive m4(P:U2)(w:Rz)(K:W.Frag):Sp where
 |mk {vs:List V} {H:Hp} {Q:VK} {E:XK} (z v b x rs R:_) (i:Nat) (aR ed:Addr) (a':_) (c1:vs=[v,.str x,.int (i:Int),.ref aR,.ref ed]) (c2:Am z H) (c3:Aj z H v (yp b)) (c4:yn b) (c5:ul b rs) (c6:R∈rs) (c7:AQ K z H aR R) (c8:i<=x.length) (c9:x.length<=20000) (ho:AH P w K H ed b x rs (i+1) a')
  (q:∀d H',d≠ed->Aa H H'->AK P w H' d b x R i->Q (.ref d) H'):m4 P w K vs H Q E
theorem BO:zK ["book","text","place","room","ends","doors","fits","step","found","mark","door","behind","opening","inner","close","back"] ["book","text","place","room","ends"] (zq rg):=zP
theorem SX{ao:Addr}(F:Ao K "ends_from" "ends_from" rg f fd)(TO:Ck mg K ao)(T:yu mg)(bJ:Cl P w K mg base 3 "fitting_marks" ["book","text","place","doors"] sg)(bK:Cl P w K mg base 2 "read_plain" ["book","text","place","doors"] rp):Ag P w K mg base zD 4 f fd ["book","text","place","room","ends"] (m4 P w K):=by
 refine F.okA BO λg4 A outer s H vs Q E ap h=>?_;obtain⟨z,v,b,x,rs,R,i,I,ag,a',rfl,bL,bd,aH,be,aI,ah,hi,bf,Y,q⟩:=h;have L:=BO.nd;have aJ:(A.deeper (QH (YP "ends_from") (zq rg) s.heap.objs.size f g4)).units+6<cLine:=by have:=ap.un;omega
 have bg:(A.deeper (QH (YP "ends_from") (zq rg) s.heap.objs.size f g4)).units+4<cLine:=by have:=ap.un;omega
 have bM:(A.deeper (QH (YP "ends_from") (zq rg) s.heap.objs.size f g4)).units+1<cLine:=by have:=ap.un;omega
 refine⟨_,ze (ya (zZ xI (pv 2) (zT yL (by rfl) T.len b_len (zz 1)) (zR _))
   (zm (zB (kJ (om (zZ (eE bg) (pv 3) (tH (v:=.ref ao) J TO.g J) (zR _)) (Wt (Wr (pv 2) wy Wq) J J (by simp) (by decide)) qk)))) ye)
  (ze (zu (i:=5) L (om (zZ (eE bg) (pv 3) (tH (v:=.ref ao) J TO.g J) (zR _)) (zV zf) (zV (zz 3))))
  (ze (zu (i:=6) L (zA bJ ap (xO 0 1 2 5)))
  (ze (ya (xr (uB (pv 6) (λ_=>rfl))) (ze (zu (i:=7) L (zA bK (ap.mono (by decide)) (xO 0 1 2 5)))
    (zm (zB (om (zZ xI (zx Ai (pv 7) zg (λ_ _=>rfl)) z0 (zR _)) (kJ qk) (oR aJ wr (pv 4) (yl (zc (pv 3) (zc (zG yO (pv 2) (zx Ai (pv 7) zg (λ_ _=>rfl))) zf))) (λ_ _=>rfl)))))) ye)
  (ze (zu (i:=8) L qk)
  (ze (xu Rn J (xb (pv 6)) (yR J (zF (zw (i:=9) L) (zF (zw (i:=10) L) yJ)))
   (ze (zu (i:=11) L (zG yO (pv 2) (zT yL (by rfl) T.len b_len (zz 9))))
   (zm (ya (zZ gu (pv 10) sM (zR _)) (zm (fN bM (pv 8) (pv 11) wy J))
    (ze (xt (pv 10) (yR J (zF (zw (i:=12) L) (zF (zw (i:=13) L) (zF (zw (i:=14) L) yJ)))))
    (zm (xu Rn J (WQ (oR aJ wr (pv 4) (yl (zc (yl (yk 13 14)) (zz 11))) (λ_ _=>rfl))) (zw (i:=15) L)
     (zm (yy (eB (pv 8) (oR aJ wr (pv 4) (yl (yk 3 15)) (λ_ _=>rfl)) ⟨J,J,J,J⟩))))))))))
  (zm (zB (kJ (pv 8))))))))),?_⟩
 dsimp only[zH,Cx.nox,Cx.wish];have cA:=yV;have cB:=yB;obtain⟨bN,cC,S,cD⟩:=id aH;have aK:=be.bk R aI;have aL:=(cX aK).ok S;have bO:=SV S aK;have bh:=(TO.rm z H).1;refine zt λU M=>?_;refine⟨_,J,_,J,x,J,by exact zC bf,J,_,J,yc (λg=>?_) (λg=>M _ _ ?_)⟩
 .have g:i=x.length:=by
   have g:=Qxc g;injection g with g;exact Q7 g
  refine⟨_,J,I,ao,xK R,xK zS,J,J,ah.1,bh,J,_,J,?_⟩;rw[cZ];refine yc (λg2=>?_) (λg2=>?_)
  .have g2:R=zS:=Qxc g2;refine λp G=>⟨_,J,zd,[(.inl (i:Int),.bl true)],J,by show (1:Nat)<=15;decide,p,_,J,zd,λep=>?_⟩;refine q p _ (Q3 (zi Y.here G)) (λW o B=>by rw[zh (zi B G),zh (zi B G),zh (zi B G)];exact B) ⟨ep,_,zd,(Aw.nil.put i (.bl true)).to λe=>?_⟩;rw[g,g2,cY];exact⟨λh=>⟨J,h.resolve_left id⟩,λh=>.inr h.2⟩
  .have g2:R≠zS:=of_decide_eq_false (by simpa using g2);refine λp G=>⟨p,_,J,zd,λep=>?_⟩;refine q p _ (Q3 (zi Y.here G)) (λW o B=>by rw[zh (zi B G),zh (zi B G)];exact B) ⟨ep,_,zd,Aw.nil.to λe=>?_⟩;rw[g,cY];exact⟨Q0,λh=>g2 h.1⟩
 have hi:i<x.length:=by
  have g:=of_decide_eq_false (by simpa using g);by_cases h:i=x.length
  .exact absurd (by rw[h]) g
  .exact Qn hi h
 clear g;refine qf (J0:=λσ' H2=>∃Z,σ'=[some v,some (.str x),some (.int (i:Int)),some (.ref I),some (.ref ag),some (.ref Z),none,none,none,none,none,none,none,none,none,none]/\Aa H H2/\AD z H2 Z (yr R)) (λU J0=>?g1) ?g2
 case g1=>
  refine⟨_,J,I,ao,xK R,xK zS,J,J,ah.1,bh,J,_,J,?_⟩;rw[cZ];refine yc (λg2=>?_) (λg2=>?_)
  .have g2:R=zS:=Qxc g2;refine⟨X7 _,λp G=>J0 _ _ ⟨p,J,Aa.new G,[],zd,?_⟩⟩;unfold yr;rw[Qxb g2];exact .nil
  .have g2:R≠zS:=of_decide_eq_false (by simpa using g2);refine⟨_,J,by show (1:Nat)<=_;exact Qy _,λp G=>J0 _ _ ⟨p,J,Aa.new G,[.ref I],zd,?_⟩⟩;unfold yr;rw[Qxa g2];exact .cons (.tup ((Aa.new G) _ _ (ah.2 g2).1) (ah.2 g2).2 (.cons (.int _) (.cons (.str _ (zC bO)) .nil))) .nil
 case g2=>
  rintro σ' H1 ⟨Z,rfl,aM,bi⟩;refine zt λU M=>?_;refine⟨_,J,_,J,_,J,_,J,z,v,b,Z,yr R,x,i,J,bL.same aM,bd.mono aM.x,aH,bi,aL,λaw aq H2 bj cE bk bl=>M _ _ (zt λU M=>?_)⟩;have ax:=aM.trans bj;have aj:aq.length=(zE b (yr R) x i).length:=by have:=bl.length;simpa using this
  refine⟨_,J,_,.inl ⟨aq,Ad.of bk,J⟩,?_⟩;refine yc (λg=>?_) (λg=>M _ _ ?_)
  .have bP:zE b (yr R) x i=[]:=by
    refine Ry ?_;cases aq with
    |nil=>simp at aj;exact RH aj
    |cons _ _=>simp at g
   refine⟨_,J,_,J,_,J,_,J,z,v,b,Z,yr R,x,i,J,bd.mono ax.x,aH,bi.same bj,aL,hi,bf,λp ay ar G bm=>?_⟩;have ak:=ax.trans ar;obtain⟨bQ,cF,bR,aN⟩:=tu b (yr R) x i;have aN:=aN hi;have bn:=λe=>SQ (b:=b) (x:=x) (R:=R) (i:=i) (e:=e) hi bP;refine⟨_,J,p,_,2,_,J,J,Ah.of bm,zy (j:=2) J,J,_,J,?_⟩;generalize yz b (yr R) x i=st at *;refine yc (λg2=>?_) (λg2=>?_)
   .have g2:st.2.2.1=YP "cut":=by
     have g2:=Qxc g2;injection g2
    refine λbo aO=>⟨bo,_,J,zd,λep=>?_⟩;refine q bo _ (Q3 (zi (ak _ _ Y.here) aO)) (λW o B=>?_) ⟨ep,_,zd,Aw.nil.to λe=>?_⟩
    .have aP:=ak _ _ B;rw[zh (zi aP aO),zh (zi aP aO)];exact aP
    .rw[bn];exact⟨Q0,λh=>h.1 g2⟩
   .have g2:st.2.2.1≠YP "cut":=λbS=>g2 (Qxd (by rw[bS]));have bp:(i:Int)+st.2.1=((i+st.2.1.toNat:Nat):Int):=by exact iX bR
    generalize i+st.2.1.toNat=j at *;refine⟨_,J,_,J,_,J,_,J,p,_,1,_,J,J,Ah.of bm,zy (j:=1) J,_,_,J,J,by show (2:Nat)<=_;exact X6 _ _,λpt aQ=>?_⟩;have bT:=Aa.new (o:=.tup [.ref I,.int ((i:Int)+st.2.1)]) aQ;have aR:c' ay pt (.tup [.ref I,.int ((i:Int)+st.2.1)]) pt=some (.tup [.ref I,.int (j:Int)]):=by rw[zd,bp]
    have aa:=ak.trans bT;generalize c' ay pt (.tup [.ref I,.int ((i:Int)+st.2.1)])=O at *;have aS:=Y.same aa;obtain⟨d,bU,bV,bW⟩:=aS.b' R aI j (by exact ai bQ bp) (aN);refine⟨ag,pt,xG R j,a',_,J,J,aS.here,aS.keys,pN (z:=z) (ah.same aa).1 aR,J,bV,?_⟩;obtain⟨ep,V,h1,h2⟩:=bW;exact q d O bU aa ⟨ep,V,h1,h2.to λe=>by rw[bn];exact⟨λh=>⟨g2,h⟩,λh=>h.2⟩⟩
  .have bX:zE b (yr R) x i≠[]:=λe=>by
    rw[e] at aj;rw[Ry aj] at g;simp at g
   have cG:(zE b (yr R) x i).length<=10:=S5 (Py _ _) (jC S);refine zt λU M=>?_;refine λfo bq=>M _ _ (zt λU M=>?_);have ar:=Aa.new (o:=.dK []) bq;have ak:=ax.trans ar;have az:c' H2 fo (.dK []) fo=some (.dK []):=zd;have aT:=ar _ _ bk;have bY:=bl.mono ar.x (z:=z);have as:H fo=none:=ax.free bq;generalize c' H2 fo (.dK [])=ay at *;refine⟨_,J,aw,J,⟨_,Ad.of aT⟩,tJ (K:=K) (a:=aw) (xs:=aq) (λj σ O=>∃V aU aV aX aY aZ a0 ab,σ=[some v,some (.str x),some (.int (i:Int)),some (.ref I),some (.ref ag),some (.ref Z),some (.ref aw),none,some (.ref fo),aU,aV,aX,aY,aZ,a0,ab]/\Ac fo ay O/\O fo=some (.dK V)/\Aw V λe=>∃y∈(zE b (yr R) x i).take j,mZ b x R i y e)
    ⟨[],_,_,_,_,_,_,_,J,.refl,az,Aw.nil.to λe=>⟨Q0,λ⟨y,h,_⟩=>by simp at h⟩⟩ (λj σ O _ ⟨_,_,_,_,_,_,_,_,_,s,_⟩=>Ad.of (s _ _ (zj aT az) aT)) ?_ ?_⟩
   .rintro j y σ O br ⟨V,aU,aV,aX,aY,aZ,a0,ab,rfl,ac,aA,au⟩;have aB:j<(zE b (yr R) x i).length:=by have:=(W5.mp br).1;exact zU this (RH aj)
    have bZ:y=aq.getD j .non:=by rw[XP,br];rfl
    obtain⟨a,u,e,cH,bs,b0,bt⟩:=uX (uY (ms:=zE b (yr R) x i) (i:=j) bY aB);have b1:=ac _ _ (zj bs az) bs;have aa:Aa H O:=λW o B=>ac _ _ (zi B as) (ak _ _ B);have a1:(zE b (yr R) x i).getD j yq∈zE b (yr R) x i:=yE yq aB;have bu:(zE b (yr R) x i).take (j+1)=(zE b (yr R) x i).take j++[(zE b (yr R) x i).getD j yq]:=by
     rw[QK,X1 aB,uf yq aB];rfl
    have cI:=au.len (n:=x.length) λe ⟨y,hy,h⟩=>c0 S (PM hy) h;have b2:=rH a1;have b3:=tw S aL (T3.mp a1).1;rw[bZ,e];generalize cJ:(zE b (yr R) x i).getD j yq=b4 at *;obtain⟨m,o⟩:=b4;refine⟨a,_,J,Ah.of b1,J,_,_,J,_,_,J,J,?_⟩;show (xH _ _) _ _ _;refine yT λcK bv _ _ _=>zt λcL b5=>?_;refine⟨_,J,_,J,m,J,by have:m.length<=1000:=b0;exact zC this,_,_,J,J,b5 _ _ ?_⟩;have bw:(i:Int)+(m.length:Int)=((i+m.length:Nat):Int):=rfl;cases o with
    |none=>
     cases bt;refine⟨_,J,J,_,J,yS ?_⟩;refine⟨_,J,_,J,fo,_,J,BI.k (k:=.inl ((i:Int)+(m.length:Int))) aA (by omega),?_⟩;refine bv _ _ ⟨_,_,_,_,_,_,_,_,J,λW o al B=>by rw[zh al];exact ac _ _ al B,zd,?_⟩;rw[bw];refine(au.put (i+m.length) (.bl true)).to λe=>?_;rw[bu];constructor
     .rintro(⟨y,hy,h⟩|h)
      .exact⟨y,RW _ hy,h⟩
      .exact⟨_,S2 _ W8,h⟩
     .rintro⟨y,hy,h⟩;rcases T6.mp hy with hy|hy
      .exact .inl ⟨y,hy,h⟩
      .rw[RA.mp hy] at h;exact .inr h
    |some D=>
     obtain⟨bx,rfl,_,bz,cM⟩:=dn bt;have b6:=ac _ _ (zj bz az) bz;obtain⟨b7,b8,b9⟩:=SW aK bN S a1;have ca:D.2∈rs:=be.all b7 b8 D b9;have bA:1<=m.length:=b3.1;have cb:i+m.length<=x.length:=b2;refine⟨_,J,J,_,J,yi ?_⟩;refine zt λU M=>?_;refine⟨_,J,bx,_,J,Ah.of b6,J,_,_,J,_,_,J,_,_,J,J,M _ _ ?_⟩;refine⟨_,J,_,J,_,J,by show (2:Nat)<=_;exact X6 _ _,λad cc=>?_⟩;have a2:=Aa.new (o:=.tup [.int D.2.1,.str D.2.2]) cc;have cd:c' O ad (.tup [.int D.2.1,.str D.2.2]) ad=some (.tup [.int D.2.1,.str D.2.2]):=zd;have ce:=a2 _ _ aA;have cf:=ac.trans a2.x;have cg:=aa.trans a2;generalize c' O ad (.tup [.int D.2.1,.str D.2.2])=bB at *;refine⟨_,J,by show (2:Nat)<=_;exact X6 _ _,λpt aQ=>?_⟩;have aC:=Aa.new (o:=.tup [.ref ad,.int ((i:Int)+(m.length:Int))]) aQ;have aR:c' bB pt (.tup [.ref ad,.int ((i:Int)+(m.length:Int))]) pt=some (.tup [.ref ad,.int ((i+m.length:Nat):Int)]):=by rw[zd,bw]
     have ch:=aC _ _ cd;have bC:=aC _ _ ce;have ci:=cf.trans aC.x;have bD:=cg.trans aC;generalize c' bB pt (.tup [.ref ad,.int ((i:Int)+(m.length:Int))])=cj at *;have a3:=Y.same bD;obtain⟨a4,_,ck,ep,av,a5,a6⟩:=a3.b' D.2 ca (i+m.length) (by exact aW bA) cb;refine⟨ag,pt,xG D.2 (i+m.length),a',_,J,J,a3.here,a3.keys,pN (z:=z) (Ah.of ch) aR,J,ck,a4,ep,av,J,a5,?_⟩;have cm:a4≠fo:=zj a5 bC (by intro e;cases e);refine WM (P:=P) (w:=w) (d:=a4) (ep:=ep) (a':=av) (λn σ ae=>∃am ab,σ=[some v,some (.str x),some (.int (i:Int)),some (.ref I),some (.ref ag),some (.ref Z),some (.ref aw),none,some (.ref fo),some (.str m),some (.ref bx),some (.int ((i:Int)+(m.length:Int))),some (.str D.1),some (.int D.2.1),some (.str D.2.2),ab]/\Ac fo cj ae/\ae fo=some (.dK am)/\Aw am λe=>(∃y∈(zE b (yr R) x i).take j,mZ b x R i y e)∨∃k:Nat,Pq (k:Int)∈(av.take n).map (·.1)/\Sh b x R k e)
      ⟨V,_,J,.refl,bC,au.to λe=>⟨.inl,λh=>h.elim id λ⟨k,aD,_⟩=>by simp at aD⟩⟩ (λn σ ae _ ⟨_,_,_,s,_⟩=>s _ _ cm a5) (λn p σ ae al ⟨am,ab,a7,aE,aF,aG⟩=>?_) (λσ ae ⟨am,ab,a7,aE,aF,aG⟩=>?_)
     .subst a7;obtain⟨k,aD,cn⟩:=a6.at (Ph al);obtain⟨co,cp,_⟩:=vV S cn;have cq:Aa H ae:=λW o B=>aE _ _ (zi B as) (bD _ _ B);have cN:=aG.len (n:=x.length) λe h=>by
       rcases h with⟨y,hy,h⟩|⟨k,_,h⟩
       .exact c0 S (PM hy) h
       .exact(vV S h).1
      rw[aD];refine⟨_,J,fo,J,.inl ⟨_,.inl aF⟩,_,J,_,J,_,J,by show (2:Nat)<=_;exact X6 _ _,λa8 cr=>?_⟩;have a9:=Aa.new (o:=.tup [.ref I,.int (k:Int)]) cr;have cs:c' ae a8 (.tup [.ref I,.int (k:Int)]) a8=some (.tup [.ref I,.int (k:Int)]):=zd;have bE:=a9 _ _ aF;have cu:=aE.trans a9.x;have bF:=cq.trans a9;have ba:=Y.same bF;obtain⟨cv,_,cw,cx,cy,bG,bH⟩:=ba.b' R aI k (by exact Za bA cp) co;have cO:=bH.len (n:=x.length) λe h=>(vV S h).1;refine⟨ag,a8,xG R k,a',_,J,J,ba.here,ba.keys,pN (z:=z) (ah.same bF).1 cs,J,cw,cv,am,cx,cy,J,zj bE bG (by intro e;cases e),bE,bG,by omega,?_⟩;refine⟨_,_,J,λW o bI B=>by rw[zh bI];exact cu _ _ bI B,zd,(aG.merge bH).to λe=>?_⟩;have cP:=(W5.mp al).1;have cz:(av.take (n+1)).map (·.1)=(av.take n).map (·.1)++[Pq (k:Int)]:=by
       rw[QK,al,T5];show _++[p.1]=_;rw[aD]
      rw[cz];constructor
      .rintro((h|⟨af,h1,h2⟩)|h)
       .exact .inl h
       .exact .inr ⟨af,RW _ h1,h2⟩
       .exact .inr ⟨k,S2 _ W8,h⟩
      .rintro(h|⟨af,h1,h2⟩)
       .exact .inl (.inl h)
       .rcases T6.mp h1 with h1|h1
        .exact .inl (.inr ⟨af,h1,h2⟩)
        .have h1:=RA.mp h1;injection h1 with h1;have:af=k:=Q7 h1;rw[this] at h2;exact .inr h2
     .subst a7;refine bv _ _ ⟨am,_,_,_,_,_,_,_,J,ci.trans aE,aF,aG.to λe=>?_⟩;rw[bu,R1];constructor
      .rintro(⟨y,hy,h⟩|⟨k,h1,h2⟩)
       .exact⟨y,RW _ hy,h⟩
       .obtain⟨af,bb,bc⟩:=(a6.iff _).mp h1;injection bb with bb;have:k=af:=Q7 bb;rw[this] at h2;exact⟨_,S2 _ W8,af,bc,h2⟩
      .rintro⟨y,hy,h⟩;rcases T6.mp hy with hy|hy
       .exact .inl ⟨y,hy,h⟩
       .rw[RA.mp hy] at h;obtain⟨k,bc,h2⟩:=h;exact .inr ⟨k,(a6.iff _).mpr ⟨k,J,bc⟩,h2⟩
   .rintro σ O ⟨V,aU,aV,aX,aY,aZ,a0,ab,rfl,ac,aA,au⟩;have aa:Aa H O:=λW o B=>ac _ _ (zi B as) (ak _ _ B);refine M _ _ ⟨_,J,fo,V,J,aA,λep=>?_⟩;refine q fo _ (Q3 (zi Y.here as)) (λW o B=>?_) ⟨ep,V,zd,au.to λe=>?_⟩
    .rw[zh (zi B as)];exact aa _ _ B
    .rw[SR hi bX,aj,R1]
theorem SY{k:List yg}(h:∀p∈a',p.1≠k):yG a' k=none:=by
 unfold yG;have:(a'.find? λp=>decide (p.1=k))=none:=List.find?_eq_none.mpr λp B g=>h p B (Qxc g);rw[this];rfl
theorem S1{B:Addr}(D:H B=some (dN P w sh B a'))(s:Ac B H H')(h:Ah K H a xs):Ah K H' a xs:=by
 rcases h with(h|⟨o,h⟩)|h
 .exact .inl (.inl (s _ _ (zj h D) h))
 .exact .inl (.inr ⟨o,s _ _ (zj h D) h⟩)
 .exact .inr h
theorem ba{B:Addr}{ks:List yg}(D:H B=some (dN P w sh B a'))(s:Ac B H H')(h:AC K H ks a):AC K H' ks a:=by
 obtain⟨vs,e,r⟩:=h;refine⟨vs,s _ _ (zj e D) e,?_⟩;clear e;induction r with
 |nil=>exact .nil
 |@cons x v xs vs h1 _ F=>
  refine .cons ?_ F;cases x with
  |inl _=>exact h1
  |inr l=>obtain⟨d,e,h2⟩:=h1;exact⟨d,e,S1 D s h2⟩
structure AI(P:U2)(w:Rz)(K:W.Frag)(H:Hp)(ed:Addr)(b:Bk)(x:Str)(rs:List Rm)(i m:Nat)(a':List yU):Prop where
 base:AH P w K H ed b x rs (i+1) a'
 now:∀R∈rs.take m,∃d,d≠ed/\yG a' (xG R i)=some (.ref d)/\AK P w H d b x R i
 only:∀p∈a',∃R j,p.1=xG R j/\(i<j∨j=i/\R∈rs.take m)
 few:a'.length<=rs.length*(x.length-i)+m
theorem AI.same{H H':Hp}{B:Addr}{b:Bk}{x:Str}{rs:List Rm}{i m:Nat}{a':List yU}(h:AI P w K H B b x rs i m a')(s:Aa H H'):AI P w K H' B b x rs i m a':=⟨h.base.same s,λR D=>let ⟨d,F,G,I⟩:=h.now R D;⟨d,F,G,I.same s⟩,h.only,h.few⟩
theorem AI.fresh{D:Addr}{x:Str}{m:Nat}(h:AI P w K H D b x rs i m a')(F:rs.Nodup)(B:m<rs.length):yG a' (xG (rs.getD m zS) i)=none:=SY λp G e=>by
 obtain⟨R,j,I,h2⟩:=h.only p G;rw[I] at e;obtain⟨J0,L⟩:=iE e;rcases h2 with h2|⟨_,h2⟩
 .exact(oh L h2).elim
 .rw[J0,uf zS B] at h2;obtain⟨n,M,O⟩:=List.mem_take_iff_getElem.mp h2;have:=(Jz (h₀:=by exact aM M) (h₁:=B) F).mp O;omega
theorem AI.put{B:Addr}{x:Str}{m:Nat}(h:AI P w K H B b x rs i m a')(Z:rs.Nodup)(J0:m<rs.length)(V:d≠B)(aa:AK P w H d b x (rs.getD m zS) i)(ab:AC K H (xG (rs.getD m zS) i) r) :
  AI P w K (c' H B (dN P w wr B (a'++[(xG (rs.getD m zS) i,r,.ref d)]))) B b x rs i (m+1) (a'++[(xG (rs.getD m zS) i,r,.ref d)]):=by
 have O:=h.fresh Z J0;have W:Ac B H (c' H B (dN P w wr B (a'++[(xG (rs.getD m zS) i,r,.ref d)]))):=λae o S ac=>by rw[zh S];exact ac
 have af:∀ {d R j},d≠B->AK P w H d b x R j->AK P w (c' H B (dN P w wr B (a'++[(xG (rs.getD m zS) i,r,.ref d)]))) d b x R j:=λS ⟨ep,D,h1,h2⟩=>⟨ep,D,by rw[zh S];exact h1,h2⟩;have Y:rs.take (m+1)=rs.take m++[rs.getD m zS]:=by
  rw[QK,X1 J0,uf zS J0];rfl
 have ag:rs.getD m zS∈rs:=yE zS J0;refine⟨⟨zd,λp hp=>?_,λR L j h1 h2=>?_⟩,λR L=>?_,λp hp=>?_,?_⟩
 .rcases T6.mp hp with hp|hp
  .exact⟨ba h.base.here W (h.base.keys p hp).1,(h.base.keys p hp).2⟩
  .rw[RA.mp hp];exact⟨ba h.base.here W ab,J⟩
 .obtain⟨d',F,U,ep,D,G,I⟩:=h.base.b' R L j h1 h2;refine⟨d',F,?_,ep,D,by rw[zh F];exact G,I⟩;rw[iF O,Qxa (λe=>by have:=(iE e).2;omega)];exact U
 .rw[Y] at L;by_cases e:R=rs.getD m zS
  .rw[e];obtain⟨ep,D,G,I⟩:=aa;exact⟨d,V,by rw[iF O,Qxb rfl],ep,D,by rw[zh V];exact G,I⟩
  .obtain⟨d',F,U,ep,D,G,I⟩:=h.now R ((T6.mp L).resolve_right λg=>e (RA.mp g));refine⟨d',F,?_,ep,D,by rw[zh F];exact G,I⟩;rw[iF O,Qxa (λg=>e (iE g).1)];exact U
 .rw[Y];rcases T6.mp hp with hp|hp
  .obtain⟨R,j,ad,M⟩:=h.only p hp;exact⟨R,j,ad,M.imp id λM=>⟨M.1,RW _ M.2⟩⟩
  .rw[RA.mp hp];exact⟨_,_,J,.inr ⟨J,S2 _ W8⟩⟩
 .rw[X4];have:=h.few;show _+1<=_;exact Ra this
theorem AI.done{B:Addr}{x:Str}(h:AI P w K H B b x rs i rs.length a'):AH P w K H B b x rs i a'/\(∀p∈a',∃R j,p.1=xG R j/\i<=j):=by
 refine⟨⟨h.base.here,h.base.keys,λR D j h1 h2=>?_⟩,λp F=>?_⟩
 .by_cases e:j=i
  .rw[e];exact h.now R (by rw[R1];exact D)
  .exact h.base.b' R D j (Qn h1 (Q3 e)) h2
 .obtain⟨R,j,G,e2⟩:=h.only p F;exact⟨R,j,G,by rcases e2 with e2|e2<;>omega⟩
inductive m5(P:U2)(w:Rz)(K:W.Frag):Sp where
 |mk {vs:List V} {H:Hp} {Q:VK} {E:XK} (z v b x:_) (c1:vs=[v,.str x]) (c2:Am z H) (c3:Aj z H v (yp b)) (c4:yn b) (c5:x.length<=20000)
  (q:∀ed rs a' H',Aa H H'->ul b rs->AH P w K H' ed b x rs 0 a'->Q (.ref ed) H'):m5 P w K vs H Q E
theorem Be:zK ["book","text","rooms","ends","place","room"] ["book","text"] (zq ng):=zP
theorem Rc(F:Ao K "all_ends" "all_ends" ng f fd)(T:yu mg)(aJ:mg "reversed"=none)(aK:Cl P w K mg base 1 "rooms_of" ["book"] (m3 K))(aL:Cl P w K mg base 4 "ends_from" ["book","text","place","room","ends"] (m4 P w K)):Ag P w K mg base zD 5 f fd ["book","text"] (m5 P w K):=by
 refine F.okA Be λg4 A outer s H vs Q E ag h=>?_;obtain⟨z,v,b,x,rfl,ar,as,ah,ai,q⟩:=h;have aa:=Be.nd;have aM:(A.deeper (QH (YP "all_ends") (zq ng) s.heap.objs.size f g4)).units+6<cLine:=by have:=ag.un;omega
 refine⟨_,ze (zu (i:=2) aa (zA aK (ag.mono (by decide)) (zz 0)))
  (ze (zu (i:=3) aa (eu wr))
  (ze (xu Rn J (Ve J aJ J T.range (zc (zG yO (zT yL (by rfl) T.len b_len (zz 1)) zg) zf)) (zw (i:=4) aa)
   (zm (xu Rn J (xb (pv 2)) (zw (i:=5) aa)
    (zm (xt (zA aL ag (zc (pv 0) (xO 1 4 5 3))) (rS (pv 3) (yl (yk 5 4)) (WW aM wr)))))))
  (zm (zB (pv 3))))),?_⟩
 dsimp only[zH,Cx.nox,Cx.wish];have a5:=yV;have a6:=yB;have aN:=Qo;obtain⟨a7,a8,a9,ba⟩:=id ah;refine zt λU J0=>?_;refine⟨_,J,z,v,b,J,ar,as,ah,λpr D rs H1 au bb av aj L=>J0 _ _ (zt λU J0=>?_)⟩;refine λB aw=>J0 _ _ (zt λU J0=>?_);have aO:=Aa.new (o:=dN P w wr B []) aw;have aP:c' H1 B (dN P w wr B []) B=some (dN P w wr B []):=zd;generalize c' H1 B (dN P w wr B [])=H2 at *;have ax:=L.few;refine⟨_,J,x,J,by exact zC ai,_,_,J,J,x.length+1,by show [V.int ((x.length:Int)+1)]=_;rfl,by omega,?_⟩;refine W2 (λt σ M=>∃a' ak G,σ=[some v,some (.str x),some (.ref pr),some (.ref B),ak,G]/\Aa H1 M/\AH P w K M B b x rs (x.length+1-t) a'/\(∀p∈a',∃R j,p.1=xG R j/\x.length+1-t<=j)/\a'.length<=rs.length*t)
  ⟨[],_,_,J,aO,⟨aP,λp O=>(nomatch O),λR _ j h1 h2=>absurd h1 (Qt.2 h2)⟩,λp O=>(nomatch O),X7 _⟩ (λt σ M ht ⟨a',ak,G,al,ac,S,am,ay⟩=>?_) (λσ M ⟨a',ak,G,al,ac,S,am,ay⟩=>?_)
 .subst al;have ao:(((x.length+1:Nat):Int)-1+(t:Int)*(-1))=((x.length-t:Nat):Int):=by exact ab ht
  rw[ao];have aQ:x.length+1-t=x.length-t+1:=by exact bY ao
  have az:x.length-(x.length-t)=t:=by exact ae ao
  have aR:x.length+1-(t+1)=x.length-t:=by exact aF
  have aS:x.length-t<=x.length:=Nat.sub_le _ _;rw[aQ] at S am;rw[aR];generalize x.length-t=i at *;refine⟨_,J,pr,J,⟨_,Ad.of (ac _ _ av)⟩,tJ (K:=K) (a:=pr) (xs:=D.map V.ref) (λm σ W=>∃a' G,σ=[some v,some (.str x),some (.ref pr),some (.ref B),some (.int (i:Int)),G]/\Aa H1 W/\AI P w K W B b x rs i m a')
   ⟨a',_,J,ac,S,λR aT=>(by simp at aT),λp O=>let ⟨R,j,h1,h2⟩:=am p O;⟨R,j,h1,.inl h2⟩,by rw[az];exact ay⟩ (λm σ W _ ⟨_,_,_,s,_⟩=>Ad.of (s _ _ av)) ?_ ?_⟩
  .rintro m y σ W Y ⟨a',G,rfl,Z,I⟩;have ap:m<D.length:=by have:=(W5.mp Y).1;simpa using this
   have ad:m<rs.length:=by rw[←aj.len];exact ap
   have aU:y=.ref D[m]:=by
    rw[RF,X1 ap] at Y;injection Y with Y;exact Y.symm
   subst aU;have aA:=aj.b' m ap;have aV:rs.getD m zS∈rs:=yE zS ad;have aB:=au.trans Z;have aW:rs.length*(x.length-i)<=100*20000:=NS ax (by exact bz ai);have aX:=I.few;refine⟨_,J,_,J,_,J,_,J,_,J,z,v,b,x,rs,rs.getD m zS,i,D[m],B,a',J,ar.same aB,as.mono aB.x,ah,L,aV,aA.same Z,aS,ai,I.base,λd aD aY aE aZ=>?_⟩;refine⟨_,J,_,J,_,J,by show (2:Nat)<=_;exact X6 _ _,λpt a0=>?_⟩;have aq:=Aa.new (o:=.tup [.ref D[m],.int (i:Int)]) a0;have a1:c' aD pt (.tup [.ref D[m],.int (i:Int)]) pt=some (.tup [.ref D[m],.int (i:Int)]):=zd;have aG:=(Z.trans aE).trans aq;have af:=I.same (aE.trans aq);have a2:=aZ.same aq;generalize c' aD pt (.tup [.ref D[m],.int (i:Int)])=bc at *;have aH:=pN (z:=z) (i:=i) (aA.same aG).1 a1;refine⟨B,pt,xG (rs.getD m zS) i,a',J,J,af.base.here,af.base.keys,aH,J,af.fresh L.nd ad,by exact aC aN ax ad aW aX,?_⟩;exact⟨_,_,J,λbd o aI=>by rw[zh (zi aI aw)];exact aG _ _ aI,af.put L.nd ad aY a2 aH⟩
  .rintro σ W ⟨a',G,rfl,Z,I⟩;rw[X5,aj.len] at I;obtain⟨a3,a4⟩:=I.done;refine⟨a',_,_,J,Z,a3,a4,?_⟩;have:=I.few;rw[az] at this;rw[Nat.mul_add,Nat.mul_one];exact this
 .subst al;refine J0 _ _ ⟨_,J,q B rs a' M (au.trans ac) L ?_⟩;rw[Ox] at S;exact S
noncomputable def rJ(b:Bk)(x:Str):List Rm->Nat->Nat->Prop
 |[],i,e=>e=i
 |R::rs,i,e=>∃k,Sh b x R i k/\rJ b x rs k e
theorem AM{b:Bk}{x:Str}:∀ {rs:List Rm}{i:Nat},pL b x rs i↔∃e,rJ b x rs i e
 |[],i=>⟨λ_=>⟨i,J⟩,λ_=>trivial⟩
 |R::rs,i=>by
  constructor
  .rintro⟨k,h1,h2⟩;obtain⟨e,B⟩:=AM.mp h2;exact⟨e,k,h1,B⟩
  .rintro⟨e,k,h1,h2⟩;exact⟨k,h1,AM.mpr ⟨e,h2⟩⟩
theorem AX{b:Bk}{x:Str}{R:Rm}:∀ {rs:List Rm}{i e:Nat},rJ b x (rs++[R]) i e↔∃k,rJ b x rs i k/\Sh b x R k e
 |[],i,e=>by
  constructor
  .rintro⟨k,h1,h2⟩;have h2:e=k:=h2;rw[h2];exact⟨i,J,h1⟩
  .rintro⟨k,h1,h2⟩;have h1:k=i:=h1;rw[h1] at h2;exact⟨e,h2,J⟩
 |S::rs,i,e=>by
  constructor
  .rintro⟨k,h1,h2⟩;obtain⟨B,D,F⟩:=AX.mp h2;exact⟨B,⟨k,h1,D⟩,F⟩
  .rintro⟨B,⟨k,h1,D⟩,F⟩;exact⟨k,h1,AX.mpr ⟨B,D,F⟩⟩
theorem bb{b:Bk}{x:Str}(B:∀t∈b,An b.length t):∀ {rs:List Rm}{i e:Nat},i<=x.length->rJ b x rs i e->e<=x.length
 |[],i,e,hi,h=>by
  have h:e=i:=h;exact xq h hi
 |R::rs,i,e,hi,⟨k,h1,h2⟩=>bb B (vV B h1).1 h2
theorem Aw.ints(h:Aw B S):∃D:List Nat,(B.map λp=>kV p.1)=D.map (λe:Nat=>V.int (e:Int))/\(∀e,e∈D↔S e)/\D.length=B.length:=by
 have O:∀B:List (zr×V),(∀k∈B.map (·.1),∃e:Nat,k=.inl (e:Int))->∃D:List Nat,(B.map λp=>kV p.1)=D.map (λe:Nat=>V.int (e:Int))/\B.map (·.1)=D.map (λe:Nat=>(Pq (e:Int):zr)):=by
  intro B;induction B with
  |nil=>intro _;exact⟨[],J,J⟩
  |cons p r R=>
   intro g;obtain⟨D,h1,h2⟩:=R λk J0=>g k (T7 _ J0);obtain⟨e,F⟩:=g p.1 W8;exact⟨e::D,by rw[RD,RD,h1,F];rfl,by rw[RD,RD,h2,F]⟩
 obtain⟨D,h1,h2⟩:=O B λk J0=>let ⟨e,F,_⟩:=(h.iff k).mp J0;⟨e,F⟩;refine⟨D,h1,λe=>?_,by have:=congrArg Np h2;simpa using this.symm⟩;have L:=h.iff (.inl (e:Int));rw[h2] at L;constructor
 .intro F;obtain⟨M,G,I⟩:=L.mp (S4.mpr ⟨e,F,J⟩);injection G with G;have:e=M:=Q7 G;rw[this];exact I
 .intro F;obtain⟨M,G,I⟩:=S4.mp (L.mpr ⟨e,J,F⟩);injection I with I;have:M=e:=Q7 I;rw[←this];exact G
theorem Re(h:ul b rs){ds:List zp}(D:As b ds){d:zp}(F:d∈ds):d.2∈rs:=by
 obtain⟨t,ht,B,G,I,J0⟩:=D d F;have:d.2=B.2:=Prod.ext I J0;rw[this];exact h.all t ht B G
theorem Rf(h:ul b rs){ds:List zp}(B:As b ds){R:Rm}(hm:R∈xp ds):R∈rs:=by
 unfold xp at hm;rcases T6.mp hm with hm|hm
 .obtain⟨d,D,rfl⟩:=S4.mp (List.mem_reverse.mp hm);exact Re h B D
 .rw[RA.mp hm];exact h.out
theorem bc(ds:List zp):(xp ds).length=ds.length+1:=by
 unfold xp;rw[X4,NE,X5];rfl
theorem Rg{D:Addr}{vs:List V}(TO:Ck mg K D)(r:Ab z H vs (ds.map pdD)){t:Nat}(ht:t<ds.length+1){y:V}(B:(V.ref D::vs)[(V.ref D::vs).length-1-t]?=some y):∃a,y=.ref a/\AQ K z H a ((xp ds).getD t zS):=by
 have M:vs.length=ds.length:=by have:=r.length;simpa using this
 have O:(V.ref D::vs).length-1-t=ds.length-t:=by rw[RN,M];exact rfl
 rw[O] at B;unfold xp;by_cases h:t<ds.length
 .obtain⟨n,G⟩:∃n,n=ds.length-t-1:=⟨_,J⟩;have I:ds.length-t=n+1:=by exact bZ h G
  rw[I,ML] at B;have R:y=vs.getD n .non:=by rw[XP,B];rfl
  obtain⟨a,F,S,L⟩:=nI (jA (ds:=ds) (i:=n) r (by exact aP h G));refine⟨a,by rw[R,F],?_⟩;have J0:((ds.map (·.2)).reverse++[zS]).getD t zS=(ds.getD n zX).2:=by
   rw[XP,Qr (by simpa using h),List.getElem?_reverse (by simpa using h),X5,RF];have:ds.length-1-t=n:=by exact aX G
   rw[this,X1 (by exact hG h this),uf zX (by exact hG h this)];rfl
  rw[J0];exact⟨Ah.of L,λ_=>⟨L,S⟩⟩
 .have I:ds.length-t=0:=by exact bH h
  have F:t=ds.length:=RU (R5 ht) (Qt.1 h);rw[I] at B;injection B with B;refine⟨D,B.symm,?_⟩;have J0:((ds.map (·.2)).reverse++[zS]).getD t zS=zS:=by
   rw[XP,Qp (by simp[F])];simp[F]
  rw[J0];exact TO.rm z H
inductive pO(P:U2)(w:Rz)(K:W.Frag):Sp where
 |mk {vs:List V} {H:Hp} {Q:VK} {E:XK} (z b x ds rs:_) (i:Nat) (q ed:Addr) (a':_) (c1:vs=[.int (i:Int),.ref q,.ref ed]) (c4:yn b) (c5:ul b rs) (c6:AD z H q ds) (c7:As b ds) (c8:i<=x.length) (c9:x.length<=20000) (hD:ds.length<=20000) (ho:AH P w K H ed b x rs 0 a')
  (k:∀H',Aa H H'->Q (.bl (decide (0<cn b x ds i))) H'):pO P w K vs H Q E
theorem Ch:zK ["place","doors","ends","places","room","behind","begin"] ["place","doors","ends"] (zq nh):=zP
theorem Rh{D:Addr}(F:Ao K "can_be_whole" "can_be_whole" nh f fd)(TO:Ck mg K D)(T:yu mg)(aS:ud mg)(aT:mg "reversed"=none):Ag P w K mg base zD 1 f fd ["place","doors","ends"] (pO P w K):=by
 refine F.okA Ch λg4 A outer s H vs Q E aU h=>?_;obtain⟨z,b,x,ds,rs,i,q,ap,a',rfl,aV,aW,⟨vs,aX,aF⟩,aG,hi,aY,bE,aZ,k⟩:=h;have ab:=Ch.nd;have a0:(A.deeper (QH (YP "can_be_whole") (zq nh) s.heap.objs.size f g4)).units+6<cLine:=by have:=aU.un;exact ly this
 refine⟨_,ze (zu (i:=3) ab (zV (zz 0)))
  (ze (xu Rn J (W7 J aT (zc (zG vP (zV (zc (tH (v:=.ref D) J TO.g J) zf)) (pv 1)) zf)) (zw (i:=4) ab)
   (ze (zu (i:=5) ab qk)
   (ze (xu Rn J (xb (pv 3)) (zw (i:=6) ab)
    (zm (yy (eB (pv 5) (oR a0 wr (pv 2) (yl (yk 4 6)) (λ_ _=>rfl)) ⟨J,J,J,J⟩))))
   (zm (zu (i:=3) ab (vc (WS J) (by rfl) aS.list vS (zz 5)))))))
  (zm (zB (vZ tM (zT xB (by rfl) T.len b_len (zz 3)) zg (zR _))))),?_⟩
 dsimp only[zH,Cx.nox,Cx.wish];have bF:=yV;have a1:=Qo;obtain⟨bG,bH,ac,bI⟩:=id aV;have a2:vs.length=ds.length:=by have:=aF.length;simpa using this
 refine zt λU L=>?_;refine⟨_,J,by show (1:Nat)<=_;exact Qy _,λpl a3=>L _ _ (zt λU L=>?_)⟩;have a4:=Aa.new (o:=.lst [.int (i:Int)]) a3;have a5:c' H pl (.lst [.int (i:Int)]) pl=some (.lst [.int (i:Int)]):=zd;generalize c' H pl (.lst [.int (i:Int)])=H1 at *;refine⟨by show (1:Nat)<=_;exact Qy _,λaf a6=>?_⟩;have aH:=Aa.new (o:=.lst [.ref D]) a6;have a7:c' H1 af (.lst [.ref D]) af=some (.lst [.ref D]):=zd;have aI:=a4.trans aH;have a8:=aH _ _ a5;generalize c' H1 af (.lst [.ref D])=H2 at *;refine⟨_,J,af,q,_,_,J,J,a7,aI _ _ aX,by show 1+vs.length<=_;omega,λpc a9=>?_⟩;have aJ:=Aa.new (o:=.lst ([.ref D]++vs)) a9;have aK:c' H2 pc (.lst ([.ref D]++vs)) pc=some (.lst (.ref D::vs)):=zd;have ag:=aI.trans aJ;have ba:=aJ _ _ a8;generalize c' H2 pc (.lst ([.ref D]++vs))=aL at *;refine⟨pc,.ref D::vs,J,Ad.of aK,?_⟩;have aM:(V.ref D::vs).length=ds.length+1:=by rw[RN,a2]
 refine W9 (K:=K) (a:=pc) (xs:=.ref D::vs) (λt σ I=>∃pl B aq ar M,σ=[some (.int (i:Int)),some (.ref q),some (.ref ap),some (.ref pl),aq,ar,M]/\Aa aL I/\I pl=some (.lst (B.map λe:Nat=>V.int (e:Int)))/\(∀e,e∈B↔rJ b x ((xp ds).take t) i e)/\B.length<=x.length+1)
  ⟨pl,[i],_,_,_,J,Aa.refl _,ba,λe=>?_,by show 1<=_;exact Qy _⟩ (λt σ I _ ⟨_,_,_,_,_,_,s,_⟩=>Ad.of (s _ _ aK)) (λt y σ I ht bd ⟨pl,B,aq,ar,M,as,O,au,S,be⟩=>?_) (λσ I ⟨pl,B,aq,ar,M,as,O,au,S,be⟩=>?_)
 .show e∈[i]↔e=i;exact RA
 .subst as;rw[aM] at ht;obtain⟨ad,rfl,bf⟩:=Rg TO (aF.mono (ag.trans O).x) ht bd;have av:t<(xp ds).length:=by rw[bc];exact ht
  have bg:(xp ds).getD t zS∈rs:=Rf aW aG (yE zS av);have bh:(xp ds).take (t+1)=(xp ds).take t++[(xp ds).getD t zS]:=by
   rw[QK,X1 av,uf zS av];rfl
  rw[bh];generalize (xp ds).getD t zS=R at *;refine zt λU L=>?_;refine λfo aw=>L _ _ (zt λU L=>?_);have ai:=Aa.new (o:=.dK []) aw;have bJ:=(ag.trans O).trans ai;have aN:c' I fo (.dK []) fo=some (.dK []):=zd;have ax:=ai _ _ au;generalize c' I fo (.dK [])=bi at *;have bK:∀ {k},k∈B->k<=x.length->True:=λ_ _=>trivial;refine⟨_,J,pl,J,⟨_,Ad.of ax⟩,tJ (K:=K) (a:=pl) (xs:=B.map λe:Nat=>V.int (e:Int)) (λn σ J0=>∃Z M,σ=[some (.int (i:Int)),some (.ref q),some (.ref ap),some (.ref pl),some (.ref ad),some (.ref fo),M]/\Ac fo bi J0/\J0 fo=some (.dK Z)/\Aw Z λe=>∃k∈B.take n,Sh b x R k e)
   ⟨[],_,J,.refl,aN,Aw.nil.to λe=>⟨Q0,λ⟨k,h,_⟩=>by simp at h⟩⟩ (λn σ J0 _ ⟨_,_,_,s,_⟩=>Ad.of (s _ _ (zj ax aN) ax)) ?_ ?_⟩
  .rintro n y σ J0 ae ⟨Z,M,rfl,aj,ak,aa⟩;have ay:n<B.length:=by have:=(W5.mp ae).1;simpa using this
   have bj:y=V.int ((B[n]:Nat):Int):=by
    rw[RF,X1 ay] at ae;injection ae with ae;exact ae.symm
   subst bj;have bk:B[n]∈B:=RT ay;have bl:B.take (n+1)=B.take n++[B[n]]:=by
    rw[QK,X1 ay];rfl
   have bm:B[n]<=x.length:=bb ac hi ((S _).mp bk);generalize B[n]=W at *;have al:∀Y o,I Y=some o->J0 Y=some o:=λY o G=>aj _ _ (zi G aw) (ai _ _ G);have bn:Aa H J0:=λY o G=>al _ _ ((ag.trans O) _ _ G);have az:=aa.len (n:=x.length) λe ⟨k,_,h⟩=>(vV ac h).1;refine⟨_,J,fo,J,.inl ⟨_,.inl ak⟩,_,J,_,J,_,J,by show (2:Nat)<=_;exact X6 _ _,λam bo=>?_⟩;have ao:=Aa.new (o:=.tup [.ref ad,.int (W:Int)]) bo;have bp:c' J0 am (.tup [.ref ad,.int (W:Int)]) am=some (.tup [.ref ad,.int (W:Int)]):=zd;have aO:=ao _ _ ak;have bq:=bn.trans ao;have br:=(bf.same (λY o G=>al _ _ G)).same ao;have bs:=aj.trans ao.x;generalize c' J0 am (.tup [.ref ad,.int (W:Int)])=bL at *;have aA:=aZ.same bq;obtain⟨bt,_,bu,bv,bw,aP,aQ⟩:=aA.b' R bg W (X7 _) bm;have bx:=aQ.len (n:=x.length) λe h=>(vV ac h).1;refine⟨ap,am,xG R W,a',_,J,J,aA.here,aA.keys,pN (z:=z) br.1 bp,J,bu,bt,Z,bv,bw,J,zj aO aP (by intro e;cases e),aO,aP,by exact ah aY a1 az bx,?_⟩;refine⟨_,_,J,λY o aR G=>by rw[zh aR];exact bs _ _ aR G,zd,(aa.merge aQ).to λe=>?_⟩;rw[bl];constructor
   .rintro(⟨aB,h1,h2⟩|h)
    .exact⟨aB,RW _ h1,h2⟩
    .exact⟨W,S2 _ W8,h⟩
   .rintro⟨aB,h1,h2⟩;rcases T6.mp h1 with h1|h1
    .exact .inl ⟨aB,h1,h2⟩
    .rw[RA.mp h1] at h2;exact .inr h2
  .rintro σ J0 ⟨Z,M,rfl,aj,ak,aa⟩;rw[X5,R1] at aa;have al:Aa aL J0:=λY o G=>aj _ _ (zi (O _ _ G) aw) (ai _ _ (O _ _ G));refine L _ _ ?_;refine⟨_,J,fo,Z,J,ak,λpn bz=>?_⟩;obtain⟨bA,h1,h2,bB⟩:=aa.ints;have az:=aa.len (n:=x.length) λe ⟨k,_,h⟩=>(vV ac h).1;refine⟨pn,bA,_,_,_,J,al.trans (Aa.new bz),by rw[zd,h1],λe=>?_,by exact xq bB az⟩;rw[h2,AX];refine⟨λbC=>?_,λ⟨k,aC,aD⟩=>⟨k,(S k).mpr aC,aD⟩⟩;obtain⟨k,aC,aD⟩:=bC;exact⟨k,(S k).mp aC,aD⟩
 .subst as;refine L _ _ ?_;refine⟨_,J,pl,_,J,.inl (Ad.of au),_,_,J,J,?_⟩;have bD:(xp ds).take (V.ref D::vs).length=xp ds:=by rw[aM,←bc,R1]
  rw[bD] at S;have e:decide ((((B.map λe:Nat=>V.int (e:Int)).length:Nat):Int)>0)=decide (0<cn b x ds i):=by
   refine decide_eq_decide.mpr ?_;rw[SJ ac aG hi,AM,X5];constructor
   .intro g;obtain⟨e,aE⟩:=List.exists_mem_of_length_pos (l:=B) (Qs.1 g);exact⟨e,(S e).mp aE⟩
   .rintro⟨e,aE⟩;have:=MY ((S e).mpr aE);exact wx this
  show Q (.bl (decide ((((B.map λe:Nat=>V.int (e:Int)).length:Nat):Int)>0))) I;rw[e];exact k I (ag.trans O)
theorem Ci:zK ["mark","door","place","doors","ends","tried"] ["mark","door","place","doors","ends"] (zq jh):=zP
inductive m7(P:U2)(w:Rz)(K:W.Frag):Sp where
 |mk {vs:List V} {H:Hp} {Q:VK} {E:XK} (z b x ds rs m u o:_) (i:Nat) (q ed:Addr) (a':_) (c1:vs=[.str m,u,.int (i:Int),.ref q,.ref ed]) (c2:Am z H) (c4:yn b) (c5:ul b rs) (c6:AD z H q ds) (c7:As b ds) (c3:Aj z H u (nJ o)) (c8:((m,o):Mk)∈zE b ds x i) (c9:x.length<=20000) (hD:ds.length<=i) (ho:AH P w K H ed b x rs 0 a')
  (k:∀H',Aa H H'->Q (.bl (decide (0<cn b x (yH ds i m o).2 (i+m.length)))) H'):m7 P w K vs H Q E
theorem Ri(ds:List zp)(i:Nat)(m:Str)(o:Option Dr):(yH ds i m o).2.length<=ds.length+1:=by
 cases o with
 |none=>
  show ds.dropLast.length<=_;rw[Oq];omega
 |some d=>
  show (ds++[_]).length<=_;rw[X4];exact X2 _
theorem Rk(F:Ao K "is_hopeful" "is_hopeful" jh f fd)(T:yu mg)(ab:ud mg)(ac:Cl P w K mg base 2 "take_mark" ["mark","door","place","doors"] rn)(ad:Cl P w K mg base 1 "can_be_whole" ["place","doors","ends"] (pO P w K)):Ag P w K mg base zD 3 f fd ["mark","door","place","doors","ends"] (m7 P w K):=by
 refine F.okA Ci λg4 A outer s H vs Q E L h=>?_;obtain⟨z,b,x,ds,rs,m,u,o,i,q,ae,a',rfl,M,O,af,⟨vs,ag,ah⟩,R,ai,B,aj,ax,ak,k⟩:=h;have al:=Ci.nd;refine⟨_,ze (zu (i:=5) al (vc oA (by rfl) ab.list vS (zz 3)))
  (ze (yy (zA ac L (xO 0 1 2 5)))
  (zm (zB (zA ad (L.mono (by decide)) (zc (zG yO (pv 2) (zT yL (by rfl) T.len b_len (zz 0))) (yk 5 4)))))),?_⟩
 dsimp only[zH,Cx.nox,Cx.wish];have ay:=yV;have az:=Qo;obtain⟨aA,aB,S,aC⟩:=id O;have am:=R.ok S;have G:=rH B;have W:=tw S am (T3.mp B).1;have aD:1<=m.length:=W.1;have Y:m.length<=4:=W.2;have G:i+m.length<=x.length:=G;refine zt λU I=>?_;refine⟨_,J,q,_,J,.inl (Ad.of ag),λpt J0=>I _ _ (zt λU I=>?_)⟩;have D:=Aa.new (o:=.lst vs) J0;have ao:c' H pt (.lst vs) pt=some (.lst vs):=zd;have ap:pt≠z:=M.ne J0;generalize c' H pt (.lst vs)=H1 at *;have aq:o=none->0<ds.length:=λe=>by
  subst e;obtain⟨aE,d,rfl,_⟩:=mU (T3.mp B).1;rw[X4];show 0<_+1;exact Qy _
 refine⟨_,J,_,J,_,J,_,J,z,m,u,o,i,pt,ds,J,M.same D,ap,ai.mono D.x,by exact zC Y,⟨vs,ao,ah.mono D.x⟩,by omega,aq,λp H2 ar aF aG as=>I _ _ ?_⟩;have Z:Aa H H2:=λaH o aa=>ar _ _ (zi aa J0) (D _ _ aa);have aI:=Ri ds i m o;have au:(i:Int)+(m.length:Int)=((i+m.length:Nat):Int):=rfl;refine⟨_,J,_,J,m,J,by exact zC Y,_,_,J,J,_,J,_,J,z,b,x,(yH ds i m o).2,rs,i+m.length,pt,ae,a',by show [V.int ((i:Int)+(m.length:Int)),_,_]=_;rw[au],O,af,as,sF (y:=(m,o)) R (T3.mp B).1,G,aj,by omega,ak.same Z,λav aw=>k av (Z.trans aw)⟩
noncomputable def sH:Option Nat->V
 |none=>.non
 |some p=>.int (p:Int)
theorem Rl(i:Nat)(t:Option Nat):decide (V.int (i:Int)=sH t)=decide (some i=t):=by
 refine decide_eq_decide.mpr ?_;cases t with
 |none=>exact⟨(λh=>nomatch h),(λh=>nomatch h)⟩
 |some p=>
  constructor
  .intro h;injection h with h;have:i=p:=Q7 h;rw[this]
  .intro h;injection h with h;rw[h];rfl
theorem Ro(ds:List zp)(i:Nat)(m:Str)(o:Option Dr):(yH ds i m o).1.2.1=(m.length:Int):=by cases o<;>rfl
theorem Rp(ds:List zp)(i:Nat)(m:Str)(o:Option Dr):(yH ds i m o).1.2.2.1.length<=1000:=by
 cases o with
 |none=>show (YP "close").length<=_;lia
 |some d=>show (YP "open").length<=_;lia
theorem Rq(b:Bk)(ds:List zp)(x:Str)(i:Nat):(yz b ds x i).2.2.1.length<=1000:=by
 unfold yz;split
 .split
  .show (YP "escape").length<=_;lia
  .show (YP "cut").length<=_;lia
 .show (YP "sign").length<=_;lia
noncomputable def wV(b:Bk)(x:Str)(s:vW):List Nat:=if 1<(g8 b x s.ds s.b').length then s.ts++[s.b'] else s.ts
theorem Rr{x:Str}{s:vW}(hi:s.b'<x.length)(h:g8 b x s.ds s.b'=[]):xy b x turn s=⟨s.b'+(yz b s.ds x s.b').2.1.toNat,s.ds,s.ss++[yz b s.ds x s.b'],wV b x s⟩:=by
 unfold xy wV;rw[Qxb hi];simp only[h,if_true]
theorem Rs{x:Str}{s:vW}(hi:s.b'<x.length)(h:g8 b x s.ds s.b'≠[]){y:Mk}(B:y=(g8 b x s.ds s.b').getD (if some s.b'=turn then 1 else 0) yq):xy b x turn s=⟨s.b'+y.1.length,(yH s.ds s.b' y.1 y.2).2,s.ss++[(yH s.ds s.b' y.1 y.2).1],wV b x s⟩:=by
 unfold xy wV;rw[Qxb hi];simp only[Qxa h];rw[B]
inductive m8(P:U2)(w:Rz)(K:W.Frag):Sp where
 |mk {vs:List V} {H:Hp} {Q:VK} {E:XK} (z v b x rs turn:_) (ed:Addr) (a':_) (c1:vs=[v,.str x,.ref ed,sH turn]) (c2:Am z H) (c3:Aj z H v (yp b)) (c4:yn b) (c5:ul b rs) (c9:x.length<=20000) (ho:AH P w K H ed b x rs 0 a') (hD:0<cn b x [] 0)
  (c12:∀n,tE b x (zM b x turn n)/\(some (zM b x turn n).b'=turn->1<(g8 b x (zM b x turn n).ds (zM b x turn n).b').length))
  (q:∀n p pt pn ws H',(zM b x turn n).b'=x.length->Aa H H'->H p=none->H' p=some (.tup [.ref pt,.ref pn])->H pt=none->pt≠z->H' pt=some (.lst ws)->Ab z H' ws ((zM b x turn n).ss.map yb)->H' pn=some (.lst ((zM b x turn n).ts.map λe:Nat=>V.int (e:Int)))->Q (.ref p) H'):m8 P w K vs H Q E
theorem BB:zK ["book","text","ends","turn","told","turns","doors","place","fits","hopeful","mark","door","step"] ["book","text","ends","turn"] (zq ni):=zP
theorem Rv:(["fit","doors","ends","place"]:List Str).Nodup:=by lia
theorem Rx(F:Ao K "whole_reading" "whole_reading" ni f fd)(T:yu mg)(bP:Cl P w K mg base 3 "fitting_marks" ["book","text","place","doors"] sg)(bQ:Cl P w K mg base 2 "read_plain" ["book","text","place","doors"] rp)(bR:Cl P w K mg base 2 "take_mark" ["mark","door","place","doors"] rn)(bS:Cl P w K mg base 3 "is_hopeful" ["mark","door","place","doors","ends"] (m7 P w K)):Ag P w K mg base zD 4 f fd ["book","text","ends","turn"] (m8 P w K):=by
 refine F.okA BB λg4 A outer s H vs Q E aB h=>?_;obtain⟨z,v,b,x,rs,turn,ae,a',rfl,Y,bh,aC,bT,aN,bU,cR,bi,k⟩:=h;have I:=BB.nd;refine⟨_,ze (zu (i:=4) I (zV zf))
  (ze (zu (i:=5) I (zV zf))
  (ze (rT (i:=6) I J (Or.inr J) (zV zf))
  (ze (rT (i:=7) I J (Or.inr J) zg)
  (ze (uw Rn (zZ vb (pv 7) (zT yL (by rfl) T.len b_len (zz 1)) (zR _))
   (ze (zu (i:=8) I (zA bP (aB.mono (by decide)) (xO 0 1 7 6)))
   (ze (uJ (N':=["fit","doors","ends","place"]) (js:=[none,some 6,some 2,some 7]) (i:=9) J J I J (Or.inl J) (yZ (zq ni) (by lia)) ⟨J,Or.inr (Or.inl J),J,J,Or.inr (Or.inl J),J,J,Or.inr (Or.inl J),J,trivial⟩
    (xb (pv 8)) (λcl s H fp=>zw (i:=0) Rv)
    (λcl s H fp=>vt (xa (zA bS aB (zc (zx wg (pv 0) zg (λ_ _=>rfl)) (zc (zx wg (pv 0) zg (λ_ _=>rfl)) (uR 3 1 2))))))
    (λcl s H fp=>pv 0))
   (ze (ya (zZ tM (zT xB (by rfl) T.len b_len (zz 9)) zg (zR _))
    (zm (yy (yW U1 S8 S9 xC (pv 5) (zz 7)))) ye)
   (ze (ya (uB (pv 9) (λ_=>rfl))
    (ze (xt (zx Ae (pv 9) (om (zZ xI (pv 7) (pv 3) (zR _)) zg zg) (λ_ _=>rfl)) (yR J (zF (zw (i:=10) I) (zF (zw (i:=11) I) yJ))))
    (zm (zu (i:=12) I (zA bR (aB.mono (by decide)) (xO 10 11 7 6)))))
    (zm (zu (i:=12) I (zA bQ (aB.mono (by decide)) (xO 0 1 7 6)))))
   (ze (yy (yW U1 S8 S9 xC (pv 4) (zz 12)))
   (zm (rV (i:=7) I J (Or.inr J) (zx Ai (pv 12) zg (λ_ _=>rfl)) rW))))))))
  (zm (zB (yl (yk 4 5)))))))),?_⟩
 dsimp only[zH,Cx.nox,Cx.wish];have cS:=yV;have cT:=Qo;obtain⟨cU,cV,aq,cW⟩:=id aC;refine⟨X7 _,λpt aD=>⟨X7 _,λpn aE=>⟨X7 _,λq ar=>?_⟩⟩⟩;have aO:=Aa.new (o:=.lst []) aD;have bj:c' H pt (.lst []) pt=some (.lst []):=zd;have bV:pt≠z:=Y.ne aD;generalize c' H pt (.lst [])=H1 at *;have bk:=Aa.new (o:=.lst []) aE;have bl:c' H1 pn (.lst []) pn=some (.lst []):=zd;have cX:pn≠z:=(Y.same aO).ne aE;have bm:=bk _ _ bj;have bn:pn≠pt:=(zi bj aE).symm;have bW:H pn=none:=aO.free aE;generalize c' H1 pn (.lst [])=H2 at *;have aP:=Aa.new (o:=.lst []) ar;have bX:c' H2 q (.lst []) q=some (.lst []):=zd;have aQ:=aO.trans bk;have bY:q≠z:=(Y.same aQ).ne ar;have bZ:=aP _ _ bm;have b0:=aP _ _ bl;have bo:q≠pt:=(zi bm ar).symm;have bp:q≠pn:=(zi bl ar).symm;have b1:H q=none:=aQ.free ar;have b2:=aQ.trans aP;generalize c' H2 q (.lst [])=b3 at *;refine uy (λσ ab=>∃n bq br aR aS aT,σ=[some v,some (.str x),some (.ref ae),some (sH turn),some (.ref pt),some (.ref pn),some (.ref q),some (.int ((zM b x turn n).b':Int)),bq,br,aR,aS,aT]/\Aa H ab/\AD z ab q (zM b x turn n).ds/\(∃R,ab pt=some (.lst R)/\Ab z ab R ((zM b x turn n).ss.map yb))/\ab pn=some (.lst ((zM b x turn n).ts.map λe:Nat=>V.int (e:Int)))/\(zM b x turn n).ts.length<=(zM b x turn n).b')
  (λσ ab=>match σ[7]? with|some (some (V.int i))=>x.length-i.toNat|_=>0) ⟨0,_,_,_,_,_,J,b2,⟨[],bX,.nil⟩,⟨[],bZ,.nil⟩,b0,X2 _⟩ ?_ ?_
 .rintro σ ab ⟨n,bq,br,aR,aS,aT,rfl,as,aU,⟨R,aV,bs⟩,aW,bt⟩;obtain⟨aX,bu⟩:=bi n;have b4:=(bi (n+1)).1;obtain⟨bv,b5,b6⟩:=pM aX.pth;have b7:=SK aq aX.pth;have aY:=bv.ok aq;have af:=λh=>mX aq aX bu h;have aZ:zM b x turn (n+1)=xy b x turn (zM b x turn n):=rfl;generalize a0:zM b x turn n=S at *;refine⟨_,J,_,J,x,J,by exact zC aN,_,_,J,J,_,J,?_⟩;refine yc (λW=>?_) (λW=>?_)
  .have W:S.b'<x.length:=by have:=Qxc W;exact Qs.1 this
   have af:=af W;show (xH _ _) _ _ _;refine yT λcY b8 _ _ _=>zt λU au=>?_;refine⟨_,J,_,J,_,J,_,J,z,v,b,q,S.ds,x,S.b',J,Y.same as,bh.mono as.x,aC,aU,aY,λag fs cZ B c0 a1 bw=>au _ _ (zt λU au=>?_)⟩;have a2:=as.trans B;have a3:fs.length=(zE b S.ds x S.b').length:=by have:=bw.length;simpa using this
   have b9:(zE b S.ds x S.b').length<=10:=S5 (Py _ _) (jC aq);refine⟨_,J,ag,J,⟨_,Ad.of a1⟩,λL av=>?_⟩;have bx:ag≠L:=zi a1 av;refine qI (z:=z) (λj=>decide (0<cn b x (yH S.ds S.b' ((zE b S.ds x S.b').getD j yq).1 ((zE b S.ds x S.b').getD j yq).2).2 (S.b'+((zE b S.ds x S.b').getD j yq).1.length))) (λj=>wb ((zE b S.ds x S.b').getD j yq)) (λσ=>∃u,σ=[u,some (.ref q),some (.ref ae),some (.int (S.b':Int))]) ⟨none,J⟩ av (ww a3 b9) (x8 (xs:=fs) (by rw[zh bx];exact a1) bx) (λj=>jB _) (λj σ a4 c1 c2 Z ⟨u,ca⟩ a5 cb cc=>?_) (λσ a4 O aw a6 ah=>?_)
   .subst ca;have ai:j<(zE b S.ds x S.b').length:=zU Z (RH a3);have aj:=(uY (ms:=zE b S.ds x S.b') (i:=j) bw ai).mono a5.x (z:=z);have a7:=yE yq ai;generalize (zE b S.ds x S.b').getD j yq=ac at *;obtain⟨m,o⟩:=ac;obtain⟨a,u,e,cd,aF,bz,a8⟩:=uX aj;have aG:=a2.trans a5;rw[e] at aj ⊢;refine⟨_,J,a,_,0,_,J,J,Ah.of aF,zy (j:=0) J,_,J,a,_,1,_,J,J,Ah.of aF,zy (j:=1) J,_,J,_,J,_,J,z,b,x,S.ds,rs,m,u,o,S.b',q,ae,a',J,Y.same aG,aC,bT,aU.same (B.trans a5),bv,a8,a7,aN,by exact S5 b6 b7,bU.same aG,λak a9=>⟨_,J,?_⟩⟩;refine yc (λh=>?_) (λh=>?_)
    .exact⟨_,J,cb h _ _ _ ⟨_,J⟩ a9 (aj.mono a9.x)⟩
    .exact cc (by simpa using h) _ _ ⟨_,J⟩ a9
   .rw[a3,dk (zE b S.ds x S.b') yq (λy=>decide (0<cn b x (yH S.ds S.b' y.1 y.2).2 (S.b'+y.1.length))) wb] at ah;have ah:Ab z a4 O ((g8 b x S.ds S.b').map wb):=ah;have ax:O.length=(g8 b x S.ds S.b').length:=by have:=ah.length;simpa using this
    have aG:=a2.trans aw;have bA:=(B.trans aw) _ _ aV;have ad:=(B.trans aw) _ _ aW;have bB:=bs.mono (B.trans aw).x (z:=z);have bC:=aU.same (B.trans aw);have c3:H L=none:=a2.free av;have ce:L≠pn:=(zi (B _ _ aW) av).symm;have c4:L≠pt:=(zi (B _ _ aV) av).symm;refine au _ _ ?_;refine qf (J0:=λσ' ak=>σ'=[some v,some (.str x),some (.ref ae),some (sH turn),some (.ref pt),some (.ref pn),some (.ref q),some (.int (S.b':Int)),some (.ref ag),some (.ref L),aR,aS,aT]/\Ac pn a4 ak/\ak pn=some (.lst ((wV b x S).map λe:Nat=>V.int (e:Int)))) (λU J0=>?g1) ?g2
    case g1=>
     refine⟨_,J,L,_,J,.inl (Ad.of a6),_,_,J,J,_,J,yc (λg=>?_) (λg=>?_)⟩
     .have g:1<(g8 b x S.ds S.b').length:=by have:=Qxc g;omega
      refine⟨_,J,.inl ⟨J,_,Ad.of ad⟩,_,J,pn,_,_,J,J,ad,by rw[X5];omega,J0 _ _ ⟨J,λaH o ba G=>by rw[zh ba];exact G,?_⟩⟩;rw[zd];unfold wV;rw[Qxb g,T5];rfl
     .have g:¬1<(g8 b x S.ds S.b').length:=λh=>g (Qxd (by show (1:Int)<_;omega));refine J0 _ _ ⟨J,Ac.refl,?_⟩;unfold wV;rw[Qxa g];exact ad
    case g2=>
     rintro σ' ak ⟨rfl,aa,bD⟩;have bE:=aa _ _ bn.symm bA;have bb:=aa _ _ ce a6;have bF:=Ab.butL ad aa bB (xf _);have cf:=Ab.butL ad aa ah (nK _);have aI:AD z ak q S.ds:=by
      obtain⟨aJ,g1,g2⟩:=bC;exact⟨aJ,aa _ _ bp g1,Ab.butL ad aa g2 (vF _)⟩
     have al:Aa H ak:=λaH o G=>aa _ _ (zi G bW) (aG _ _ G);have cg:(wV b x S).length<=S.b'+1:=by
      unfold wV;split
      .rw[X4];show _+1<=_;exact Ra bt
      .exact R9 bt
     clear ah a6 ad bB bC aa bA;refine qf (J0:=λσ' D=>∃ps st ay aK aL,σ'=[some v,some (.str x),some (.ref ae),some (sH turn),some (.ref pt),some (.ref pn),some (.ref q),some (.int (S.b':Int)),some (.ref ag),some (.ref L),aK,aL,some (.ref ps)]/\Aa H D/\D ps=some (.tup (xQ st))/\ps≠z/\st.2.2.1.length<=1000/\((st.2.1.toNat:Nat):Int)=st.2.1/\AD z D q ay/\(∃R,D pt=some (.lst R)/\Ab z D R (S.ss.map yb))/\D pn=some (.lst ((wV b x S).map λe:Nat=>V.int (e:Int)))/\zM b x turn (n+1)=⟨S.b'+st.2.1.toNat,ay,S.ss++[st],wV b x S⟩) (λU J0=>?h1) ?h2
     case h1=>
      refine⟨_,J,_,.inl ⟨O,Ad.of bb,J⟩,yc (λg=>?_) (λg=>?_)⟩
      .have bG:g8 b x S.ds S.b'≠[]:=λe=>by
        rw[e] at ax;rw[Ry ax] at g;simp at g
       have ch:=QA.mpr bG;have ci:lO (V.int (S.b':Int)) (sH turn)=true:=by cases turn<;>rfl
       refine zt λc5 cj=>?_;refine⟨_,J,_,J,_,J,ci,_,J,?_⟩;rw[Rl];obtain⟨j,Z⟩:∃j,j=if some S.b'=turn then 1 else 0:=⟨_,J⟩;have ai:j<(g8 b x S.ds S.b').length:=by
        rw[Z];split
        .rename_i h;exact bu h
        .exact ch
       obtain⟨ac,bc⟩:∃ac,ac=(g8 b x S.ds S.b').getD j yq:=⟨_,J⟩;have M:zM b x turn (n+1)=_:=aZ.trans (Rs (y:=ac) W bG (by rw[←Z];exact bc));have ck:ac∈g8 b x S.ds S.b':=by rw[bc];exact yE yq ai
       have aj:=uY (ms:=g8 b x S.ds S.b') (i:=j) cf ai;rw[←bc] at aj;obtain⟨m,o⟩:=ac;obtain⟨a,u,e,cd,aF,bz,a8⟩:=uX aj;have bH:O[j]?=some (.ref a):=by
        have h1:j<O.length:=zU ai ax;have h2:O.getD j .non=O[j]:=by simp[h1]
        rw[X1 h1,←h2,e]
       have a7:=(iB ck).1;have bJ:=(T3.mp a7).1;have cm:o=none->0<S.ds.length:=λe=>by
        subst e;obtain⟨ay,d,e,_⟩:=mU bJ;rw[e,X4];show 0<_+1;exact Qy _
       have co:=tw aq aY bJ;have c6:m.length<=4:=co.2;have bK:=Ro S.ds S.b' m o;have cp:=Rp S.ds S.b' m o;have M:zM b x turn (n+1)=⟨S.b'+(yH S.ds S.b' m o).1.2.1.toNat,(yH S.ds S.b' m o).2,S.ss++[(yH S.ds S.b' m o).1],wV b x S⟩:=by
        rw[M,bK];rfl
       by_cases ht:some S.b'=turn
       case' pos=>
        rw[Qxd ht];rw[Qxb ht] at Z;subst Z;refine yS ⟨L,O,1,.ref a,J,J,Ad.of bb,zy (j:=1) bH,?_⟩
       case' neg=>
        rw[decide_eq_false ht];rw[Qxa ht] at Z;subst Z;refine yi ⟨L,O,0,.ref a,J,J,Ad.of bb,zy (j:=0) bH,?_⟩
       all_goals
        refine⟨a,_,J,Ah.of aF,J,_,_,J,_,_,J,J,cj _ _ ?_⟩;refine⟨_,J,_,J,_,J,_,J,z,m,u,o,S.b',q,S.ds,J,Y.same al,bY,a8,by exact bz,aI,by omega,cm,λp D aM am bd be=>J0 _ _ ?_⟩;obtain⟨aJ,cq,_⟩:=id aI;exact⟨p,(yH S.ds S.b' m o).1,(yH S.ds S.b' m o).2,_,_,J,λaH o' G=>aM _ _ (zi G b1) (al _ _ G),bd,(Y.same al).ne am,cp,by rw[bK];exact rfl,be,⟨R,aM _ _ bo.symm bE,Ab.butL cq aM bF (xf _)⟩,aM _ _ bp.symm bD,M⟩
      .have cr:g8 b x S.ds S.b'=[]:=by
        refine Ry ?_;cases O with
        |nil=>simp at ax;exact RH ax
        |cons _ _=>simp at g
       have M:zM b x turn (n+1)=_:=aZ.trans (Rr W cr);have cs:=tu b S.ds x S.b';refine⟨_,J,_,J,_,J,_,J,z,v,b,q,S.ds,x,S.b',J,bh.mono al.x,aC,aI,aY,W,aN,λp D az am bd=>J0 _ _ ⟨p,yz b S.ds x S.b',S.ds,_,_,J,al.trans az,bd,(Y.same al).ne am,Rq b S.ds x S.b',cs.2.2.1,aI.same az,⟨R,az _ _ bE,bF.mono az.x⟩,az _ _ bD,M⟩⟩
     case h2=>
      rintro σ' D ⟨ps,st,ay,aK,aL,rfl,cu,bL,cv,hw,cw,be,⟨ao,aA,bM⟩,cx,M⟩;have c7:ao.length=S.ss.length:=by have:=bM.length;simpa using this
      refine zt λU au=>?_;refine⟨_,J,.inl ⟨J,_,Ad.of aA⟩,_,J,pt,_,_,J,J,aA,by omega,au _ _ ?_⟩;have ap:Ac pt D (c' D pt (.lst (ao++[.ref ps]))):=λaH o ba G=>by rw[zh ba];exact G
      have cy:c' D pt (.lst (ao++[.ref ps])) pt=some (.lst (ao++[.ref ps])):=zd;generalize c' D pt (.lst (ao++[.ref ps]))=bf at *;have bN:=ap _ _ (zj bL aA) bL;have cz:Ab z bf (ao++[.ref ps]) ((S.ss++[st]).map yb):=by
       rw[T5];exact(Ab.butL aA ap bM (xf _)).append (.cons (jP bN cv hw) .nil)
      have cA:AD z bf q ay:=by
       obtain⟨aJ,g1,g2⟩:=be;exact⟨aJ,ap _ _ bo g1,Ab.butL aA ap g2 (vF _)⟩
      have cB:Aa H bf:=λaH o G=>ap _ _ (zi G aD) (cu _ _ G);have cC:=ap _ _ bn cx;refine⟨_,J,_,J,ps,_,1,_,J,J,Ah.of bN,zy (j:=1) J,_,_,J,J,?_⟩;have af:S.b'<(zM b x turn (n+1)).b':=by rw[aZ];exact af
      have bO:(S.b':Int)+st.2.1=((zM b x turn (n+1)).b':Int):=by
       rw[M];show _=((S.b'+st.2.1.toNat:Nat):Int);exact iX cw
      refine b8 _ _ ⟨⟨n+1,some (.ref ag),some (.ref L),aK,aL,some (.ref ps),?_,cB,by rw[M];exact cA,⟨_,cy,by rw[M];exact cz⟩,by rw[M];exact cC,?_⟩,?_⟩
      .show [some v,some (.str x),some (.ref ae),some (sH turn),some (.ref pt),some (.ref pn),some (.ref q),some (.int ((S.b':Int)+st.2.1)),some (.ref ag),some (.ref L),aK,aL,some (.ref ps)]=_;rw[bO]
      .have bg:(zM b x turn (n+1)).ts=wV b x S:=by rw[M]
       rw[bg];exact S5 cg af
      .show x.length-((S.b':Int)+st.2.1).toNat<x.length-(S.b':Int).toNat;have:=(pM b4.pth).2.1;exact bI W af bO
  .have cD:S.b'=x.length:=by
    have:¬((S.b':Int)<(x.length:Int)):=λq=>W (Qxd q);exact lC b5 this
   refine⟨_,J,_,J,by show (2:Nat)<=_;exact X6 _ _,λp am=>?_⟩;have B:=Aa.new (o:=.tup [.ref pt,.ref pn]) am;refine k n p pt pn R _ (by rw[a0];exact cD) (as.trans B) (as.free am) zd aD bV (B _ _ aV) (by rw[a0];exact bs.mono B.x) (by rw[a0];exact B _ _ aW)
 .rintro σ b3 c8 c9 cE ⟨cF,bg,cG,cH,cI,cJ,cK,cL,cM,cN,cO,cP,cQ,h⟩;exact⟨cF,bg,cG,cH,cI,cJ,cK,cL,cM,cN,cO,cP,cQ,cE _ _ h⟩
inductive pP(z:Addr)(H:Hp):List V->Prop where
 |none:pP z H [.str "none"]
 |one {pt:Addr} {ws:List V} {ss:List zQ} (hp:H pt=some (.lst ws)) (r:Ab z H ws (ss.map yb)):pP z H [.str "one",.ref pt]
 |two {pt pu:Addr} {ws us:List V} {ss ts:List zQ} (hp:H pt=some (.lst ws)) (r:Ab z H ws (ss.map yb)) (hp2:H pu=some (.lst us)) (r2:Ab z H us (ts.map yb)):pP z H [.str "two",.ref pt,.ref pu]
theorem RB(b:Bk){x:Str}(B:∀t∈b,An b.length t)(D:0<cn b x [] 0){N p:Nat}(h:(zM b x none N).ts.head?=some p):∀n,tE b x (zM b x (some p) n)/\(some (zM b x (some p) n).b'=some p->1<(g8 b x (zM b x (some p) n).ds (zM b x (some p) n).b').length):=by
 obtain⟨j,R,_,F,G,J0⟩:=cQ h;intro n;obtain⟨h1,h2⟩:=cR B D F G J0 n;refine⟨h1,λe=>?_⟩;injection e with e;have L:n<=j:=by
  rcases IT j n with g|g
  .have:=h2 g;omega
  .exact g
 have I:=mY B D F G n L;rcases IT n j with g|g
 .have M:=iC B D g (by rw[←I,e];exact G);rw[←I,e,F] at M;exact rM M
 .have O:n=j:=RU L g;rw[e,I,O];exact J0
inductive m9:Sp where
 |mk {vs:List V} {H:Hp} {Q:VK} {E:XK} (z v b x:_) (c1:vs=[v,.str x]) (c2:Am z H) (c3:Aj z H v (yp b)) (c4:yn b) (c9:x.length<=20000)
  (q:∀p ts H',Aa H H'->H p=none->H' p=some (.tup ts)->pP z H' ts->Q (.ref p) H'):m9 vs H Q E
theorem BJ:zK ["book","text","ends","told","turns","other","more"] ["book","text"] (zq ji):=zP
theorem RG(F:Ao K "free_readings" "free_readings" ji f fd)(aq:Cl P w K mg base 5 "all_ends" ["book","text"] (m5 P w K))(ar:Cl P w K mg base 1 "can_be_whole" ["place","doors","ends"] (pO P w K))(ad:Cl P w K mg base 4 "whole_reading" ["book","text","ends","turn"] (m8 P w K)):Ag P w K mg base zD 6 f fd ["book","text"] m9:=by
 refine F.okA BJ λg4 A outer s H vs Q E R h=>?_;obtain⟨z,v,b,x,rfl,Y,Z,I,S,k⟩:=h;have J0:=BJ.nd;refine⟨_,ze (zu (i:=2) J0 (zA aq R (yk 0 1)))
  (ze (ya (xr (xa (zA ar (R.mono (by decide)) (zc zg (zc (zV zf) (zz 2)))))) (zm (zB (yl (zc z0 zf)))) ye)
  (ze (xt (zA ad (R.mono (by decide)) (zc (pv 0) (zc (pv 1) (zc (pv 2) (zc sM zf))))) (yR J (zF (zw (i:=3) J0) (zF (zw (i:=4) J0) yJ))))
  (ze (ya (xr (uB (pv 4) (λ_=>rfl))) (zm (zB (yl (zc z0 (zz 3))))) ye)
  (ze (xt (zA ad (R.mono (by decide)) (zc (pv 0) (zc (pv 1) (zc (pv 2) (zc (zx Ae (pv 4) zg (λ_ _=>rfl)) zf))))) (yR J (zF (zw (i:=5) J0) (zF (zw (i:=6) J0) yJ))))
  (zm (zB (yl (zc z0 (yk 3 5))))))))),?_⟩
 dsimp only[zH,Cx.nox,Cx.wish];have aG:=yV;have aH:=Qo;obtain⟨aI,aJ,ae,aK⟩:=id I;have as:As b []:=λd au=>nomatch au;refine zt λU B=>?_;refine⟨_,J,_,J,z,v,b,x,J,Y,Z,I,S,λaa rs a' H1 av ab af=>B _ _ (zt λU B=>?_)⟩;refine⟨X7 _,λV aw=>⟨_,J,?_⟩⟩;have ac:=Aa.new (o:=.lst []) aw;have ax:=av.trans ac;have ay:c' H1 V (.lst []) V=some (.lst []):=zd;generalize c' H1 V (.lst [])=H2 at *;refine⟨z,b,x,[],rs,0,V,aa,a',J,I,ab,⟨[],ay,.nil⟩,as,X7 _,S,X7 _,af.same ac,λaL ag=>⟨_,J,?_⟩⟩;have L:=ax.trans ag;have ah:=af.same (ac.trans ag);refine yc (λg=>?_) (λg=>B _ _ (zt λU B=>?_))
 .refine⟨by show (1:Nat)<=_;exact Qy _,λp D=>?_⟩;exact k p _ _ (L.trans (Aa.new D)) (L.free D) zd .none
 .have W:0<cn b x [] 0:=by
   have:¬ ¬0<cn b x [] 0:=by simpa using g
   omega
  clear g;refine⟨_,J,_,J,_,J,z,v,b,x,rs,none,aa,a',J,Y.same L,Z.mono L.x,I,ab,S,ah,W,λn=>⟨mW ae W n,λe=>nomatch e⟩,λN p pt pn aM aN aO ai D az aP aQ aj ak al=>?_⟩;have M:=L.trans ai;refine⟨p,_,J,Ah.of az,J,_,_,J,_,_,J,J,B _ _ (zt λU B=>?_)⟩;refine⟨_,J,_,.inl ⟨_,Ad.of al,J⟩,yc (λg=>?_) (λg=>B _ _ ?_)⟩
  .refine⟨_,J,by show (2:Nat)<=_;exact X6 _ _,λp D=>?_⟩;have G:=Aa.new (o:=.tup [.str "one",.ref pt]) D;exact k p _ _ (M.trans G) (M.free D) zd (.one (G _ _ aj) (ak.mono G.x))
  .obtain⟨a,r,am⟩:∃a r,(zM b x none N).ts=a::r:=by
    cases e:(zM b x none N).ts with
    |nil=>rw[e] at g;simp at g
    |cons a r=>exact⟨a,r,J⟩
   have aA:(zM b x none N).ts.head?=some a:=by rw[am];rfl
   have aB:=ah.same ai;have ao:=al;rw[am] at ao;refine zt λU B=>?_;refine⟨_,J,_,J,_,J,_,J,pn,_,0,_,J,J,Ad.of ao,zy (j:=0) J,z,v,b,x,rs,some a,aa,a',J,Y.same M,Z.mono M.x,I,ab,S,aB,W,RB b ae W aA,λaR p2 aC aS aT aU aV G aW aD aX aY aE aF aZ=>?_⟩;refine⟨p2,_,J,Ah.of aD,J,_,_,J,_,_,J,J,B _ _ ?_⟩;have ap:=M.trans G;refine⟨_,J,_,J,by show (3:Nat)<=_;exact X6 _ _,λp D=>?_⟩;have O:=Aa.new (o:=.tup [.str "two",.ref pt,.ref aC]) D;exact k p _ _ (ap.trans O) (ap.free D) zd (.two ((G.trans O) _ _ aj) (ak.mono (G.trans O).x) (O _ _ aE) (aF.mono O.x))
end T1
namespace T1
open PySem L2 Builtin Builtin.Str
variable {f tb z:Addr}{fd:FuncData}{n:Nat}{t:Tg}{H H':Hp}{v:V}{p:V->Prop}
variable {P:U2}{w:Rz}{K:W.Frag}{mg:Str->Option X3}{base:Heap}
theorem iG(x:Str):x.cps.toList.length=x.length:=by simp;rfl
noncomputable def vp(c:Nat)(z:List Nat)(l:List Nat):List Nat:=l.flatMap λk=>if k=c then z else [k]
theorem iH{c:Nat}{z:List Nat}:∀ {l:List Nat},c∉l->vp c z l=l
 |[],_=>rfl
 |k::r,h=>by
  have h1:¬k=c:=λe=>h (e ▸ W8 ..);have h2:c∉r:=λm=>h (T7 _ m);show (if k=c then z else [k])++vp c z r=_;rw[Qxa h1,iH h2];rfl
theorem bd(c:Nat)(z a b:List Nat):vp c z (a++b)=vp c z a++vp c z b:=OA
theorem be(c:Nat)(z:Str):∀B:List Str,(∀p∈B,c∉p.cps.toList)->vp c z.cps.toList (N1 ⟨#[c]⟩ B).cps.toList=(N1 z B).cps.toList
 |[],_=>rfl
 |[p],h=>iH (h p (RA.mpr J))
 |p::q::r,h=>by
  have D:=be c z (q::r) λa F=>h a (T7 _ F);show vp c _ (p++⟨#[c]⟩++N1 ⟨#[c]⟩ (q::r)).cps.toList=(p++z++N1 z (q::r)).cps.toList;simp only[Str.cps_append,KI];rw[bd,bd,D,iH (h p (W8 ..))];have e:vp c z.cps.toList [c]=z.cps.toList:=by unfold vp;simp
  rw[e]
theorem RI(x z:Str)(c:Nat):(Pb x ⟨#[c]⟩ z).cps.toList=vp c z.cps.toList x.cps.toList:=by
 rw[StrLaws.replace_one,←be c z _ (StrLaws.split_free x c),StrLaws.join_split]
theorem bf:YP "\\"=⟨#[92]⟩:=by lia
theorem bh:YP " "=⟨#[32]⟩:=by lia
theorem RJ:YP "\n"=⟨#[10]⟩:=by lia
noncomputable def wW(x:Str):Str:=Pb (Pb (Pb x (YP "\\") (YP "\\\\")) (YP " ") (YP "\\s")) (YP "\n") (YP "\\n")
inductive la:Sp where
 |mk {vs:List V} {H:Hp} {Q:VK} {E:XK} (x:Str) (c1:vs=[.str x]) (c2:x.length<=20000) (c3:Q (.str (wW x)) H):la vs H Q E
theorem bi(c:Nat)(z:List Nat)(B:z.length<=2):∀l:List Nat,(vp c z l).length<=2*l.length
 |[]=>X2 _
 |k::r=>by
  have D:=bi c z B r;show ((if k=c then z else [k])++vp c z r).length<=_;rw[X4,RN];have:(if k=c then z else [k]).length<=2:=by split;exact B;exact PF 1
  omega
theorem pQ(x z:Str)(c:Nat)(B:z.length<=2):(Pb x ⟨#[c]⟩ z).length<=2*x.length:=by
 rw[←iG,RI,←iG x];exact bi c _ (by rw[iG];exact B) _
theorem range_map{B D:Type}(d:B)(f:B->D)(l:List B):(RO l.length).map (λi=>f (l.getD i d))=l.map f:=by
 refine Pt (by simp) λi h1 h2=>?_;have F:i<l.length:=by simpa using h2
 simp[F]
theorem lc(x:Str):(wW x).length<=8*x.length:=by
 unfold wW;rw[bf,bh,RJ];have h1:=pQ x (YP "\\\\") 92 (by lia);have h2:=pQ (Pb x ⟨#[92]⟩ (YP "\\\\")) (YP "\\s") 32 (by lia);have B:=pQ (Pb (Pb x ⟨#[92]⟩ (YP "\\\\")) ⟨#[32]⟩ (YP "\\s")) (YP "\\n") 10 (by lia);omega
theorem RK:zK ["text"] ["text"] (zq jk):=zP
theorem RM(F:Ao K "write_signs" "write_signs" jk f fd):Ag P w K mg base zD 1 f fd ["text"] la:=by
 refine F.okA RK λg4 A outer s H vs Q E D h=>?_;obtain⟨x,rfl,B,k⟩:=h;refine⟨_,zm (zB (kN (kN (kN (pv 0) (by lia) (by lia)) (by lia) (by lia)) (by lia) (by lia))),?_⟩;have h1:(Pb x (YP "\\") (YP "\\\\")).length<=2*x.length:=by rw[bf];exact pQ x _ 92 (by lia)
 have h2:(Pb (Pb x (YP "\\") (YP "\\\\")) (YP " ") (YP "\\s")).length<=2*(Pb x (YP "\\") (YP "\\\\")).length:=by
  rw[bh];exact pQ _ _ 32 (by lia)
 exact⟨_,J,x,J,by exact zC B,_,J,by omega,_,J,by omega,k⟩
theorem RP(h:n<1000000000):n.log2<1920:=by
 by_cases B:n=0
 .rw[B];decide
 .refine(Nat.log2_lt B).mpr (Rt h ?_);exact S5 (by decide:(1000000000:Nat)<=2 ^ 30) (Nat.pow_le_pow_right (by decide) (by decide))
noncomputable def lf(n:Int):Str:=YP (toString n)
noncomputable def wu(e:Str):Str:=if (wW e).length=0 then YP "none" else wW e
noncomputable def sI(d:Dr):List Str:=[wW d.1,lf d.2.1,wW d.2.2]
noncomputable def lg(t:Tg):List Str:=[YP "escape",wu t.1]++t.2.flatMap sI
noncomputable def vq(t:Tg):Str:=N1 (YP " ") (lg t)
noncomputable def RQ(b:Bk):Str:=N1 (YP "\n") (b.map vq)
noncomputable def lh(d:Dr):Prop:=d.1.length<=4/\(0<=d.2.1/\d.2.1<7)/\d.2.2.length<=4
noncomputable def sJ(t:Tg):Prop:=t.1.length<=1/\t.2.length<=6/\∀d∈t.2,lh d
theorem An.wq{n:Int}(F:n<=6)(h:An n t):sJ t:=by
 obtain⟨h1,h2,B⟩:=h;refine⟨?_,h2,λd D=>?_⟩
 .unfold vA at h1;simp only[R0,decide_eq_true_eq] at h1;exact h1.1
 .obtain⟨a,b,c⟩:=B d D;exact⟨(wm a).1,⟨b.1,by omega⟩,(wm c).1⟩
theorem RV{n:Int}(B:0<=n)(D:n<7):(lf n).length=1:=by
 rcases(by exact lo75 B D:n=0∨n=1∨n=2∨n=3∨n=4∨n=5∨n=6) with rfl|rfl|rfl|rfl|rfl|rfl|rfl<;>lia
noncomputable def wt(B:List Str):Nat:=(B.map (·.length)).sum+B.length
theorem bj(a b:List Str):wt (a++b)=wt a+wt b:=by
 unfold wt;rw[T5,JX,X4];omega
theorem RX{d:Dr}(h:lh d):wt (sI d)<=68:=by
 have h1:=lc d.1;have h2:=lc d.2.2;have B:=RV h.2.1.1 h.2.1.2;obtain⟨a,_,c⟩:=h;show (wW d.1).length+((lf d.2.1).length+((wW d.2.2).length+0))+3<=68;omega
theorem iI:∀ds:List Dr,(∀d∈ds,lh d)->wt (ds.flatMap sI)<=68*ds.length
 |[],_=>X2 _
 |d::r,h=>by
  have D:=iI r λe B=>h e (T7 _ B);have:=RX (h d (W8 ..));show wt (sI d++r.flatMap sI)<=_;rw[bj,RN];omega
theorem RY{e:Str}(h:e.length<=1):(wu e).length<=8:=by
 unfold wu;split
 .lia
 .have:=lc e;omega
theorem bn(h:sJ t):wt (lg t)<=440:=by
 obtain⟨h1,h2,B⟩:=h;have a:=iI t.2 B;have b:=RY h1;unfold lg;rw[bj];have c:wt [YP "escape",wu t.1]=6+((wu t.1).length+0)+2:=rfl;omega
theorem RZ(D:Str)(F:D.length<=1)(B:List Str):(N1 D B).length<=wt B:=by
 have h:=StrLaws.join_length_le D B;have:B.length*D.length<=B.length*1:=Nat.mul_le_mul_left _ F;unfold wt;omega
theorem Qa(h:sJ t):(vq t).length<=440:=S5 (RZ _ (by lia) _) (bn h)
theorem bo:∀ {b:Bk},(∀t∈b,sJ t)->wt (b.map vq)<=441*b.length
 |[],_=>X2 _
 |t::r,h=>by
  have D:=bo (b:=r) λe B=>h e (T7 _ B);have:=Qa (h t (W8 ..));have e:wt ((t::r).map vq)=(vq t).length+1+wt (r.map vq):=by
   unfold wt;rw[RD,RD,Mw,RN];omega
  rw[e,RN];omega
inductive li:Sp where
 |mk {vs:List V} {H:Hp} {Q:VK} {E:XK} (z:Addr) (v:V) (t:Tg) (c1:vs=[v]) (c2:Aj z H v (uc t)) (c3:sJ t) (c4:∀H',Aa H H'->Q (.str (vq t)) H'):li vs H Q E
inductive lj:Sp where
 |mk {vs:List V} {H:Hp} {Q:VK} {E:XK} (z:Addr) (v:V) (b:Bk) (c1:vs=[v]) (c2:Aj z H v (yp b)) (c3:∀t∈b,sJ t) (c4:b.length<=6) (c5:∀H',Aa H H'->Q (.str (RQ b)) H'):lj vs H Q E
theorem scTL:zK ["tongue","escape","doors","words","opening","inner","close"] ["tongue"] (zq jl):=zP
theorem Qb(F:Ao K "tongue_line" "tongue_line" jl f fd)(T:yu mg)(W:Cl P w K mg base 1 "write_signs" ["text"] la):Ag P w K mg base zD 2 f fd ["tongue"] li:=by
 refine F.okA scTL λg4 A outer s H vs Q E Y h=>?_;obtain⟨z,v,t,rfl,R,ht,k⟩:=h;have D:=scTL.nd;refine⟨_,ze (xt (pv 0) (yR J (zF (zw (i:=1) D) (zF (zw (i:=2) D) yJ))))
  (ze (zu (i:=3) D (zV (yY z0 (zc (Vj (zA W Y (zz 1)) (uu z0)) zf))))
  (ze (xu Rn J (xX (pv 2)) (yR J (zF (zw (i:=4) D) (zF (zw (i:=5) D) (zF (zw (i:=6) D) yJ))))
   (zm (yy (yW U1 Mu Mv gZ (pv 3) (eV (zV (zc (zA W Y (zz 4)) (zc (vc Yi (by rfl) T.str oH (zz 5)) (zc (zA W Y (zz 6)) zf)))) zf)))))
  (zm (zB (yW QM Od Oe eI z0 (zz 3)))))),?_⟩
 dsimp only[zH,Cx.nox,Cx.wish];have al:=yB;obtain⟨a,d,xs,rfl,aw,ax,am,J0,ae,Rd⟩:=vh R;obtain⟨h1,h2,af⟩:=id ht;refine zt λU Z=>?_;refine⟨_,J,a,_,J,Ah.of am,J,_,_,J,_,_,J,J,Z _ _ (zt λU Z=>?_)⟩;have el:=lc t.1;refine⟨_,J,t.1,J,by exact zC h1,wW t.1,J,by omega,?_⟩;have S:∀p,H p=none->U [some (.ref a),some (.str t.1),some (.ref d),some (.ref p),none,none,none] (c' H p (.lst ([YP "escape",wu t.1].map V.str))):=by
  intro p B;have L:=Aa.new (o:=.lst ([YP "escape",wu t.1].map V.str)) B;have ag:c' H p (.lst ([YP "escape",wu t.1].map V.str)) p=some (.lst ([YP "escape",wu t.1].map V.str)):=zd;generalize c' H p (.lst ([YP "escape",wu t.1].map V.str))=H1 at L ag ⊢;refine Z _ _ ⟨_,J,d,J,⟨_,Ah.of (L _ _ J0)⟩,ux (K:=K) (a:=d) (xs:=xs) (λi σ H2=>∃aa ab ac,σ=[some (.ref a),some (.str t.1),some (.ref d),some (.ref p),aa,ab,ac]/\Ac p H1 H2/\H2 p=some (.lst (([YP "escape",wu t.1]++(t.2.take i).flatMap sI).map V.str)))
   ⟨none,none,none,J,.refl,by rw[ag];simp⟩ (λi σ H2 _ ⟨_,_,_,_,G,_⟩=>Ah.of (G _ _ (zi J0 B) (L _ _ J0))) ?_ ?_⟩
  .rintro i y σ H2 hi ⟨aa,ab,ac,rfl,G,M⟩;have O:i<t.2.length:=by have:=(W5.mp hi).1;exact zU this (RH ae)
   have ao:y=xs.getD i .non:=by rw[XP,hi];rfl
   obtain⟨q,ap,ay,ah⟩:=vB (vC (ds:=t.2) Rd O);have ai:lh (t.2.getD i (⟨#[]⟩,0,⟨#[]⟩)):=af _ (by rw[XP,X1 O];exact RT O);have ad:=iI (t.2.take i) λd J0=>af d (PM J0);have aj:=G _ _ (zi ah B) (L _ _ ah);have aq:t.2.take (i+1)=t.2.take i++[t.2.getD i (⟨#[]⟩,0,⟨#[]⟩)]:=by rw[Ks,X1 O,XP,X1 O];rfl
   rw[ao,ap,aq];generalize t.2.getD i (⟨#[]⟩,0,⟨#[]⟩)=I at ai aj;obtain⟨ar,az,as⟩:=id ai;refine⟨q,_,J,Ah.of aj,J,_,_,J,_,_,J,_,_,J,J,?_⟩;refine⟨_,J,.inl ⟨J,_,Ad.of M⟩,_,J,I.1,J,by exact zC ar,_,J,I.2.1,J,RP (by omega),_,J,I.2.2,J,by exact zC as,by show (3:Nat)<=_;exact X6 _ _,λl au=>?_⟩;have ak:=Aa.new (o:=.lst [.str (wW I.1),.str (lf I.2.1),.str (wW I.2.2)]) au;have av:=ak _ _ M;refine⟨p,l,_,_,J,J,av,zd,?_,?_⟩
   .rw[X5,X4];unfold wt at ad;rw[QQ] at ad;show 2+_+3<=_;exact aK al h2 ad
   .refine⟨_,_,_,J,(G.trans ak.x).c',?_⟩;rw[zd];simp[sI,OA];rfl
  .rintro σ H2 ⟨aa,ab,ac,rfl,G,M⟩;have hw:=bn ht;have e:t.2.take xs.length=t.2:=by rw[ae];exact R1
   rw[e] at M;exact⟨J,_,J,_,p,lg t,J,J,Ad.of M,by lia,by unfold wt at hw;exact zC hw,k H2 λb o e=>G b o (zi e B) (L b o e)⟩
 refine yc (λg=>?_) (λg=>?_)
 .refine⟨by show (2:Nat)<=_;exact X6 _ _,λp B=>?_⟩;have e:wu t.1=YP "none":=by unfold wu;rw[Qxb g]
  rw[e] at S;exact S p B
 .refine⟨by show (2:Nat)<=_;exact X6 _ _,λp B=>?_⟩;have e:wu t.1=wW t.1:=by unfold wu;rw[Qxa g]
  rw[e] at S;exact S p B
theorem Qc:zK ["book"] ["book"] (zq nk):=zP
theorem Qd:(["tongue"]:List Str).Nodup:=by lia
theorem Qf(F:Ao K "book_text" "book_text" nk f fd)(Y:Cl P w K mg base 2 "tongue_line" ["tongue"] li):Ag P w K mg base zD 3 f fd ["book"] lj:=by
 refine F.okA Qc λg4 A outer s H vs Q E Z h=>?_;obtain⟨z,v,b,rfl,R,ht,aa,k⟩:=h;refine⟨_,zm (zB (yW QM Od Oe eI z0 (zc (xS (N':=["tongue"]) (js:=[none]) J J (yZ (zq nk) (by lia)) trivial (xX (pv 0)) (λcl s H fp=>zw (i:=0) Qd) (λcl s H fp=>wG)
  (λcl s H fp=>zA Y Z (zz 0))) zf))),?_⟩
 dsimp only[zH,Cx.nox,Cx.wish];have ae:=yB;obtain⟨a,xs,rfl,af,B,D,ab⟩:=uS R;refine⟨J,_,J,a,J,⟨_,Ah.of B⟩,λL M=>?_⟩;have O:a≠L:=zi B M;refine vf (λj=>some (V.str (vq (b.getD j (⟨#[]⟩,[]))))) (λσ=>∃u,σ=[u]) ⟨none,J⟩ M (ww D aa) (tS (xs:=xs) (by rw[zh O];exact B) O) (λj σ H2 ag ac ⟨ah,hw⟩ G S=>?_) (λσ H2 G I=>?_)
 .subst hw;have J0:j<b.length:=zU ac (RH D);have U:=(vi (b:=b) ab J0).mono G.x (z:=z);have W:sJ (b.getD j (⟨#[]⟩,[])):=ht _ (by rw[XP,X1 J0];exact RT J0);generalize b.getD j (⟨#[]⟩,[])=t at U W S;dsimp only[ve,va];rw[Qxb rfl];exact⟨_,J,z,_,t,J,U,W,λH' s'=>S _ _ ⟨_,J⟩ s'⟩
 .rw[v7,D,range_map (⟨#[]⟩,[]) (λt=>V.str (vq t)) b] at I;have ad:b.map (λt=>V.str (vq t))=(b.map vq).map V.str:=by rw[R6];rfl
  rw[ad] at I;have hw:=bo ht;exact⟨_,L,b.map vq,J,J,Ad.of I,by lia,by unfold wt at hw;omega,k _ G⟩
noncomputable def Az(H H':Hp):Prop:=∀b o,(∀ps,o≠.tbl ps)->H b=some o->H' b=some o
theorem rK(B:zO tb H)(x:ym tb H H'):Az H H':=λb o h e=>by
 obtain⟨ps,ht⟩:=B.tbl;exact x b o (λc=>by rw[c,ht] at e;cases e;exact h _ J) e
theorem Az.same(s:Aa H H'):Az H H':=λb o _ e=>s b o e
inductive Br(H:Hp)(n:Nat):V->Prop where
 |mk {p:Addr} {xs:List V} (h:H p=some (.lst xs)) (r:∀y∈xs,Pl H n y):Br H n (.ref p)
inductive BY(H:Hp)(n:Nat):V->Prop where
 |mk {p:Addr} {xs:List V} (h:H p=some (.tup xs)) (r:∀y∈xs,Pl H n y):BY H n (.ref p)
theorem Br.keep(h:Br H n v)(k:Az H H'):Br H' n v:=by
 obtain⟨h,r⟩:=h;exact⟨k _ _ (λ_ z=>nomatch z) h,λy B=>(r y B).mono k⟩
theorem BY.keep(h:BY H n v)(k:Az H H'):BY H' n v:=by
 obtain⟨h,r⟩:=h;exact⟨k _ _ (λ_ z=>nomatch z) h,λy B=>(r y B).mono k⟩
theorem bp{X:Cx}{sc:Scope}{cl:List (Str×Addr)}{N':List Str}{s:X9}{fp:List Addr}{a:R8}{ta:TE}{T:Str}{n:String}{B p2 pos:Pos}(D:X.mg "isinstance"=none)(F:X.mg T=none)(G:Qq T=some (.type n))(I:PE (X.blk sc cl N' s H fp) a ta)(J0:Gl (X.blk sc cl N' s H fp) "isinstance":=by rfl)(L:Gl (X.blk sc cl N' s H fp) T:=by rfl)(M:T2 [a,.Name T p2] (X.blk sc cl N' s H fp).env=(false,eval a (X.blk sc cl N' s H fp).env)::T2 [.Name T p2] (X.blk sc cl N' s H fp).env:=by rfl)(O:(QS pos (T2 [.Name T p2] (X.blk sc cl N' s H fp).env)).any (·.1)=false:=by rfl)(R:T≠"__name__":=by decide)(S:(T==("__debug__":Str))=false:=by decide) :
  PE (X.blk sc cl N' s H fp) (.Call (.Name "isinstance" B) [a,.Name T p2] [] pos) (tO (fw X.K) (xv ta (xv (tC (.ty n)) wO))):=vT D F G I J0 L M O R S
structure Cm(tb z:Addr)(v:V)(b:Bk)(H0 H:Hp):Prop where
 bg:Am z H
 lam:zO tb H
 rb:Aj z H v (yp b)
 x:ym tb H0 H
theorem Cm.but{b:Bk}{H0:Hp}(S:Cm tb z v b H0 H)(x:ym tb H H')(B:Am z H')(F:zO tb H'):Cm tb z v b H0 H':=by
 obtain⟨ps,ht⟩:=S.lam.tbl;exact⟨B,F,Aj.butT ht x S.rb,λD o' h e=>x D o' h (S.x D o' h e)⟩
theorem Cm.same{tb z:Addr}{v:V}{b:Bk}{H0 H H':Hp}(S:Cm tb z v b H0 H)(s:Aa H H'):Cm tb z v b H0 H':=⟨S.bg.same s,S.lam.same s,S.rb.mono s.x,λB o' h e=>s B o' (S.x B o' h e)⟩
theorem xW{a:V}{l:List V}(h:p a)(t:∀y∈l,p y):∀y∈a::l,p y:=λy hy=>by
 rcases S7.mp hy with rfl|hy
 .exact h
 .exact t y hy
theorem tF:∀y∈([]:List V),p y:=λ_ B=>nomatch B
theorem Br.pl(h:Br H n v):Pl H (n+1) v:=by
 obtain⟨h,r⟩:=h;exact .lst h r
theorem BY.pl(h:BY H n v):Pl H (n+1) v:=by
 obtain⟨h,r⟩:=h;exact .tup h r
theorem bq:∀l:List Str,(l.map D.str).all (uZ 0)=true
 |[]=>rfl
 |_::r=>by rw[RD,Nl,bq r];rfl
theorem Qg{F:List V}(h:pP z H F):∀y∈F,Pl H 2 y:=by
 cases h with
 |none=>exact xW (.str _ _) tF
 |one D r=>exact xW (.str _ _) (xW (.lst D λy B=>pb r y B) tF)
 |two D r G I=>exact xW (.str _ _) (xW (.lst D λy B=>pb r y B) (xW (.lst G λy B=>pb I y B) tF))
inductive pU(K:W.Frag)(tb:Addr):Sp where
 |mk {vs:List V} {H:Hp} {Q:VK} {E:XK} (a:Addr) (ns:List Int) (c1:vs=[.ref a]) (c2:Ad K H a (ns.map V.int)) (c3:zO tb H) (q:∀H',Q (.bl true) H'):pU K tb vs H Q E
theorem BH:zK ["script","k","bag","book","text","lists","told"] ["script"] (zq qD):=zP
theorem Qh(F:Ao K "law" "law" qD f fd)(T:yu mg)(bm:ud mg)(bZ:Cl P w K mg base 1 "_law_bag" ["script","k"] (oW K))(b0:Cl P w K mg base 3 "_law_book" ["bag"] o0)(b1:Cl P w K mg base 2 "_law_text" ["bag","book","most"] nA)(b2:Cl P w K mg base 6 "steps" ["book","text"] (rB tb))(b3:Cl P w K mg base 7 "tongues" ["book","text"] (mM tb))(b4:Cl P w K mg base 6 "unfinished" ["book","text"] (mi tb))(b5:Cl P w K mg base 5 "forks" ["book","text"] (mO tb))(b6:Cl P w K mg base 8 "led_back" ["book","text","tongue","begin","end"] (mR tb))(bn:Cl P w K mg base 8 "own" ["book","text","tongue"] (mQ tb))(bo:Cl P w K mg base 5 "_law_plain" ["thing"] (rq 5))(b7:Cl P w K mg base 6 "standing" ["book","text"] (mh tb))(b8:Cl P w K mg base 6 "free_readings" ["book","text"] m9)(b9:Cl P w K mg base 3 "book_text" ["book"] lj)(ca:Cl P w K mg base 10 "_law_page_right" ["book","text"] (sy tb))(cb:Cl P w K mg base 7 "_law_reader_right" ["book","text"] (sy tb)):uD 0 P w K mg base zD 11 f fd ["script"] (pU K tb):=by
 refine F.ok0 BH (λvs H Q E h=>?_) (λg4 A outer s H vs Q E O h=>?_)
 .obtain⟨a,aK,rfl,_⟩:=h;rfl
 .obtain⟨a,aK,rfl,br,bs,k⟩:=h;have Z:=BH.nd;have cc:Ak 1 _:=O.mono (by decide);have cd:Ak 2 _:=O.mono (by decide);have bt:Ak 3 _:=O.mono (by decide);have aL:Ak 5 _:=O.mono (by decide);have ay:Ak 6 _:=O.mono (by decide);have bu:Ak 7 _:=O.mono (by decide);have aM:Ak 8 _:=O.mono (by decide);refine⟨_,ze (Vh J Rn J (Vg J T.range (tZ (zG yO (zT (Yg J) (by rfl) bm.min Xy (zc (zT xB (by rfl) T.len b_len (zz 0)) (yY zg zf))) zg) zf)) (zw (i:=1) Z)
    (ze (zu (i:=2) Z (zA bZ cc (yk 0 1)))
    (ze (zu (i:=3) Z (zA b0 bt (zz 2)))
    (ze (zu (i:=4) Z (x0 v9 (zA b1 cd (zc (pv 2) (zc (pv 3) (yY zg zf)))) vd (xz zg)))
    (ze (zu (i:=5) Z (zV (zc (zA b2 ay (yk 3 4)) (zc (zA b3 bu (yk 3 4)) (zc (zA b4 ay (yk 3 4)) (zc (zA b5 aL (yk 3 4)) zf))))))
    (ze (zu (i:=5) Z (zG vP (pv 5) (zV (zc (zA b6 aM (zc (pv 3) (zc (pv 4) (yY zg (yY zg (yY zg zf)))))) (zc (zx Ai (zA bn aM (zc (pv 3) (zc (pv 4) (yY zg zf)))) zg (λ_ _=>rfl)) zf)))))
    (ze (ya (PW.pt (sN (zZ (uN O.units0) (xS (N':=["one"]) (js:=[none]) J J (yZ (zq qD) (by lia)) trivial (xb (pv 5)) (λcl s H fp=>zw (i:=0) nV) (λcl s H fp=>vt (xr (xa (bp T.isinst bm.list vS (pv 0))))) (λcl s H fp=>pv 0)) (zV zf) (zR _)) (rP (xr (xa (zA bo aL (zz 5))))))) (zm (zB wy)) ye)
    (ze (zu (i:=6) Z (zV (zc (zA b7 ay (yk 3 4)) (zc (zA b8 ay (yk 3 4)) (zc (zA bn aM (zc (pv 3) (zc (pv 4) (yY zg zf)))) zf)))))
    (ze (ya (PW.pt (sN (zZ (uN O.units0) (xS (N':=["one"]) (js:=[none]) J J (yZ (zq qD) (by lia)) trivial (xb (pv 6)) (λcl s H fp=>zw (i:=0) nV) (λcl s H fp=>vt (xr (xa (bp T.isinst T.tuple v8 (pv 0))))) (λcl s H fp=>pv 0)) (zV zf) (zR _)) (rP (xr (xa (zA bo aL (zz 6))))))) (zm (zB wy)) ye)
    (zm (ya (PW.pt (sN (xr (xa (vT T.isinst T.str oH (zA b9 bt (zz 3))))) (sN (xr (xa (zA ca O (yk 3 4)))) (rP (xr (xa (zA cb bu (yk 3 4)))))))) (zm (zB wy)) ye)))))))))))
   (zm (zB wy)),?_⟩
  have cZ:=yB;obtain⟨n,ce,cf⟩:=UY (m:=10) (aK.map V.int).length;obtain⟨c0,cg⟩:=bs.tbl;refine⟨_,J,a,_,J,.inl br,_,_,J,_,_,J,J,(n:Int)+2,?_,by omega,by omega,?_⟩
  .rw[←ce];rfl
  refine rY (λi σ H2=>∃aN aO aP aQ aR aS,σ=[some (.ref a),aN,aO,aP,aQ,aR,aS]/\ym tb H H2/\zO tb H2) ⟨none,none,none,none,none,none,J,λb o _ e=>e,bs⟩ ?_ ?_
  .rintro i σ H0 hi ⟨aN,aO,aP,aQ,aR,aS,rfl,aT,ch⟩;have ci:i<n+2:=hi;show (xH _ _) _ _ _;refine yT λc1 cj _ _ _=>zt λU I=>?_;refine⟨_,J,_,J,a,aK,i,by simp,UW cg aT br,by exact ll (R5 ci) (Ra cf),λz H1 ck aU aV=>I _ _ (zt λU I=>?_)⟩;have bv:=ch.same aU;refine⟨_,J,z,J,aV,λv b H2 aW aX L=>I _ _ (zt λU I=>?_)⟩;refine⟨_,J,_,J,z,v,b,12,J,aW.2,aX,L,by decide,by decide,λt bw aY cm=>⟨60,J,t,J,by exact zC cm,I _ _ (zt λU I=>?_)⟩⟩;have az:=aW.trans aY;have bx:=TY bv aV az;have bz:=aX.mono aY.1;have bA:=az.2;have bB:ym tb H bw:=λaA o' h e=>az.1 aA o' (zi (aT aA o' h e) ck) (aU aA o' (aT aA o' h e));have aB:(yC t none (some (60:Int))).length<=60:=UX t 60;generalize yC t none (some (60:Int))=x at aB ⊢;have R:x.length<=20000:=zC aB;obtain⟨cn,bC,co,_⟩:=id L;have aZ:(0:Int)<b.length:=wx cn;have ak:Cm tb z v b H bw:=⟨bA,bx,bz,bB⟩;clear az aW aY aU aV bv aX bA bx bz bB
   -- lists
   refine⟨_,J,_,J,z,v,b,x,J,ak.bg,ak.rb,L,R,ak.lam,λG c2 n1 cp bD _ cq _ al cr cs=>?_⟩;have af:=ak.but bD cr cs;have aa:Br cp 2 (.ref G):=⟨cq,λy B=>(pb al y B).up⟩;refine⟨_,J,_,J,z,v,b,x,J,af.bg,af.rb,L,R,af.lam,λp2 c3 n2 cu a0 _ a1 _ bE cv cw=>?_⟩;have ag:=af.but a0 cv cw;have bF:=rK af.lam a0;have am:Br cu 2 (.ref p2):=⟨a1,λy B=>(qN (n:=1) (λd S=>by
    obtain⟨s,_,S⟩:=Pd.mp S;rw[(Jf.mp S).2];rfl) bE y B).up⟩
   have aa:=aa.keep bF;refine⟨_,J,_,J,z,v,b,x,J,ag.bg,ag.rb,L,R,ag.lam,λp3 c4 n3 cx a2 _ a3 _ bG cy cz=>?_⟩;have ah:=ag.but a2 cy cz;have a4:=rK ag.lam a2;have P3:Br cx 2 (.ref p3):=⟨a3,λy B=>(qN (n:=1) (λd S=>by
    obtain⟨s,_,rfl⟩:=S4.mp S;rfl) bG y B).up⟩
   refine⟨_,J,_,J,z,v,b,x,J,ah.bg,ah.rb,L,R,ah.lam,λp4 c5 n4 aC a5 _ cA bH cB cC=>?_⟩;have bI:=ah.but a5 cB cC;have aD:=rK ah.lam a5;have bJ:Br aC 2 (.ref p4):=⟨cA,λy B=>(qN (n:=2) (λd S=>by
    obtain⟨s,_,rfl⟩:=S4.mp S;show (true&&((s.2.map D.str).all (uZ 0)&&true))=true;rw[bq];rfl) bH y B)⟩
   have bK:∀y∈[.ref G,.ref p2,.ref p3,.ref p4],Br aC 2 y:=xW ((aa.keep a4).keep aD) (xW ((am.keep a4).keep aD) (xW (P3.keep aD) (xW bJ tF)));clear bF a4 aD aa am P3 bJ ak af ag ah bD a0 a2 a5 al bE bG bH;refine⟨by show (4:Nat)<=_;exact X6 _ _,λpl bL=>I _ _ (zt λU I=>?_)⟩;have a6:=Aa.new (o:=.lst [.ref G,.ref p2,.ref p3,.ref p4]) bL;have ab:=bI.same a6;have a7:=λy B=>(bK y B).keep (Az.same a6);have a8:c' aC pl (.lst [.ref G,.ref p2,.ref p3,.ref p4]) pl=some (.lst [.ref G,.ref p2,.ref p3,.ref p4]):=zd;generalize c' aC pl (.lst [.ref G,.ref p2,.ref p3,.ref p4])=c6 at ab a7 a8 ⊢;clear bI bK a6 bL;refine⟨_,J,_,J,_,J,z,v,b,x,0,J,ab.bg,ab.rb,L,R,Mi 0,aZ,ab.lam,λp5 cD a9 _ bM cE cF=>?_⟩;have ai:=ab.but a9 cE cF;have ba:=rK ab.lam a9;have bN:Br cD 2 (.ref p5):=⟨bM,tF⟩;refine⟨_,J,_,J,z,v,b,x,0,J,ai.bg,ai.rb,L,R,Mi 0,aZ,ai.lam,λcG M n6 aE bb _ _ bO bP _ cH cI=>?_⟩;have bQ:=ai.but bb cH cI;have aF:=rK ai.lam bb;have bR:Br aE 2 (.ref M):=⟨bP,λy B=>by
    obtain⟨s,_,rfl⟩:=S4.mp B;exact .int _ _⟩
   refine⟨cG,_,1,_,J,J,Ah.of bO,zy (j:=1) J,by show (2:Nat)<=_;exact X6 _ _,λpm bS=>?_⟩;have bc:=Aa.new (o:=.lst [.ref p5,.ref M]) bS;refine⟨pl,pm,_,_,J,J,bc _ _ (aF _ _ (λ_ z=>nomatch z) (ba _ _ (λ_ z=>nomatch z) a8)),zd,by show (6:Nat)<=_;exact X6 _ _,λpn ao=>I _ _ (zt λU I=>?_)⟩;have bd:=bc.trans (Aa.new (o:=.lst ([.ref G,.ref p2,.ref p3,.ref p4]++[.ref p5,.ref M])) ao);have ap:∀y∈([.ref G,.ref p2,.ref p3,.ref p4]++[.ref p5,.ref M]),Br _ 2 y:=λy B=>by
    refine Br.keep ?_ (Az.same bd);rcases T6.mp (show y∈[.ref G,.ref p2,.ref p3,.ref p4]++[.ref p5,.ref M] from B) with h|h
    .exact((a7 y h).keep ba).keep aF
    .exact xW (p:=Br aE 2) (bN.keep aF) (xW bR tF) y h
   have J0:c' (c' aE pm (.lst [.ref p5,.ref M])) pn (.lst ([.ref G,.ref p2,.ref p3,.ref p4]++[.ref p5,.ref M])) pn=some (.lst ([.ref G,.ref p2,.ref p3,.ref p4]++[.ref p5,.ref M])):=zd;have be:=bQ.same bd;generalize c' (c' aE pm (.lst [.ref p5,.ref M])) pn (.lst ([.ref G,.ref p2,.ref p3,.ref p4]++[.ref p5,.ref M]))=c7 at be ap J0 ⊢;clear ab ai bQ bd ba aF bN bR a7 bc ao bS bM bO bP a9 bb a8;generalize [V.ref G,.ref p2,.ref p3,.ref p4]++[.ref p5,.ref M]=ys at J0 ap
   -- their kinds
   refine⟨_,J,pn,J,⟨_,Ad.of J0⟩,λaq ac=>?_⟩;have ad:pn≠aq:=zi J0 ac;refine nU (λσ=>∃u,σ=[u]) ⟨none,J⟩ ac (x8 (xs:=ys) (by rw[zh ad];exact J0) ad) (λj σ bf N ar ⟨cJ,hw⟩ W bg=>?_) (λσ bf W as=>?_)
   .subst hw;have B:ys.getD j .non∈ys:=by rw[XP,X1 ar];exact RT ar
    have au:=(ap _ B).keep (Az.same W);dsimp only[va];generalize ys.getD j .non=y at au;obtain⟨h,r⟩:=au;exact⟨_,J,_,_,_,true,J,.lst h,J,_,J,yi (bg _ _ ⟨_,J⟩ (Aa.refl _))⟩
   refine⟨X7 _,λq ae=>⟨aq,q,[],J,J,Aa.new ae _ _ as,zd,_,J,yi ?_⟩⟩;have Y:=W.trans (Aa.new (o:=.lst []) ae);refine⟨_,J,_,J,.lst (n:=3) (Y _ _ J0) (λy B=>?_),λcK av=>⟨_,J,yi (I _ _ (zt λU I=>?_))⟩⟩
   .exact((ap y B).keep (Az.same Y)).pl
   have aw:=be.same (Y.trans av);clear Y av W as ae ac ad be ap J0
   -- told
   refine⟨_,J,_,J,z,v,b,x,J,aw.bg,aw.rb,L,R,aw.lam,λG n1 cL bT _ _ al cM cN=>?_⟩;have aG:=aw.but bT cM cN;have aa:BY cL 2 (.ref G):=by
    cases al with
    |tup h _ r=>exact⟨h,λy B=>(qN (n:=1) (λd S=>by
      obtain⟨s,_,rfl⟩:=S4.mp S;rfl) r y B).up⟩
   refine⟨_,J,_,J,z,v,b,x,J,aG.bg,aG.rb,L,R,λp2 c8 cO bh _ a1 bU=>?_⟩;have aj:=aG.same bh;have am:BY cO 2 (.ref p2):=⟨a1,Qg bU⟩;refine⟨_,J,_,J,z,v,b,x,0,J,aj.bg,aj.rb,L,R,Mi 0,aZ,aj.lam,λp3 c9 n3 aH bi _ _ a3 cP _ cQ cR=>?_⟩;have bV:=aj.but bi cQ cR;have bj:=rK aj.lam bi;have P3:BY aH 2 (.ref p3):=⟨a3,xW (.str _ _) (xW (.lst (n:=1) cP λy B=>by
    obtain⟨s,_,rfl⟩:=S4.mp B;exact .int _ _) tF)⟩
   have bW:∀y∈[.ref G,.ref p2,.ref p3],BY aH 2 y:=xW ((aa.keep (Az.same bh)).keep bj) (xW (am.keep bj) (xW P3 tF));clear bj aa am P3 aw aG aj bT bi bh al bU;refine⟨by show (3:Nat)<=_;exact X6 _ _,λpn ao=>I _ _ (zt λU I=>?_)⟩;have bk:=Aa.new (o:=.lst [.ref G,.ref p2,.ref p3]) ao;have bl:=bV.same bk;have ax:=λy B=>(bW y B).keep (Az.same bk);have J0:c' aH pn (.lst [.ref G,.ref p2,.ref p3]) pn=some (.lst [.ref G,.ref p2,.ref p3]):=zd;generalize c' aH pn (.lst [.ref G,.ref p2,.ref p3])=da at bl ax J0 ⊢;generalize [V.ref G,.ref p2,.ref p3]=ys at J0 ax;clear bV bW bk ao;refine⟨_,J,pn,J,⟨_,Ad.of J0⟩,λaq ac=>?_⟩;have ad:pn≠aq:=zi J0 ac;refine nU (λσ=>∃u,σ=[u]) ⟨none,J⟩ ac (x8 (xs:=ys) (by rw[zh ad];exact J0) ad) (λj σ bf N ar ⟨cJ,hw⟩ W bg=>?_) (λσ bf W as=>?_)
   .subst hw;have B:ys.getD j .non∈ys:=by rw[XP,X1 ar];exact RT ar
    have au:=(ax _ B).keep (Az.same W);dsimp only[va];generalize ys.getD j .non=y at au;obtain⟨h,r⟩:=au;exact⟨_,J,_,_,_,true,J,.tup h,J,_,J,yi (bg _ _ ⟨_,J⟩ (Aa.refl _))⟩
   refine⟨X7 _,λq ae=>⟨aq,q,[],J,J,Aa.new ae _ _ as,zd,_,J,yi ?_⟩⟩;have Y:=W.trans (Aa.new (o:=.lst []) ae);refine⟨_,J,_,J,.lst (n:=3) (Y _ _ J0) (λy B=>?_),λcK av=>⟨_,J,yi (I _ _ ?_)⟩⟩
   .exact((ax y B).keep (Az.same Y)).pl
   have bX:=bl.same (Y.trans av);clear Y av W as ae ac ad bl ax J0
   -- book_text,the page,the reader
   refine⟨_,J,z,v,b,J,bX.rb,λt ht=>(co t ht).wq (uo bC),bC,λdb cS=>⟨_,_,_,true,J,.str _,J,_,J,yi ?_⟩⟩;have aI:=bX.same cS;refine⟨_,J,_,J,z,v,b,x,J,aI.bg,aI.rb,L,by exact zC aB,aI.lam,λdc cT cU cV=>⟨_,J,yi ?_⟩⟩;have aJ:=aI.but cT cU cV;refine⟨_,J,_,J,z,v,b,x,J,aJ.bg,aJ.rb,L,by exact zC aB,aJ.lam,λdd cW cX cY=>⟨_,J,yi (cj _ _ ?_)⟩⟩;have bY:=aJ.but cW cX cY;exact⟨_,_,_,_,_,_,J,bY.x,bY.lam⟩
  .rintro σ H2 ⟨aN,aO,aP,aQ,aR,aS,rfl,_,_⟩;exact k H2
noncomputable def iJ(K:W.Frag)(a:Addr):Bool:=match K.lookup a with
 |some o=>(match o.cls with|.type n=>n=="tuple"|_=>false)&&(match o.data with
  |.seq its _=>(match its.toList with|[.int i _,.str x _]=>i==0&&x==YP ""|_=>false)
  |_=>false)
 |none=>false
theorem Qi{mg:Str->Option X3}{K:W.Frag}{B:Addr}(h:iJ K B=true)(g:mg "OUTSIDE"=some (.ref B)):Ck mg K B:=by
 refine⟨g,?_⟩;unfold iJ at h;cases e:K.lookup B with
 |none=>rw[e] at h;cases h
 |some o=>
  rw[e] at h;dsimp only at h;rw[R0] at h;obtain⟨h1,h2⟩:=h;have F:o.cls=.type "tuple":=by
   cases hk:o.cls with
   |type n=>
    rw[hk] at h1;have h1:(n=="tuple")=true:=h1;rw[eq_of_beq h1]
   |_=>rw[hk] at h1;cases h1
  cases hd:o.data with
  |seq its n=>
   rw[hd] at h2;dsimp only at h2;refine⟨o,its,n,J,F,hd,?_⟩;split at h2
   .rename_i i G x I D;rw[R0] at h2;have J0:i=0:=eq_of_beq h2.1;have L:x=YP "":=eq_of_beq h2.2;subst J0 L;have hsz:its.size=2:=by
     have:=congrArg Np D;simpa using this
    refine⟨by rw[hsz,Qo];decide,?_⟩;rw[D];exact .cons ⟨G,J⟩ (.cons ⟨I,J⟩ .nil)
   .cases h2
  |_=>rw[hd] at h2;cases h2
end T1
namespace L2
open PySem PySem.Spec PyProof.Rows
theorem Cl.imp{P:U2}{w:Rz}{K:W.Frag}{mg:Str->Option X3}{base:Heap}{k:Nat}{x:Str}{ps:List Str}{sp B:Sp}(c:Cl P w K mg base k x ps sp)(h:∀vs H Q E,B vs H Q E->sp vs H Q E):Cl P w K mg base k x ps B:=by
 obtain⟨f,fd,a,b,m,F⟩:=c.ex;exact⟨f,fd,a,b,m,F.imp h⟩
theorem law_callT{P:U2}{w:Rz}{K:W.Frag}{mg aa:Str->Option X3}{CX:wP}{k:Nat}{ab a c tb:Addr}{fd:FuncData}{x:Str}{sp:Sp}{B:X9}{vs:List X3}{O:List Int}(ac:K.In B.heap)(ad:B.heap.Ns Rw mg)(D:B.heap.Ns NO aa)(au:∀x:Str,x≠"__name__"->aa x=Qq x)(av:B.heap.NoLimit)(aw:B.gens=#[])(ax:∃R I,mg "__builtins__"=some (.ref R)/\R≠NO/\B.heap.get? R=some I/\I.cls=.type "module"/\I.dict=some NO/\I.data=.plain)(ay:OO K c tb=true)(J0:B.heap.get? tb=some (Kl #[]))(ah:K.lookup tb=none)(L:B.heap.get? a=some { cls:=.type "list",data:=.seq vs.toArray })(hi:Kx vs O)(ai:O.length<=sizeLine)(az:Ak k Kz)(F:∀base:Heap,K.In base->base.Ns Rw mg->base.BuiltinsAt mg tb->uD 0 P w K mg base CX k ab fd [x] sp)(aA:∀(s:X9) (u:X3),MQ s fd ⟨[u],[]⟩ [(x,u)])(aB:∀H:Hp,H tb=some (.tbl #[])->Ad K H a (O.map V.int)->sp [.ref a] H (λv _=>v=.bl true) λ_ _ _=>False)(aC:∀H e s',CX [] H B (λ_ _ _=>False) e s'->False) :
  O0 (model P w) Kz (.call (.ref ab) ⟨[.ref a],[]⟩) (λr s'=>r=.ok (.ret (.bool true))/\OldK B.heap s'.heap/\s'.os=B.os/\N6 s'.gens) B:=by
 have aj:=fc hi;have aD:=hi.length;have aE:a≠tb:=λz=>by
  rw[z,J0] at L;cases L
 have ak:∀H:Hp,H tb=some (.tbl #[])->(∀b,b≠tb->H b=none∨∃o xs,H b=some (.frz o (.lst xs)))->Ad K H a (O.map V.int)->AJ P w H B.heap->(∀b,H b≠none->b=a∨b=tb)->(∀b,H b≠none->K.lookup b=none) ->
   O0 (model P w) Kz (.call (.ref ab) ⟨[.ref a],[]⟩) (λr s'=>r=.ok (.ret (.bool true))/\OldK B.heap s'.heap/\s'.os=B.os/\N6 s'.gens) B:=by
  intro H al aF aG am ao aH;have ae:∀ {b:Addr} {o:Obj},B.heap.get? b=some o->H b=none->(vM B.heap H).get? b=some o:=λe n=>Zz e n;have aI:∀ {b:Addr} {o:Obj},B.heap.get? b=some o->(o.cls=.type "list"->False)->(o.cls=.none->False)->H b=none:=λ{b o} e aJ aK=>by
   cases q:H b with
   |none=>rfl
   |some u=>
    rcases ao b (by rw[q];simp) with e'|e'
    .subst e';rw[L] at e;cases e;exact(aJ J).elim
    .subst e';rw[J0] at e;cases e;exact(aK J).elim
  have aL:∀ {b:Addr} {o:Obj} {es:Array DictEntry} {ep:Nat},B.heap.get? b=some o->o.data=.dict es ep->H b=none:=λ{b o es ep} e d=>by
   cases q:H b with
   |none=>rfl
   |some u=>
    rcases ao b (by rw[q];simp) with e'|e'
    .subst e';rw[L] at e;cases e;have d':Data.seq vs.toArray _=Data.dict es ep:=d;cases d'
    .subst e';rw[J0] at e;cases e;have d':JO #[]=Data.dict es ep:=d;cases d'
  have S:∀ {b:Addr} {m:Str->Option X3},B.heap.Ns b m->(vM B.heap H).Ns b m:=λ{b m} ⟨o,es,ep,e,d,r⟩=>⟨o,es,ep,ae e (aL e d),d,r⟩;have ap:K.In (vM B.heap H):=λb o e=>ae (ac b o e) (by
   cases q:H b with
   |none=>rfl
   |some u=>rw[aH b (by rw[q];simp)] at e;cases e)
  have aM:Mod K mg (vM B.heap H):=⟨ap,S ad,⟨aa,S D,au⟩,let ⟨aN,h1,h2⟩:=av;⟨aN,S h1,h2⟩⟩;have aO:(vM B.heap H).BuiltinsAt mg tb:=by
   obtain⟨R,I,aP,aQ,M,U,aR,af⟩:=ax;refine⟨R,I,aP,aQ,λq=>?_,λq=>?_,ae M (aI M (λq=>by rw[U] at q;injection q with q;exact absurd q (by decide)) (λq=>by rw[U] at q;cases q)),U,aR,af⟩
   .obtain⟨o,es,ep,e,aS,_⟩:=ad;rw[q,e] at M;cases M;rw[aS] at af;cases af
   .rw[q,J0] at M;cases M;cases U
  have aT:ox 0 P w K mg (vM B.heap H) Kz [] B H:=⟨J,aM,λb o e=>ZA e,NG (Zy _ _),trivial,λb D=>absurd (show b∈([]:List Addr) from D) (by simp),am,.of_eq aw,X7 _⟩;refine O3 ((F _ ap (S ad) aO).run Kz [] B H ⟨[.ref a],[]⟩ [.ref a] [.ref a] _ _ az aT (aA B (.ref a)) (.cons rfl .nil) (aB H al aG)) λr s' h=>?_;cases r with
  |error e=>exact(aC H e s' h).elim
  |ok aU=>
   cases aU with
   |next=>exact Q0 h
   |brk=>exact Q0 h
   |cont=>exact Q0 h
   |ret u=>
    obtain⟨v,H',os,aV,Y,aq,aW,q⟩:=h;have q':v=.bl true:=q;subst q';obtain rfl:u=Om true:=aW;refine⟨J,⟨λb o e=>?_,λb o e=>Y.there b o e (by simp)⟩,os,aV⟩;by_cases ar:b=tb
    .subst ar;rw[J0] at e;cases e;obtain⟨as,Z⟩:=Y.tbls b _ al;have ag:s'.heap.get? b=some { cls:=.none,data:=.fields (#[]++as) }:=aq b _ Z;have TA:=(W.codeHd_of_K ac ay).tab J0;exact .inr (.inl ⟨TA.isCodeTable,J,#[],as,J,ag⟩)
    .refine .inl ?_;cases q:H b with
     |none=>exact Y.keep b o e q (by intro z;exact absurd (show b∈([]:List Addr) from z) (by simp)) (by simp)
     |some u=>
      rcases aF b ar with z|⟨I,xs,z⟩
      .rw[q] at z;cases z
      .have aX:=Y.frzs b I _ z;obtain⟨Z,_⟩:=am b _ z;obtain⟨ag,_⟩:=aq b _ aX;rw[e] at Z;cases Z;exact ag
 cases hk:K.lookup a with
 |some o=>
  have e:=ac a o hk;rw[L] at e;cases e;refine ak (λb=>if b=tb then some (.tbl #[]) else none) (Qxb J) (λb D=>.inl (Qxa D)) (.inr ⟨_,vs.toArray,_,hk,J,J,J,by rw[T4,aD];exact ai,by simpa using aj⟩) (λb u z=>?_) (λb z=>?_) λb z=>?_
  .by_cases D:b=tb
   .have z':=(Qxb D).symm.trans z;cases z';subst D;exact J0
   .have z':=(Qxa D).symm.trans z;cases z'
  .by_cases D:b=tb
   .exact .inr D
   .exact absurd (Qxa D) z
  .by_cases D:b=tb
   .rw[D];exact ah
   .exact absurd (Qxa D) z
 |none=>
  refine ak (λb=>if b=tb then some (.tbl #[]) else if b=a then some (.frz { cls:=.type "list",data:=.seq vs.toArray } (.lst (O.map V.int))) else none) (Qxb J) (λb D=>?_) (.inl (.inr ⟨{ cls:=.type "list",data:=.seq vs.toArray },(Qxa aE).trans (Qxb J)⟩)) (λb u z=>?_) (λb z=>?_) λb z=>?_
  .by_cases G:b=a
   .exact .inr ⟨_,_,(Qxa D).trans (Qxb G)⟩
   .exact .inl ((Qxa D).trans (Qxa G))
  .by_cases D:b=tb
   .have z':=(Qxb D).symm.trans z;cases z';subst D;exact J0
   .by_cases G:b=a
    .have z':=((Qxa D).trans (Qxb G)).symm.trans z;cases z';subst G;exact⟨L,by rw[X5];exact ai,vs,_,aj,L⟩
    .have z':=((Qxa D).trans (Qxa G)).symm.trans z;cases z'
  .by_cases D:b=tb
   .exact .inr D
   .by_cases G:b=a
    .exact .inl G
    .exact absurd ((Qxa D).trans (Qxa G)) z
  .by_cases D:b=tb
   .rw[D];exact ah
   .by_cases G:b=a
    .rw[G];exact hk
    .exact absurd ((Qxa D).trans (Qxa G)) z
theorem walk_ofT{l:W.OpenLaw}{n k:Nat}{q:U2}{M:List Str}{O:(Str->Option X3)->Heap->Prop}{I:Rz->Heap->Prop}{d:DefRec}{K:Params->W.Frag}{CX:Rz->wP}{sp:Rz->Sp}{x:Str}{tb:Addr}(R:l.most=some n)(S:n<=sizeLine)(U:d.params.defaults=[])(Y:Ak k Kz)(Z:∀(w:Rz) (h:Heap),I w h->(K w.params).In h/\h.get? tb=some (Kl #[]))(F:∀(w:Rz) (mg:Str->Option X3) (B:Addr) (h:Heap),(K w.params).In h->h.Ns Rw mg->mg d.name=some (.ref B) ->
   ∃(fd:FuncData) (c:Addr),OO (K w.params) c tb=true/\(K w.params).lookup tb=none/\(∀(s:X9) (u:X3),MQ s fd ⟨[u],[]⟩ [(x,u)]) /\
    ∀base:Heap,(K w.params).In base->base.Ns Rw mg->base.BuiltinsAt mg tb->uD 0 l.prog w (K w.params) mg base (CX w) k B fd [x] (sp w))(aa:∀(w:Rz) (H:Hp) (a:Addr) (D:List Int),D.length<=n->H tb=some (.tbl #[])->Ad (K w.params) H a (D.map V.int)->sp w [.ref a] H (λv _=>v=.bl true) λ_ _ _=>False)(ab:∀(w:Rz) (H:Hp) (s:X9) (e:X3) (s':X9),CX w [] H s (λ_ _ _=>False) e s'->False) :
  W.WalkO q M O I l.row.toRowW d [] (λf vs=>J8 f vs):=by
 refine Att.attach_call R U λw s₀ ac mg aq B o pm ar doc a vs D G ad as au av ae af ag J0 ah=>?_;obtain⟨L,ai⟩:=Z w _ ad;obtain⟨fd,c,aj,ak,al,am⟩:=F w mg B _ L G.T.g ae;exact law_callT L G.T.g G.T.b G.T.builtins G.T.nolimit ah G.T.bmain aj ai ak af ag (S5 J0 S) Y am al (λH ao ap=>aa w H a D J0 ao ap) λH e s'=>ab w H ac e s'
end L2
namespace T1
open PySem L2
variable {h:Heap}{mg:Str->Option X3}{p p2 p3 p4:Str}{l:W.OpenLaw}
structure FK(K:W.Frag)(n:Str)(st:Stmt)(f:Addr)(fd:FuncData):Prop where
 a:W.nsIn K Rw n=some (some (.ref f))
 F:Ao K n n st f fd
structure MK(K:W.Frag)(C:Addr)(n q:Str)(st:Stmt)(f:Addr)(fd:FuncData):Prop where
 M:sW K C n f
 F:Ao K n q st f fd
section
variable {K:W.Frag}{n q x:Str}{st:Stmt}{f C:Addr}{fd:FuncData}{oc kV doc pm g4 ct:X3}{od an:Option Addr}{hj:Array (Option X3)}
theorem fk(a:W.nsIn K Rw n=some (some (.ref f)))(l:K.lookup f=some ⟨oc,od,.func (W.fnOf n n (vQ st) (wF st) (zq st) .none kV doc pm an g4 ct),hj⟩)(c:MA K g4 n=true)(k:P7 K (.ref f)=true) :
  FK K n st f (W.fnOf n n (vQ st) (wF st) (zq st) .none kV doc pm an g4 ct):=⟨a,kg l c k⟩
theorem mkm(a:QO K (.ref C) n=some (some (.ref f)))(i:W.isFn K (.ref f)=true)(l:K.lookup f=some ⟨oc,od,.func (W.fnOf n q (vQ st) (wF st) (zq st) .none kV doc pm an g4 ct),hj⟩)(c:MA K g4 q=true)(k:P7 K (.ref f)=true) :
  MK K C n q st f (W.fnOf n q (vQ st) (wF st) (zq st) .none kV doc pm an g4 ct):=⟨⟨a,i,k⟩,kg l c k⟩
theorem FK.m(A:FK K n st f fd)(X:K.In h)(G:h.Ns Rw mg):mg n=some (.ref f):=MZ X G A.a
theorem FK.law(A:FK K n st f fd)(X:K.In h)(G:h.Ns Rw mg){g:Addr}(e:mg n=some (.ref g)):g=f:=by
 have:=e.symm.trans (A.m X G);injection this with this;injection this
noncomputable abbrev fo(x q:Str)(st:Stmt)(kV doc pm:X3)(an:Option Addr)(g4 ct:X3):FuncData:=W.fnOf x q (vQ st) (wF st) (zq st) .none kV doc pm an g4 ct
theorem we(F:Ao K x q st f fd)(h:∀kV doc pm an g4 ct a,PJ (fo x q st kV doc pm an g4 ct) ⟨[a],[]⟩=pure [(p,a)]):Binds K fd [p] []:=
 F.binds λ_ _ _ _ _ _ us B=>fT (f:=λus=>PJ _ ⟨us,[]⟩) (g:=λus=>pure (Kn _ us)) (h _ _ _ _ _ _) us B
theorem y0(F:Ao K x q st f fd)(h:∀kV doc pm an g4 ct a b,PJ (fo x q st kV doc pm an g4 ct) ⟨[a,b],[]⟩=pure [(p,a),(p2,b)]):Binds K fd [p,p2] []:=
 F.binds λ_ _ _ _ _ _ us B=>fU (f:=λus=>PJ _ ⟨us,[]⟩) (g:=λus=>pure (Kn _ us)) (h _ _ _ _ _ _) us B
theorem um(F:Ao K x q st f fd)(h:∀kV doc pm an g4 ct a b c,PJ (fo x q st kV doc pm an g4 ct) ⟨[a,b,c],[]⟩=pure [(p,a),(p2,b),(p3,c)]):Binds K fd [p,p2,p3] []:=
 F.binds λ_ _ _ _ _ _ us B=>fV (f:=λus=>PJ _ ⟨us,[]⟩) (g:=λus=>pure (Kn _ us)) (h _ _ _ _ _ _) us B
theorem vI(F:Ao K x q st f fd)(h:∀kV doc pm an g4 ct a b c d,PJ (fo x q st kV doc pm an g4 ct) ⟨[a,b,c,d],[]⟩=pure [(p,a),(p2,b),(p3,c),(p4,d)]):Binds K fd [p,p2,p3,p4] []:=
 F.binds λ_ _ _ _ _ _ us B=>fW (f:=λus=>PJ _ ⟨us,[]⟩) (g:=λus=>pure (Kn _ us)) (h _ _ _ _ _ _) us B
theorem pV{p5:Str}(F:Ao K x q st f fd)(h:∀kV doc pm an g4 ct a b c d e,PJ (fo x q st kV doc pm an g4 ct) ⟨[a,b,c,d,e],[]⟩=pure [(p,a),(p2,b),(p3,c),(p4,d),(p5,e)]):Binds K fd [p,p2,p3,p4,p5] []:=
 F.binds λ_ _ _ _ _ _ us B=>WA (f:=λus=>PJ _ ⟨us,[]⟩) (g:=λus=>pure (Kn _ us)) (h _ _ _ _ _ _) us B
theorem Qj(F:Ao K x q st f fd)(h:∀kV doc pm an g4 ct (s:X9) (v:X3),MQ s (fo x q st kV doc pm an g4 ct) ⟨[v],[]⟩ [("script",v)]):∀(s:X9) (v:X3),MQ s fd ⟨[v],[]⟩ [("script",v)]:=by
 obtain⟨oc,od,kV,doc,pm,an,g4,ct,hj,rfl,B,D⟩:=F.ex;exact h _ _ _ _ _ _
end
/-! ### what the yj has written,and the law's own head -/
theorem all_mk{w:Rz}{K:W.Frag}{bl M D h1 h2 bF bG B bm bH bI bJ bK bL bM bN bO bP bQ bR bS bT F bn bU bV bW bX bY bZ b0 b1 b2 aS b3 b4 b5 b6 b7 b8 b9 ca cb cc cd ce cf cg ch ci cj ck cm cn co cp cq cr cs cu cv cw cx cy cz cA cB cC cD cE cF cG bo:Addr}{cH cI cJ cK cL cM cN cO cP cQ cR cS cT cU cV cW cX cY cZ c0 c1 c2 c3 c4 c5 c6 c7 c8 c9 da db dc dd de df dg dh di dj dk dl dm dn dp dq dr dt du dv dw dy dz dA dB dC dD dE dF dG dH dI dJ dK dL dM dN:FuncData}{od an:Option Addr}{dO:Array (Option X3)}{oc kV dP pm ct:X3}{dQ:Tok}{dR:Tok}(X:K.In h)(G:h.Ns Rw mg)(dS:mg "law"=some (.ref bl))(O:FK K "tongue_within" kX bY cH)(R:FK K "possible_marks" kY bZ cI)(S:FK K "fitting_marks" o5 b0 cJ)(U:FK K "take_mark" kZ b1 cK)(V:FK K "read_plain" k9 b2 cL)(dT:W.nsIn K Rw "read_step"=some (some (.ref aS)))(dU:K.lookup aS=some ⟨oc,od,.func (W.fnOf "read_step" "read_step" (vQ rf) (wF rf) (zq rf) .none kV dP pm an (.ref M) ct),dO⟩)(dV:MA K (.ref M) "read_step"=true)(bp:P7 K (.ref aS)=true)(Y:FK K "read_on" ja b3 cM)(Z:FK K "moved" jc b4 cN)(aa:FK K "is_sure" qy b5 cO)(ab:FK K "sure_steps" jg b6 cP)(ac:FK K "places_left_open" jb b7 cQ)(ad:FK K "steps" jd b8 cR)(ae:FK K "tongues" je b9 cS)(af:FK K "standing" jf ca cT)(ag:FK K "unfinished" o6 cb cU)(ah:FK K "forks" o8 cc cV)(ai:FK K "rooms_of" o9 cd cW)(aj:FK K "ends_from" rg ce cX)(ak:FK K "all_ends" ng cf cY)(al:FK K "can_be_whole" nh cg cZ)(am:FK K "is_hopeful" jh ch c0)(ao:FK K "whole_reading" ni ci c1)(ap:FK K "free_readings" ji cj c2)(aq:FK K "is_number_below" kW ck c3)(ar:FK K "own_steps" nj cm c4)(as:FK K "own" qB cn c5)(au:FK K "led_back" jj co c6)(av:FK K "write_signs" jk cp c7)(aw:FK K "tongue_line" jl cq c8)(ax:FK K "book_text" nk cr c9)(ay:FK K "_law_bag" jm cs da)(az:FK K "_law_take" jn cu db)(aA:FK K "_law_mark" jo cv dc)(aB:FK K "_law_fits_book" rh cw dd)(aC:FK K "_law_book" nu cx de)(aD:FK K "_law_marks" jp cy df)(aE:FK K "_law_text" jq cz dg)(aF:FK K "_law_fitting" rj cA dh)(aG:FK K "_law_step" nv cB di)(aH:FK K "_law_steps" jr cC dj)(J0:FK K "_law_plain" qC cD dk)(aI:FK K "_law_page_right" jt cE dl)(aJ:FK K "_law_reader_right" ju cF dm)(aT:FK K "law" qD cG dn)(bq:OO K M 124=true)(dW:K.lookup 124=none)(dX:W.nsIn K Rw "Standings"=some (some (.ref D)))(aK:MK K D "__init__" "Standings.__init__" jX h1 dp)(aU:MK K D "within" "Standings.within" mj h2 dq)(aV:MK K D "around" "Standings.around" jY bF dr)(aW:MK K D "doors_by" "Standings.doors_by" jZ bG dt)(dY:Ng K D JB=true)(dZ:No K D=true)(d0:Ma K D=true)(d1:QO K (.ref D) "__setattr__"=some (some (.builtin "object.__setattr__")))(d2:Kw K D=true)(d3:P7 K (.ref D)=true)(d4:QO K (.ref D) "rows"=some none)(d5:QO K (.ref D) "numbers"=some none)(d6:W.nsIn K Rw "Page"=some (some (.ref B)))(aL:MK K B "__init__" "Page.__init__" ic bm du)(aX:MK K B "change" "Page.change" ie bH dv)(aY:MK K B "text" "Page.text" ig bI dw)(aZ:MK K B "steps" "Page.steps" ii bJ dy)(a0:MK K B "put" "Page.put" ij bK dz)(a1:MK K B "read_anew" "Page.read_anew" px bL dA)(a2:MK K B "goes_on" "Page.goes_on" mw bM dB)(a3:MK K B "stand_behind" "Page.stand_behind" ik bN dC)(a4:MK K B "beginning" "Page.beginning" il bO dD)(a5:MK K B "numbers_by_beginnings" "Page.numbers_by_beginnings" mx bP dE)(a6:MK K B "count_sure" "Page.count_sure" im bQ dF)(a7:MK K B "count_ended" "Page.count_ended" io bR dG)(a8:MK K B "take_back" "Page.take_back" iy bS dH)(a9:MK K B "standing_at" "Page.standing_at" iz bT dI)(d7:Ng K B JB=true)(d8:No K B=true)(d9:Ma K B=true)(ea:QO K (.ref B) "__setattr__"=some (some (.builtin "object.__setattr__")))(eb:Kw K B=true)(ec:P7 K (.ref B)=true)(ed:QO K (.ref B) "book"=some none)(ee:QO K (.ref B) "signs"=some none)(ef:QO K (.ref B) "told"=some none)(eg:QO K (.ref B) "stands"=some none)(eh:QO K (.ref B) "standings"=some none)(ei:QO K (.ref B) "ways_back"=some none)(ej:W.nsIn K Rw "Reader"=some (some (.ref F)))(aM:MK K F "__init__" "Reader.__init__" jI bn dJ)(ba:MK K F "begin_anew" "Reader.begin_anew" jJ bU dK)(bb:MK K F "feed" "Reader.feed" jL bV dL)(bc:MK K F "finish" "Reader.finish" jM bW dM)(bd:MK K F "hand_out" "Reader.hand_out" qS bX dN)(ek:Ng K F JB=true)(em:No K F=true)(en:Ma K F=true)(eo:QO K (.ref F) "__setattr__"=some (some (.builtin "object.__setattr__")))(ep:Kw K F=true)(eq:P7 K (.ref F)=true)(er:QO K (.ref F) "book"=some none)(et:QO K (.ref F) "rest"=some none)(eu:QO K (.ref F) "place"=some none)(ev:QO K (.ref F) "doors"=some none)(ew:W.nsIn K Rw "len"=some none)(ey:W.nsIn K Rw "ord"=some none)(ez:W.nsIn K Rw "all"=some none)(eA:W.nsIn K Rw "any"=some none)(eB:W.nsIn K Rw "isinstance"=some none)(eC:W.nsIn K Rw "str"=some none)(eD:W.nsIn K Rw "int"=some none)(eE:W.nsIn K Rw "bool"=some none)(eF:W.nsIn K Rw "tuple"=some none)(eG:W.nsIn K Rw "range"=some none)(eH:W.nsIn K Rw "sorted"=some none)(eI:W.nsIn K Rw "max"=some none)(eJ:W.nsIn K Rw "list"=some none)(eK:W.nsIn K Rw "set"=some none)(eL:W.nsIn K Rw "min"=some none)(eM:W.nsIn K Rw "sum"=some none)(eN:W.nsIn K Rw "zip"=some none)(eO:W.nsIn K Rw "reversed"=some none)(eP:W.nsIn K Rw "LONGEST_MARK"=some (some (.int 4 dQ)))(eQ:W.nsIn K Rw "MOST_SIGNS"=some (some (.int 2000 dR)))(eR:W.nsIn K Rw "OUTSIDE"=some (some (.ref bo)))(eS:iJ K bo=true) :
  ∃(fd:FuncData) (c:Addr),OO K c 124=true/\K.lookup 124=none/\(∀(s:X9) (v:X3),MQ s fd ⟨[v],[]⟩ [("script",v)])/\∀base:Heap,K.In base->base.Ns Rw mg->base.BuiltinsAt mg 124->uD 0 l.prog w K mg base zD 11 bl fd ["script"] (pU K 124):=by
 have e:=aT.law X G dS;subst e;have T:yu mg:=⟨QE X G ew,QE X G ey,QE X G ez,QE X G eA,QE X G eB,QE X G eC,QE X G eD,QE X G eE,QE X G eF,QE X G eG,QE X G eH,QE X G eI⟩;have I:ud mg:=⟨QE X G eJ,QE X G eK,QE X G eL⟩;have eT:=QE X G eM;have eU:=QE X G eN;have br:=QE X G eO;have eV:=MZ X G eP;have bs:=MZ X G eQ;have eW:Bh K D:=⟨dY,dZ,d0,d1⟩;have eX:=we (p:="self") aK.F λ_ _ _ _ _ _ _=>rfl;have eY:=um (p:="self") (p2:="number") (p3:="door") aU.F λ_ _ _ _ _ _ _ _ _=>rfl;have eZ:=y0 (p:="self") (p2:="number") aV.F λ_ _ _ _ _ _ _ _=>rfl;have e0:=y0 (p:="self") (p2:="number") aW.F λ_ _ _ _ _ _ _ _=>rfl;have e1:Bh K B:=⟨d7,d8,d9,ea⟩;have e2:=um (p:="self") (p2:="book") (p3:="text") aL.F λ_ _ _ _ _ _ _ _ _=>rfl;have e3:=vI (p:="self") (p2:="begin") (p3:="end") (p4:="text") aX.F λ_ _ _ _ _ _ _ _ _ _=>rfl;have e4:=we (p:="self") aY.F λ_ _ _ _ _ _ _=>rfl;have e5:=we (p:="self") aZ.F λ_ _ _ _ _ _ _=>rfl;have e6:=vI (p:="self") (p2:="begin") (p3:="end") (p4:="text") a0.F λ_ _ _ _ _ _ _ _ _ _=>rfl;have e7:=pV (p:="self") (p2:="kept") (p3:="first") (p4:="elder") (p5:="longer") a1.F λ_ _ _ _ _ _ _ _ _ _ _=>rfl
 have e8:=vI (p:="self") (p2:="place") (p3:="elder") (p4:="stand") a2.F λ_ _ _ _ _ _ _ _ _ _=>rfl;have e9:=vI (p:="self") (p2:="stand") (p3:="step") (p4:="doors") a3.F λ_ _ _ _ _ _ _ _ _ _=>rfl;have fa:=y0 (p:="self") (p2:="number") a4.F λ_ _ _ _ _ _ _ _=>rfl;have fb:=um (p:="self") (p2:="end") (p3:="longer") a5.F λ_ _ _ _ _ _ _ _ _=>rfl;have fc:=y0 (p:="self") (p2:="begin") a6.F λ_ _ _ _ _ _ _ _=>rfl;have fe:=y0 (p:="self") (p2:="place") a7.F λ_ _ _ _ _ _ _ _=>rfl;have ff:=we (p:="self") a8.F λ_ _ _ _ _ _ _=>rfl;have fg:=y0 (p:="self") (p2:="place") a9.F λ_ _ _ _ _ _ _ _=>rfl;have fh:Bh K F:=⟨ek,em,en,eo⟩;have fi:=y0 (p:="self") (p2:="book") aM.F λ_ _ _ _ _ _ _ _=>rfl;have fj:=we (p:="self") ba.F λ_ _ _ _ _ _ _=>rfl;have fk:=y0 (p:="self") (p2:="piece") bb.F λ_ _ _ _ _ _ _ _=>rfl;have fl:=we (p:="self") bc.F λ_ _ _ _ _ _ _=>rfl;have fm:=y0 (p:="self") (p2:="found") bd.F λ_ _ _ _ _ _ _ _=>rfl;have fn:=we (p:="doors") O.F λ_ _ _ _ _ _ _=>rfl;have fo:=y0 (p:="book") (p2:="doors") R.F λ_ _ _ _ _ _ _ _=>rfl;have fq:=vI (p:="book") (p2:="text") (p3:="place") (p4:="doors") S.F λ_ _ _ _ _ _ _ _ _ _=>rfl;have fr:=vI (p:="mark") (p2:="door") (p3:="place") (p4:="doors") U.F λ_ _ _ _ _ _ _ _ _ _=>rfl;have ft:=vI (p:="book") (p2:="text") (p3:="place") (p4:="doors") V.F λ_ _ _ _ _ _ _ _ _ _=>rfl;have bt:=kg (st:=rf) dU dV bp;have fu:=MZ X G dT;have fv:=vI (p:="book") (p2:="text") (p3:="place") (p4:="doors") bt λ_ _ _ _ _ _ _ _ _ _=>rfl;have fw:=um (p:="book") (p2:="text") (p3:="doors") Y.F λ_ _ _ _ _ _ _ _ _=>rfl;have fx:=y0 (p:="step") (p2:="by") Z.F λ_ _ _ _ _ _ _ _=>rfl;have fy:=vI (p:="book") (p2:="part") (p3:="place") (p4:="doors") aa.F λ_ _ _ _ _ _ _ _ _ _=>rfl;have fz:=um (p:="book") (p2:="part") (p3:="doors") ab.F λ_ _ _ _ _ _ _ _ _=>rfl;have fA:=we (p:="told") ac.F λ_ _ _ _ _ _ _=>rfl;have fB:=y0 (p:="book") (p2:="text") ad.F λ_ _ _ _ _ _ _ _=>rfl;have fC:=y0 (p:="book") (p2:="text") ae.F λ_ _ _ _ _ _ _ _=>rfl;have fD:=y0 (p:="book") (p2:="text") af.F λ_ _ _ _ _ _ _ _=>rfl;have fE:=y0 (p:="book") (p2:="text") ag.F λ_ _ _ _ _ _ _ _=>rfl;have fF:=y0 (p:="book") (p2:="text") ah.F λ_ _ _ _ _ _ _ _=>rfl;have fG:=we (p:="book") ai.F λ_ _ _ _ _ _ _=>rfl;have fH:=pV (p:="book") (p2:="text") (p3:="place") (p4:="room") (p5:="ends") aj.F λ_ _ _ _ _ _ _ _ _ _ _=>rfl;have fI:=y0 (p:="book") (p2:="text") ak.F λ_ _ _ _ _ _ _ _=>rfl;have fJ:=um (p:="place") (p2:="doors") (p3:="ends") al.F λ_ _ _ _ _ _ _ _ _=>rfl;have fK:=pV (p:="mark") (p2:="door") (p3:="place") (p4:="doors") (p5:="ends") am.F λ_ _ _ _ _ _ _ _ _ _ _=>rfl;have fL:=vI (p:="book") (p2:="text") (p3:="ends") (p4:="turn") ao.F λ_ _ _ _ _ _ _ _ _ _=>rfl;have fM:=y0 (p:="book") (p2:="text") ap.F λ_ _ _ _ _ _ _ _=>rfl;have fN:=y0 (p:="thing") (p2:="bound") aq.F λ_ _ _ _ _ _ _ _=>rfl;have fO:=um (p:="book") (p2:="text") (p3:="tongue") ar.F λ_ _ _ _ _ _ _ _ _=>rfl;have fP:=um (p:="book") (p2:="text") (p3:="tongue") as.F λ_ _ _ _ _ _ _ _ _=>rfl;have fQ:=pV (p:="book") (p2:="text") (p3:="tongue") (p4:="begin") (p5:="end") au.F λ_ _ _ _ _ _ _ _ _ _ _=>rfl;have fR:=we (p:="text") av.F λ_ _ _ _ _ _ _=>rfl;have fS:=we (p:="tongue") aw.F λ_ _ _ _ _ _ _=>rfl;have fT:=we (p:="book") ax.F λ_ _ _ _ _ _ _=>rfl;have fU:=y0 (p:="script") (p2:="k") ay.F λ_ _ _ _ _ _ _ _=>rfl;have fV:=y0 (p:="bag") (p2:="many") az.F λ_ _ _ _ _ _ _ _=>rfl;have fW:=y0 (p:="bag") (p2:="signs") aA.F λ_ _ _ _ _ _ _ _=>rfl;have fX:=we (p:="book") aB.F λ_ _ _ _ _ _ _=>rfl;have fY:=we (p:="bag") aC.F λ_ _ _ _ _ _ _=>rfl;have fZ:=we (p:="book") aD.F λ_ _ _ _ _ _ _=>rfl;have f0:=um (p:="bag") (p2:="book") (p3:="most") aE.F λ_ _ _ _ _ _ _ _ _=>rfl;have f1:=vI (p:="book") (p2:="doors") (p3:="text") (p4:="place") aF.F λ_ _ _ _ _ _ _ _ _ _=>rfl;have f2:=pV (p:="book") (p2:="doors") (p3:="text") (p4:="place") (p5:="mark") aG.F λ_ _ _ _ _ _ _ _ _ _ _=>rfl;have f3:=y0 (p:="book") (p2:="text") aH.F λ_ _ _ _ _ _ _ _=>rfl;have bu:=we (p:="thing") J0.F λ_ _ _ _ _ _ _=>rfl;have f4:=y0 (p:="book") (p2:="text") aI.F λ_ _ _ _ _ _ _ _=>rfl;have f5:=y0 (p:="book") (p2:="text") aJ.F λ_ _ _ _ _ _ _ _=>rfl;refine⟨_,M,bq,dW,Qj aT.F λ_ _ _ _ _ _ s v=>.of_eq J,λbase _ _ f6=>?_⟩;have aN:Cl l.prog w K mg base 1 "tongue_within" ["doors"] sf:=⟨⟨_,_,O.F.kp,fn,O.m X G,VW O.F ⟩⟩;have bv:Cl l.prog w K mg base 2 "possible_marks" ["book","doors"] qH:=⟨⟨_,_,R.F.kp,fo,R.m X G,VX R.F aN⟩⟩;have aO:Cl l.prog w K mg base 3 "fitting_marks" ["book","text","place","doors"] sg:=⟨⟨_,_,S.F.kp,fq,S.m X G,VZ S.F bv⟩⟩;have be:Cl l.prog w K mg base 2 "take_mark" ["mark","door","place","doors"] rn:=⟨⟨_,_,U.F.kp,fr,U.m X G,V0 U.F T aN⟩⟩;have bf:Cl l.prog w K mg base 2 "read_plain" ["book","text","place","doors"] rp:=⟨⟨_,_,V.F.kp,ft,V.m X G,V1 V.F T aN⟩⟩;have aP:Cl l.prog w K mg base 4 "read_step" ["book","text","place","doors"] (si 124):=⟨⟨_,_,bp,fv,fu,Ua bt J bq f6 T T.max aO bf be⟩⟩;have aQ:Cl l.prog w K mg base 5 "read_on" ["book","text","doors"] (qQ 124):=⟨⟨_,_,Y.F.kp,fw,Y.m X G,Us Y.F T aP⟩⟩;have bw:Cl l.prog w K mg base 1 "moved" ["step","by"] qO:=⟨⟨_,_,Z.F.kp,fx,Z.m X G,Up Z.F ⟩⟩;have f7:Cl l.prog w K mg base 3 "is_sure" ["book","part","place","doors"] nY:=⟨⟨_,_,aa.F.kp,fy,aa.m X G,Ur aa.F T aN bv⟩⟩;have bx:Cl l.prog w K mg base 5 "sure_steps" ["book","part","doors"] (qP 124):=⟨⟨_,_,ab.F.kp,fz,ab.m X G,Ut ab.F T aP f7⟩⟩;have f8:Cl l.prog w K mg base 1 "places_left_open" ["told"] n8:=⟨⟨_,_,ac.F.kp,fA,ac.m X G,UJ ac.F ⟩⟩;have bg:Cl l.prog w K mg base 6 "steps" ["book","text"] (rB 124):=⟨⟨_,_,ad.F.kp,fB,ad.m X G,Uz ad.F (aQ.imp jO)⟩⟩;have f9:Cl l.prog w K mg base 7 "tongues" ["book","text"] (mM 124):=⟨⟨_,_,ae.F.kp,fC,ae.m X G,Sc ae.F bg⟩⟩;have ga:Cl l.prog w K mg base 6 "standing" ["book","text"] (mh 124):=⟨⟨_,_,af.F.kp,fD,af.m X G,U4 af.F T (aQ.imp jO)⟩⟩;have gb:Cl l.prog w K mg base 6 "unfinished" ["book","text"] (mi 124):=⟨⟨_,_,ag.F.kp,fE,ag.m X G,U5 ag.F eU (aQ.imp jO) f8⟩⟩;have gc:Cl l.prog w K mg base 5 "forks" ["book","text"] (mO 124):=⟨⟨_,_,ah.F.kp,fF,ah.m X G,Sg ah.F T aO aP⟩⟩;have TO:=Qi eS (MZ X G eR);have gd:Cl l.prog w K mg base 1 "rooms_of" ["book"] (m3 K):=⟨⟨_,_,ai.F.kp,fG,ai.m X G,SU ai.F TO ⟩⟩;have ge:Cl l.prog w K mg base 4 "ends_from" ["book","text","place","room","ends"] (m4 l.prog w K):=⟨⟨_,_,aj.F.kp,fH,aj.m X G,SX aj.F TO T aO bf⟩⟩;have gf:Cl l.prog w K mg base 5 "all_ends" ["book","text"] (m5 l.prog w K):=⟨⟨_,_,ak.F.kp,fI,ak.m X G,Rc ak.F T br gd ge⟩⟩;have bz:Cl l.prog w K mg base 1 "can_be_whole" ["place","doors","ends"] (pO l.prog w K):=⟨⟨_,_,al.F.kp,fJ,al.m X G,Rh al.F TO T I br ⟩⟩;have gg:Cl l.prog w K mg base 3 "is_hopeful" ["mark","door","place","doors","ends"] (m7 l.prog w K):=⟨⟨_,_,am.F.kp,fK,am.m X G,Rk am.F T I be bz⟩⟩;have gh:Cl l.prog w K mg base 4 "whole_reading" ["book","text","ends","turn"] (m8 l.prog w K):=⟨⟨_,_,ao.F.kp,fL,ao.m X G,Rx ao.F T aO bf be gg⟩⟩;have gi:Cl l.prog w K mg base 6 "free_readings" ["book","text"] m9:=⟨⟨_,_,ap.F.kp,fM,ap.m X G,RG ap.F gf bz gh⟩⟩;have gj:Cl l.prog w K mg base 1 "is_number_below" ["thing","bound"] mP:=⟨⟨_,_,aq.F.kp,fN,aq.m X G,So aq.F T ⟩⟩;have bA:Cl l.prog w K mg base 7 "own_steps" ["book","text","tongue"] (pG 124):=⟨⟨_,_,ar.F.kp,fO,ar.m X G,Ss ar.F T gj bg⟩⟩;have gk:Cl l.prog w K mg base 8 "own" ["book","text","tongue"] (mQ 124):=⟨⟨_,_,as.F.kp,fP,as.m X G,Sz as.F bA⟩⟩;have gl:Cl l.prog w K mg base 8 "led_back" ["book","text","tongue","begin","end"] (mR 124):=⟨⟨_,_,au.F.kp,fQ,au.m X G,SD au.F T bA⟩⟩;have gm:Cl l.prog w K mg base 1 "write_signs" ["text"] la:=⟨⟨_,_,av.F.kp,fR,av.m X G,RM av.F ⟩⟩;have gn:Cl l.prog w K mg base 2 "tongue_line" ["tongue"] li:=⟨⟨_,_,aw.F.kp,fS,aw.m X G,Qb aw.F T gm⟩⟩;have go:Cl l.prog w K mg base 3 "book_text" ["book"] lj:=⟨⟨_,_,ax.F.kp,fT,ax.m X G,Qf ax.F gn⟩⟩;have gp:Cl l.prog w K mg base 1 "_law_bag" ["script","k"] (oW K):=⟨⟨_,_,ay.F.kp,fU,ay.m X G,VE ay.F T ⟩⟩;have bh:Cl l.prog w K mg base 1 "_law_take" ["bag","many"] re:=⟨⟨_,_,az.F.kp,fV,az.m X G,VD az.F ⟩⟩;have gq:Cl l.prog w K mg base 2 "_law_mark" ["bag","signs"] oY:=⟨⟨_,_,aA.F.kp,fW,aA.m X G,VF aA.F T bh⟩⟩;have gr:Cl l.prog w K mg base 1 "_law_fits_book" ["book"] oZ:=⟨⟨_,_,aB.F.kp,fX,aB.m X G,VG aB.F T I ⟩⟩;have gs:Cl l.prog w K mg base 3 "_law_book" ["bag"] o0:=⟨⟨_,_,aC.F.kp,fY,aC.m X G,VH aC.F T I bh gq gr⟩⟩;have gt:Cl l.prog w K mg base 1 "_law_marks" ["book"] ny:=⟨⟨_,_,aD.F.kp,fZ,aD.m X G,VI aD.F ⟩⟩;have gu:Cl l.prog w K mg base 2 "_law_text" ["bag","book","most"] nA:=⟨⟨_,_,aE.F.kp,f0,aE.m X G,VM aE.F T bh gt⟩⟩;have gv:Cl l.prog w K mg base 1 "_law_fitting" ["book","doors","text","place"] nE:=⟨⟨_,_,aF.F.kp,f1,aF.m X G,VP aF.F T ⟩⟩;have gw:Cl l.prog w K mg base 1 "_law_step" ["book","doors","text","place","mark"] nH:=⟨⟨_,_,aG.F.kp,f2,aG.m X G,VR aG.F T ⟩⟩;have bB:Cl l.prog w K mg base 2 "_law_steps" ["book","text"] qG:=⟨⟨_,_,aH.F.kp,f3,aH.m X G,VU aH.F T gv gw⟩⟩;have bi:Cl l.prog w K mg base 5 "_law_plain" ["thing"] (rq 5):=⟨⟨_,_,J0.F.kp,bu,J0.m X G,Ul J0.F T I J0.F.kp bu (J0.m X G) 5⟩⟩;have TS:uj K mg D:=⟨eW,d4,d5⟩;have TP:wd K mg B:=⟨e1,ed,ee,ef,eg,eh,ei⟩;have L:su K mg F:=⟨fh,er,et,eu,ev,eT⟩;have gx:Ag l.prog w K mg base zD 1 h1 _ ["self"] (mq l.prog w D):=Td aK.F TS;have gy:Ml l.prog w K mg base D 1 "within" ["self","number","door"] (mr l.prog w D):=⟨⟨_,_,aU.M,eY,Te aU.F T TS⟩⟩;have gz:Ml l.prog w K mg base D 1 "around" ["self","number"] (mv l.prog w D):=⟨⟨_,_,aV.M,eZ,Tf aV.F TS⟩⟩;have bj:Ml l.prog w K mg base D 1 "doors_by" ["self","number"] (rC l.prog w D):=⟨⟨_,_,aW.M,e0,Th aW.F TS⟩⟩;have aR:Ml l.prog w K mg base B 1 "beginning" ["self","number"] (sD l.prog w B D):=⟨⟨_,_,a4.M,fa,Tp a4.F T TP⟩⟩;have bC:Ml l.prog w K mg base B 2 "count_ended" ["self","place"] (pF l.prog w B D):=⟨⟨_,_,a7.M,fe,Tr a7.F T TP aR⟩⟩;have gA:Ml l.prog w K mg base B 1 "goes_on" ["self","place","elder","stand"] (my B):=⟨⟨_,_,a2.M,e8,Ts a2.F TP⟩⟩;have gB:Ml l.prog w K mg base B 2 "stand_behind" ["self","stand","step","doors"] (mB l.prog w B D):=⟨⟨_,_,a3.M,e9,Tx a3.F TP TS gy gz⟩⟩;have gC:Ml l.prog w K mg base B 2 "numbers_by_beginnings" ["self","end","longer"] (mz l.prog w B D):=⟨⟨_,_,a5.M,fb,Tt a5.F T TP aR⟩⟩;have gD:Ml l.prog w K mg base B 6 "count_sure" ["self","begin"] (mD l.prog w 124 B D):=⟨⟨_,_,a6.M,fc,Tz a6.F T TP TS eV ⟨_,J⟩ bC aR bx bj⟩⟩;have gE:Ml l.prog w K mg base B 5 "read_anew" ["self","kept","first","elder","longer"] (mF l.prog w 124 B D):=⟨⟨_,_,a1.M,e7,TJ a1.F T TP TS aP bj gA gB bw⟩⟩
 have bk:Ml l.prog w K mg base B 7 "put" ["self","begin","end","text"] (rF l.prog w 124 B D):=⟨⟨_,_,a0.M,e6,TL a0.F T TP gD aR gC gE⟩⟩;have gF:Ml l.prog w K mg base B 8 "change" ["self","begin","end","text"] (mH l.prog w 124 B D):=⟨⟨_,_,aX.M,e3,TQ aX.F T TP bs ⟨_,J⟩ bk⟩⟩;have gG:Ml l.prog w K mg base B 8 "take_back" ["self"] (mK l.prog w 124 B D):=⟨⟨_,_,a8.M,ff,T0 a8.F TP bk⟩⟩;have gH:Ml l.prog w K mg base B 3 "standing_at" ["self","place"] (mL l.prog w B D):=⟨⟨_,_,a9.M,fg,Sa a9.F T TP TS bC bj⟩⟩;have gI:Ml l.prog w K mg base B 1 "text" ["self"] (mG l.prog w B D):=⟨⟨_,_,aY.M,e4,TN aY.F TP⟩⟩;have gJ:Ml l.prog w K mg base B 1 "steps" ["self"] (mI l.prog w B D):=⟨⟨_,_,aZ.M,e5,TW aZ.F I TP⟩⟩;have gK:Ag l.prog w K mg base zD 8 bm _ ["self","book","text"] (mJ l.prog w 124 B D):=TX aL.F T TP bs ⟨_,J⟩ bk ⟨d2,aK.M.1,aK.M.2,d3⟩ (MZ X G dX) eX gx;have bD:Ml l.prog w K mg base F 1 "begin_anew" ["self"] (qX F):=⟨⟨_,_,ba.M,fj,UM ba.F L⟩⟩;have gL:Ag l.prog w K mg base zD 2 bn _ ["self","book"] (n9 F):=UO aM.F L bD;have bE:Ml l.prog w K mg base F 2 "hand_out" ["self","found"] (qY F):=⟨⟨_,_,bd.M,fm,US bd.F T L bw⟩⟩;have gM:Ml l.prog w K mg base F 6 "feed" ["self","piece"] (qZ 124 F):=⟨⟨_,_,bb.M,fk,UU bb.F L bx bE⟩⟩;have gN:Ml l.prog w K mg base F 6 "finish" ["self"] (q9 124 F):=⟨⟨_,_,bc.M,fl,UV bc.F L aQ bE bD⟩⟩;have gO:Cl l.prog w K mg base 10 "_law_page_right" ["book","text"] (sy 124):=⟨⟨_,_,aI.F.kp,f4,aI.m X G,Sb aI.F T TP (MZ X G d6) ⟨eb,aL.M.1,aL.M.2,ec⟩ bi bB e2 gK gJ gI gF gH gG⟩⟩;have gP:Cl l.prog w K mg base 7 "_law_reader_right" ["book","text"] (sy 124):=⟨⟨_,_,aJ.F.kp,f5,aJ.m X G,U8 aJ.F I L (MZ X G ej) ⟨ep,aM.M.1,aM.M.2,eq⟩ bi bB fi gL gM gN⟩⟩;exact Qh aT.F T I gp gs gu bg f9 gb gc gl gk bi ga gi go gO gP
theorem walk{q:U2}{G:List Str}{I:(Str->Option X3)->Heap->Prop}{B:Rz->Heap->Prop}{d:DefRec}{K:Params->W.Frag}(J0:l.most=some 63)(L:d.params.defaults=[])(M:∀(w:Rz) (h:Heap),B w h->(K w.params).In h/\h.get? 124=some (Kl #[]))(F:∀(w:Rz) (mg:Str->Option X3) (D:Addr) (h:Heap),(K w.params).In h->h.Ns Rw mg->mg d.name=some (.ref D) ->
   ∃(fd:FuncData) (c:Addr),OO (K w.params) c 124=true/\(K w.params).lookup 124=none/\(∀(s:X9) (u:X3),MQ s fd ⟨[u],[]⟩ [("script",u)])/\∀base:Heap,(K w.params).In base->base.Ns Rw mg->base.BuiltinsAt mg 124->uD 0 l.prog w (K w.params) mg base zD 11 D fd ["script"] (pU (K w.params) 124)) :
  W.WalkO q G I B l.row.toRowW d [] (λf vs=>J8 f vs):=
 L2.walk_ofT (n:=63) (k:=11) (x:="script") (tb:=124) (CX:=λ_=>zD) (sp:=λw=>pU (K w.params) 124) J0 (by decide) L ⟨J,by decide,by decide⟩ M F (λ_ _ a O U R S=>⟨a,O,J,S,.inl R,λ_=>rfl⟩) λ_ _ _ _ _ z=>z
end T1
end
open PySem PySem.W PyProof.Rows
local macro_rules|`(tactic| walk_at "own def")=>`(tactic| (refine' T1.fk ?k1 ?k2 ?k3 ?k4;(case k1=>k_is);(case k2=>k_is);(case k3=>k_is);(case k4=>k_is)))
local macro_rules|`(tactic| walk_at "own method")=>`(tactic| (refine' T1.mkm ?k1 ?k2 ?k3 ?k4 ?k5;(case k1=>k_is);(case k2=>k_is);(case k3=>k_is);(case k4=>k_is);(case k5=>k_is)))
namespace PySem.W.Fast
def tw3898989803216809297:=0
def tw14548938676633359364:=0
def tw522968209209625098:=0
def tw4623247022527188451:=0
def tw2505998432863041694:=0
def tw14449986441788639582:=0
def tw9201150810279176257:=0
def tw6778449837094886603:=0
def tw14343011890420284141:=0
def tw11872351645069806026:=0
def tw713667044509378713:=0
def tw12629015489354431825:=0
def tw6543223079596632855:=0
def tw15925434802615250746:=0
def tw9095355000677256571:=0
def tw14535081582457169464:=0
def tw7413191078434140299:=0
def tw13940652795271836182:=0
def tw3693630758421840778:=0
def tw13331179952321595333:=0
def tw12669226954841104876:=0
def tw13666381228001242616:=0
def tw9980822832499443055:=0
def tw15907843758093972367:=0
def tw4874812051607926933:=0
def tw10814481355080148028:=0
def tw5333878321312309406:=0
def tw14441573859979283554:=0
def tw2727775477187241971:=0
def tw5062077668017913598:=0
def tw13492453414786664167:=0
def tw14013298251638788291:=0
def tw17062072393334923474:=0
def tw9642529660638700303:=0
def tw3588762348882266619:=0
def tw11808485157490725971:=0
def tw6885707593097225179:=0
def tw9142196968246533020:=0
def tw708057164799020214:=0
def tw13522662031466702388:=0
def tw15309832203451034350:=0
def tw17775094560754652646:=0
def tw2102700728348160996:=0
def tw2115526098445680450:=0
def tw1281912390837122176:=0
def tw5519453651005027482:=0
def tw11175367418563801266:=0
def tw14427329189881895828:=0
def tw16330213671253318063:=0
def tw2126774630353164412:=0
def tw317081419097704973:=0
def tw3615506988143860839:=0
def tw4608486791094598601:=0
def tw16854701864039067587:=0
def tw12545067237840772811:=0
def tw13575264051628139877:=0
def tw16419737844294877511:=0
def tw1169862358301658140:=0
def tw15420187906439365183:=0
def tw252363062768352097:=0
def tw16981810332045222225:=0
def tw5600111713316932880:=0
def tw13819885160214532822:=0
def tw15054159059420055649:=0
def tw13253453305494427926:=0
def tw3678534974258098380:=0
def tw13212931978450821026:=0
def tw302262229848400684:=0
def tw5199977350197777519:=0
def tw7727195895251233642:=0
def tw1130890775504902206:=0
def tw6270612427832511829:=0
def tw1663393988966420993:=0
def tw2048715986720578567:=0
def tw15833589980096506966:=0
def tw3816872181801052556:=0
def tw12275862224292851777:=0
def tw14292127173635204602:=0
def tw5427133151432440257:=0
def tw8949052439890851329:=0
def tw10042596946737489085:=0
def tw5147072655412650461:=0
def tw11952626048017208604:=0
def tw12316437800343898432:=0
def tw10721679111661817268:=0
def tw14977398141458102759:=0
def tw12104561218255747140:=0
def tw17712850460572183846:=0
def tw8018158456712462699:=0
def tw12076209170388183929:=0
def tw9215475165538164651:=0
def tw3201538848396825625:=0
def tw2642131681782844372:=0
def tw16884384524995558128:=0
def tw4025758028320587154:=0
def tw11966264244485182458:=0
def tw12777887931834457139:=0
def tw5114959569798962432:=0
def tw13243315849563196986:=0
def tw4135793551469858050:=0
def tw5155026852394980477:=0
def tw10782928700691292399:=0
def tw3673827436908259488:=0
def tw16847596195888163359:=0
def tw8861876631724152413:=0
def tw8078160426058759239:=0
def tw15137428626593562633:=0
def tw6754734362867938459:=0
def tw14994895273618411487:=0
def tw9600456576462318071:=0
def tw12219021127197456476:=0
def tw86000176144888522:=0
def tw15494687085226706139:=0
def tw10018438005502494010:=0
def tw3274030596124562257:=0
def tw2173033566023473313:=0
def tw8645743194822293022:=0
def tw10644114655351885631:=0
def tw9624996008075104589:=0
def tw1709389283534890457:=0
def tw14570821692618308130:=0
def tw1855972178773444312:=0
def tw15415072261967619208:=0
def tw7728135487570076066:=0
def tw14000111439104177448:=0
def tw10739828347206362980:=0
def tw5857762523160045762:=0
def tw1449902380733771753:=0
def tw10067077911649355294:=0
def tw6801225790307394507:=0
def tw11831019244592482825:=0
def tw9615272468953081841:=0
def tw7571212578523317942:=0
def tw11462177765907680805:=0
def tw9330236071614071821:=0
def tw3704806279751138285:=0
def tw16884105788430361561:=0
def tw6919866695258363493:=0
def tw2637327357237989574:=0
def tw1702530318132951843:=0
def tw17240466284748313068:=0
def tw18340129892009613339:=0
def tw13827641161138491093:=0
def tw4793592552744876887:=0
def tw4638546704117478603:=0
def tw9480911211046918722:=0
def tw2519911689783467723:=0
def tw8646726789634691727:=0
def tw11053154689772931426:=0
def tw17370659925081227146:=0
def tw2469038814319704469:=0
def tw13552828295400677032:=0
def tw16702616859156237246:=0
def tw17927684618435944997:=0
def tw1057620704912093223:=0
def tw7339465163859906737:=0
def tw2922119246219151703:=0
def tw15691077323361681758:=0
def tw3308031817565739624:=0
def tw13335218650130683804:=0
def tw7897458147328595343:=0
def tw4695618146645256847:=0
def tw14668998378607458945:=0
def tw12964999688602156225:=0
def tw7728295920433873054:=0
def tw14066743097788286206:=0
def tw6080384140434194469:=0
def tw16745694022910547987:=0
def tw17457335379619537132:=0
def tw7426503029041831382:=0
def tw13246455948807076779:=0
def tw16362632276198217356:=0
def tw378567968756420282:=0
def tw9688091223506361838:=0
def tw12325324675020486668:=0
def tw2838055837576913986:=0
def tw11490949273592552577:=0
def tw9982347665143638505:=0
def tw16585470877484601501:=0
def tw17214858213335355451:=0
def tw12983402891756572724:=0
def tw16188789270117763115:=0
def tw2604096977683505813:=0
def tw70828740230778309:=0
def tw15519454404645802050:=0
def tw11204795796503652312:=0
def tw16871120608641318480:=0
def tw2677481529681068727:=0
def tw1828078884209305162:=0
def tw3676838087922595426:=0
def tw7976953308247158644:=0
def tw493772547006334279:=0
def tw12240896579411933927:=0
def tw6692968083922595977:=0
def tw3038446548856178087:=0
def tw4908679357087817030:=0
def tw4040686830938278089:=0
def tw6015350379591360501:=0
def tw9791301846966124694:=0
def tw5557671300468294068:=0
def tw11902768538573408661:=0
def tw6195176921475054387:=0
def tw9747291668247907565:=0
def tw18398156013412744613:=0
def tw8814435345723653856:=0
def tw5488944765126642186:=0
def tw13810582337373538725:=0
def tw6968639134781516755:=0
def tw10138702926833377299:=0
def tw1024905090626074309:=0
def tw6432631692614246794:=0
def tw7628330815874162274:=0
def tw12283118109294640128:=0
def tw13406923902982073517:=0
def tw8162851588044404852:=0
def tw5805639443764397698:=0
def tw12495376606504972704:=0
def tw5533612974583106426:=0
def tw16538191598766912287:=0
def tw3543139874265872003:=0
def tw18309627782825898897:=0
def tw12974057826480400073:=0
def tw5034410985586051438:=0
def tw11003555566237660705:=0
def tw5415458471336569550:=0
def tw14385206711178124007:=0
def tw14396944310551296372:=0
def tw2818289359594423047:=0
def tw15190925804663335868:=0
def tw5611365387478794767:=0
def tw13820134682131692730:=0
def tw9451676904326717116:=0
def tw301945916156148555:=0
def tw935525196015888021:=0
def tw11637740899645564903:=0
def tw16128034945259839346:=0
def tw9467175632138154609:=0
def tw12337555237663915084:=0
def tw18027194848739504119:=0
def tw10262635461509403035:=0
def tw9400254472261317499:=0
def tw10681027593671211899:=0
def tw4479768630174221284:=0
def tw3606200786874474711:=0
def tw1119703711481768696:=0
def tw18133588648443698106:=0
def tw6464930431591277463:=0
def tw5109527599537426618:=0
def tw15454721743529273077:=0
def tw9649748235451015044:=0
def tw14475825963538902332:=0
def tw13932497792596764159:=0
def tw11680567338108775895:=0
def tw5882562499723286029:=0
def tw7819728251841262386:=0
def tw1316499538518624578:=0
def tw18016510659227714023:=0
def tw7985683656462904753:=0
def tw5443963109515055316:=0
def tw10186758454823726683:=0
def tw5715486077157503852:=0
def tw6980524192952558741:=0
def tw16144348638155656924:=0
def tw15905160966303805707:=0
def tw8230735783066747267:=0
def tw1779346316934446684:=0
def tw1442788358240074128:=0
def tw1025937676351564608:=0
def tw14853341219669627842:=0
def tw13130046818223500537:=0
def tw8979099464299703255:=0
def tw4566355522435463626:=0
def tw11663431720658337430:=0
def tw4279332165177553189:=0
def tw7822525995843180432:=0
def tw4987307073851857271:=0
def tw1204659694226347145:=0
def tw5454346201325747729:=0
def tw3422483397511689014:=0
def tw9172182169971733027:=0
def tw16111149666049427489:=0
def tw13307740915044735183:=0
def tw9832541756084338109:=0
def tw18188940156701453611:=0
def tw8722362217914303776:=0
def tw6245012047576482379:=0
def tw17732428044927545423:=0
def tw16800773668084202791:=0
def tw1291014037270496382:=0
def tw2651092976954600299:=0
def tw8838747090148895645:=0
def tw18429143007314905892:=0
def tw18221698513217082149:=0
def tw3319151979630932799:=0
def tw1678129769620792528:=0
def tw5959598193593535769:=0
def tw16218320619055321628:=0
def tw4519729324922651934:=0
def tw7131449552645255536:=0
def tw15669873880526594258:=0
def tw17851160334688770633:=0
def tw12313025414755583479:=0
def tw14811265245001842115:=0
def tw8999839557281279754:=0
def tw7583498627361531072:=0
def tw6468475244127433831:=0
def tw13220690454282948146:=0
def tw5581789874133446491:=0
def tw7120531732700278559:=0
def tw15503865755882272783:=0
def tw13920509452289146481:=0
def tw12178227489125747050:=0
def tw6991350820452065703:=0
def tw3217657484009164406:=0
def tw513276272824824106:=0
def tw7265546390206068322:=0
def tw12555310134790958885:=0
def tw17230230421252216595:=0
def tw11976363250054571456:=0
def tw8717308475597223416:=0
def tw18434175971681673229:=0
def tw4086043717947191786:=0
def tw15875852596717796609:=0
def tw13687180780480569231:=0
def tw6354630710738631825:=0
def tw7748678614828834694:=0
def tw1207643946361790796:=0
def tw13164948058352960029:=0
def tw5175570211772797494:=0
def tw5105351187923990239:=0
def tw9003731976721376792:=0
def tw3419785704355164916:=0
def tw11282342870009537245:=0
def tw1464699760904892321:=0
def tw5757158342963655589:=0
def tw2626666714363540701:=0
def tw15642021919109652140:=0
def tw9968811380844663257:=0
def tw8505469370726559872:=0
def tw14475477898700952754:=0
def tw11083625538638816560:=0
def tw13950964460892878417:=0
def tw13250507924478335488:=0
def tw14803967909817100128:=0
def tw1391026399603543493:=0
def tw15482865785765384812:=0
def tw2975214476694710645:=0
def tw3149352057922721962:=0
def tw750839550250871616:=0
def tw12816951621310505544:=0
def tw9226404673291332483:=0
def tw272881807330856707:=0
def tw5185359990521290624:=0
def tw2763483318216971796:=0
def tw1360380123990359250:=0
def tw11328607141978899542:=0
def tw14026645824701483835:=0
def tw17548687205188513629:=0
def tw8268846363039343580:=0
def tw8233860103569707286:=0
def tw17430257678293135223:=0
end PySem.W.Fast
set_option maxRecDepth 100000 in
set_option maxHeartbeats 0 in
theorem PySem.Challenge.cw_tonguenest_k23_kinds_all_through_holds : PySem.Challenge.rw_tonguenest_k23_kinds_all_through.Holds := by
  w_on; o_law; k_head; (case hw => w_witness2)
  k_fill
  refine T1.walk (l := PySem.Challenge.rw_tonguenest_k23_kinds_all_through) rfl rfl (fun w h Y => ⟨PySem.W.km_in_of Y, PySem.W.km_tabs_of Y 124 (by simp)⟩) ?F
  case F =>
    intro w mg fa h KX G hmg
    refine' T1.all_mk KX G hmg ?A1 ?A2 ?A3 ?A4 ?A5 ?a6 ?l6 ?c6 ?k6 ?A7 ?A8 ?A9 ?A10 ?A11 ?A12 ?A13 ?A14 ?A15 ?A16 ?A17 ?A18 ?A19 ?A20 ?A21 ?A22 ?A23 ?A24 ?A25 ?A26 ?A27 ?A28 ?A29 ?A30 ?A31 ?A32 ?A33 ?A34 ?A35 ?A36 ?A37 ?A38 ?A39 ?A40 ?A41 ?A42 ?A43 ?A44 ?hd ?hp ?aC1 ?B1 ?B2 ?B3 ?B4 ?cpg1 ?chd1 ?cpo1 ?csa1 ?cmk1 ?ckc1 ?nA1_1 ?nA1_2 ?aC2 ?B5 ?B6 ?B7 ?B8 ?B9 ?B10 ?B11 ?B12 ?B13 ?B14 ?B15 ?B16 ?B17 ?B18 ?cpg2 ?chd2 ?cpo2 ?csa2 ?cmk2 ?ckc2 ?nA2_1 ?nA2_2 ?nA2_3 ?nA2_4 ?nA2_5 ?nA2_6 ?aC3 ?B19 ?B20 ?B21 ?B22 ?B23 ?cpg3 ?chd3 ?cpo3 ?csa3 ?cmk3 ?ckc3 ?nA3_1 ?nA3_2 ?nA3_3 ?nA3_4 ?z1 ?z2 ?z3 ?z4 ?z5 ?z6 ?z7 ?z8 ?z9 ?z10 ?z11 ?z12 ?z13 ?z14 ?z15 ?z16 ?z17 ?z18 ?gi1 ?gi2 ?aO1 ?hO
    (case A1|A2|A3|A4|A5 => walk_at "own def")
    (case a6|l6|c6|k6 => k_is)
    (case A7|A8|A9|A10|A11|A12|A13|A14|A15|A16|A17|A18|A19|A20|A21|A22|A23|A24|A25|A26|A27|A28|A29|A30|A31|A32|A33|A34|A35|A36|A37|A38|A39|A40|A41|A42|A43|A44 => walk_at "own def")
    (case hd|hp => kernel_rfl)
    (case aC1 => k_is)
    (case B1|B2|B3|B4 => walk_at "own method")
    (case cpg1|chd1|cpo1|csa1|cmk1|ckc1|nA1_1|nA1_2|aC2 => k_is)
    (case B5|B6|B7|B8|B9|B10|B11|B12|B13|B14|B15|B16|B17|B18 => walk_at "own method")
    (case cpg2|chd2|cpo2|csa2|cmk2|ckc2|nA2_1|nA2_2|nA2_3|nA2_4|nA2_5|nA2_6|aC3 => k_is)
    (case B19|B20|B21|B22|B23 => walk_at "own method")
    (case cpg3|chd3|cpo3|csa3|cmk3|ckc3|nA3_1|nA3_2|nA3_3|nA3_4|z1|z2|z3|z4|z5|z6|z7|z8|z9|z10|z11|z12|z13|z14|z15|z16|z17|z18|gi1|gi2|aO1 => k_is)
    (case hO => kernel_rfl)
