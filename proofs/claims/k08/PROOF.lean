import PyProof.Rows.All
import Wide.All
import OpenK.AllK
import PySem.Challenge.RW_playboard_k08_lines_that_are_no_game
set_option Elab.async false
set_option linter.all false
set_option maxRecDepth 100000
set_option maxHeartbeats 4000000
set_option compiler.extract_closed false
open List renaming length_map->Wm,mem_cons->Wn,mem_map->Wo,getElem?_eq_getElem->Wp,length_append->Wq,getElem?_map->Wr,map_map->Ws,size_toArray->Wt,mem_singleton->Wu,mem_cons_self->Wv,mem_of_getElem?->Ww,length_cons->Wx,mem_cons_of_mem->Wy,getElem?_eq_some_iff->Wz,map_append->WA,not_mem_nil->WB,all_eq_true->WC,getD_eq_getElem?_getD->WD,all_cons->WE,mem_append->WF,mem_range->WG,length_drop->WH,map_cons->WI,length_take->WJ,map_congr_left->WK,mem_append_right->WL,mem_filterMap->WM,append_nil->WN,take_of_length_le->WO,filter_eq_self->WP,all_map->WQ,filter_cons->WR,any_cons->WS,find?_cons->WT,lookup_cons->WU,getElem_mem->WV,length_filter_le->WW,getElem?_eq_none->WX,filter_append->WY,map_id->WZ,getElem?_of_mem->W0,length_range->W1,nodup_cons->W2,getElem?_append_left->W3,set_cons_zero->W4,length_nil->W5,length_eq_zero_iff->W6,take_length->W7,any_eq_true->W8,take_add_one->W9,filterMap_cons->Xa,getElem?_append_right->Xb,map_nil->Xc,drop_zero->Xd,ext_getElem?->Xe,range_succ->Xf,nodup_append->Xg,any_map->Xh,mem_of_mem_drop->Xi,filter_eq_nil_iff->Xj,find?_eq_none->Xk,mem_filter->Xl,mem_append_left->Xm,getElem_inj->Xn,of_mem_zip->Xo,take_sublist->Xp,forIn_cons->Xq,drop_eq_getElem_cons->Xr,getElem?_range->Xs,drop_sublist->Xu,map_drop->Xv,mem_of_find?_eq_some->Xw,map_take->Xx,drop_of_length_le->Xy,any_eq_false->Xz,length_singleton->XA,getElem?_toArray->XB,pairwise_iff_getElem->XD,pairwise_cons->XE,take_append_drop->XF,length_zipWith->XG,getElem?_cons_zero->XH,getElem?_cons_succ->XJ,set_cons_succ->XM,nodup_iff_pairwise_ne->XO,pairwise_map->XQ,filter_map->XR,sum_cons->XS,take_nil->XT,drop_drop->XU,mem_of_mem_take->XV,getElem?_set_self->XW,getElem?_set_ne->XX,getElem?_replicate->XY,getElem?_zip_eq_some->XZ,mem_iff_getElem->X0,mem_drop_iff_getElem->X1,length_eraseIdx_of_lt->X2,append_assoc->X3,mem_erase_of_ne->X4,getElem_toArray->X5,contains_cons->X6,getElem_range->X7,map_eq_nil_iff->X8,length_take_le'->X9,filter_congr->Yb,all_eq_false->Yc
open Nat renaming le_refl->Yd,le_trans->Ye,ne_of_lt->Yg,zero_le->Yh,lt_of_lt_of_le->Yi,le_succ->Yj,lt_irrefl->Yk,ne_of_gt->Yl,le_of_eq->Ym,min_eq_left->Yn,lt_trans->Yo,lt_succ_of_lt->Yp,le_of_lt->Yq,lt_succ_self->Yr,succ_ne_self->Ys,succ_ne_zero->Yt,succ_pos->Yu,sub_zero->Yv
open Int renaming toNat_natCast->Yw,emod_nonneg->Yx,emod_lt_of_pos->Yy,mul_le_mul->Yz,zero_add->YA,toNat_of_nonneg->YB
open Bool renaming and_eq_true->YC,false_ne_true->YD,true_and->YE,eq_iff_iff->YF,false_eq_true->YG,not_eq_true'->YH,not_eq_false'->YI,and_false->YJ,and_true->YK,or_false->YL,false_or->YM,or_eq_true->YN,not_true->YO,not_false->YQ,false_and->YR,and_eq_true_iff->YS,or_true->YT,not_not->YU,or_eq_false_iff->YV,not_eq_true->YW
open Array renaming getElem?_eq_getElem->YX,getElem?_toList->YY,getElem?_eq_some_iff->YZ,getElem?_eq_none->Y0,length_toList->Y1,find?_toList->Y2,size_append->Y3,toList_inj->Y4,toList_push->Y5,getElem_mem->Y6
open Option renaming map_eq_some_iff->Y7,isSome_iff_exists->Y8,getD_none->Y9,bind_some->Za,bind_eq_some_iff->Zb,map_some->Zc
open PySem.W renaming mg_of->Zd,nsIn->Ze,kitOne->Zf,findIn->Zg,mg_none_of->Zh,kia_one->Zi,keepIn->Zj,topRun->Zk,hideAll_get->Zl,mroIn->Zm,fnOf->Zn,emptyDict->Zo,exmOne->Zp,instObj->Zq,hasDictIn->Zr,excIn->Zs,doneF->Zt,hideAll->Zu,plainGet->Zv,callWith_K->Zw,isFn->Zx,plainOver->Zy,makesIn->Zz,specialIn->ZA,codeIn->ZB,boot_heap->ZC,segRunT->ZD,deadEnd->ZE,of_hideAll->ZF,lookIn->ZG,takerIn->ZH,cellsFrom_some->ZI,hideAll_none->ZJ,handedIn->ZK,findObj_own->ZL,takesIn->ZM,kitx_list->ZN,kitx_dict->ZO,codeRec_of->ZP,isNs_of_in->ZQ,tail_of_in->ZR,funFrames_hide->ZS,readsIn->ZT,findCls->ZU,boot_o_2->ZV,topStub->ZW,segRun->ZX,blockOf->ZY,restOf->ZZ
open PySem.W (Frag)
open PySem renaming wpAny_bind->Si,wpAny_pure->Sk,wpAny->Sn,Shared->So,mainGlobals->Sr,Program->Ss,model->Su,starEach->Sv,sizeLine_eq->Sw,bootBuiltins->Sy,wpAny_newObj_type->Sz,wpAny_callSpecial?_slot->SB,Heap->SD,wpAny_holding->SE,wpAny_field->SH,wpAny_call_entry->SK,wpAny_mono->SL,treeTable->SM,Stmt->SQ,FuncData->SU,wpAny_setField->SX,wpAny_seqItems->SY,Around->S5,codeAny_builtin->S6,codeAny_mono->S7,Expr->S8,wpAny_truthy_bool->Ta,wpAny_attempt->Tb,wpAny_passesOwn->Tc,wpAny_Call_Name_kw->Te,compareOp->Tg,codeAny_call_builtin->Th,eval->Tj,backTo->Tl,wpAny_pyIter_list->Tn,assignEach->To,wpAny_isInstance->Tq,wpAny_call->Tr,sysModules->Ts,firstArgMember->Tt,cLine->Tz,attributeBase->TD,sliceBounds->TJ,wpAny_setField_rec->TK,wpAny_rule->TL,pyNext->TM,codeAny->TN,IsPair->TY,wpAny_loadPart_at->TZ,foldedSetIterable->T0,wpAny_of_eq->T2,rawInt->T3,isSubtype_stop->T4,OsState->T7,Scope->T8,wpAny_standAt->Ub,binaryOp->Uc,letOwnedTupleGo->Ue,importedModules->Uf,setEntries->Ug,swapsWith->Uh,setFlight->Ui,pickOrder->Uj,wpAny_typeOf->Um,wpAny_pyIter_enum->Uo,wpAny_Call_method_late->Up,plainObj_wpAny_Assign_Attribute->Ut,builtinLookup_eq_fast->Uu,typeIs_str->Uv,plainId_quiet->Uw,strIterType->Uy,excClassObj->Uz,wpAny_specialOf->UA,wpAny_execs_nil->UB,codeAny_of_tree->UC,Params->UD,length_partsBetween->UG,leaving->UI,intKind->UJ,noteFrame->UN,wpAny_runValue->UP,wpAny_newFunctionEnv_cells->UQ,wpAny_letOwnedTupleGo_enum->UR,wpAny_fieldsOf->US,recursionLimit->UT,call_meets->UU,GenState->UX,keywordEach->U2,wpAny_handled->U7,wpAny_comprehension_free->U8,IsPart->Va,wpAny_pyNext_enum_itemD->Vd,wpAny_execs_cons->Ve,wpAny_askSetting->Vf,wpAny_pyNext_list_item->Vh,typeLookup->Vi,getItem->Vk,Paired->Vl,Keyword->Vn,ExcBaseFacts->Vo,wpAny_updateSeq->Vp,wpAny_ite_split->Vq,typeLookup_type->Vr,IsZip->Vs,weight_type_call_type->Vt,codeAny_call_function->Vu,wpAny_throw->Vx,wpAny_loadPart->Vy,wpAny_listPart->Vz,subscripted->VA,isSubtype_type->VC,assign->VD,tupleKind->VG,setNext->VH,callerA->VI,BindsTo->VJ,Pos->VL,wpAny_onRaise->VM,field->VO,sliceRange->VS,isInstance->VT,valueAt->VX,seqIndex_neg->VY,relabel->VZ,raiseNew->V1,newTuple->V3,holding->V4,backToKw->V5,seqItems?->V8,newExc->V9,lastMarks->Wa,cellsFrom->Wb,Env->Wd,setItem->We,OwnTail->Wf,atKey->Wi,argsOk->Wj,Draws->Wl,sizeLine->h9,Value->Z0,Addr->Z1
open PySem.Heap renaming get?_push_of_some->Sj,lt_size->Sl,get?_push_size->Sm,get?_update_other->SA,get?_update_self->SJ,size_push->SR,SameBut->Td,FlyingW->TQ,get?_none_of_le->T6,ExtBut->Ul,MadeExcOf->Us
open PySem.Txt renaming split->Sq,join->VF
open PySem.Value renaming ref->Sx,none->SC,builtin->TX,str->Uk,int->UO,type->UV,isInt->VE,isStrOf->VP,bool->VV
open PySem.SetTable renaming below->SI,grown->T5
open PyProof.Rows renaming envOfC->SN,AllBare->Ux,subscriptTail_builtinR->Vj,subscriptTail->VN,seqObj->Wg
open PySem.Heap.SameBut renaming update->SS
open PySem.Builtin.Str renaming occurrences->SV,strSliceIndices->S0
open PySem.Obj renaming mapFields->SW,data_mapFields->Tf,isFreed_of_fields->Tk,mapSeq->Tu,cls_mapFields->Ur,putSet->Vm
open PySem.PassesOwn renaming never->SZ
open PySem.F renaming slot_tuple_iterator_next->S3,args_tuple_iterator_next_1->TW,entry_tuple_iterator_next->T1,slot_zip_next->UE,args_str_split_2->UY,entry_str_split->U5,slot_str_split->Vg,slot_enumerate_next->Vw
open PySem.Around renaming under_plainId->S4,under->V7
open PySem.Builtin.SmallTypes renaming nextOf->S9,ownedTupleIsFree->Tp,ownedTupleHandOut->Ua
open PyProof.Rows.F renaming plain_set_update_loop->Ti,entry_set_update_loop->TH
open PySem.Builtin.Slice renaming slicePlaces->Tw,sliceAdjust->T9,sliceApplied->U0
open PySem.Str renaming empty->Tx,ofString->TB,join->TV
open PySem.Calls renaming evalArgs_plain->TC,callWith_builtin->TU,Name_function_global->UZ
open PySem.Builtin.List renaming listSameRef->TF,listSubscript?->UK,listLengthHint->UL,listExtendWith->UM,listAllItems->U1,listTooLong->Vb
open PySem.Code renaming quiet_builtin->TR,isFrame->V6
open PySem.NameKind renaming free->Ud,cell->VR
open PySem.SetTable.below renaming go->Uq
open PySem.Builtin.Frozenset renaming updateFrom->UF,sizeOf->Vc
open PySem.W renaming looks_findIn->UH,looks_mroIn->VB,findIn->Wh,Looks->Wk
open PySem.StrLaws renaming join_split->UW,found_one->U3,occ_length_le->Vv
open PySem.SetTable.probe renaming go->U4
open PySem.EqBoolInt renaming of_rcne->U6
open PySem.Shared renaming TypeIs->U9
open PySem.Paired renaming length->VQ
open PySem.Walks renaming list->VU
open PySem.SeqAt renaming EqAt->VW
open PySem.pickOrder renaming go->V2
open PySem.Flow renaming next->Wc
abbrev R6:=@decide_eq_true
abbrev R7:=@decide_eq_false
abbrev R8:=@if_neg
abbrev R9:=@if_pos
abbrev Sa:=@of_decide_eq_true
abbrev Sb:=@of_decide_eq_false
abbrev Sc:=@absurd
abbrev Sd:=@Option.some.inj
abbrev Se:=@congrArg
abbrev Sf:=PySem.Str->Option PySem.Value
abbrev Sg:=PySem.Value->PySem.Shared->Prop
abbrev Sh:=List (PySem.Addr×PySem.Obj)
noncomputable section
namespace PySem.W
open Fast in
set_option maxRecDepth 100000 in
set_option maxHeartbeats 0 in
def wsaid:PySem.Challenge.rw_playboard_k08_lines_that_are_no_game.wellSaid=true:=by
 unfold OpenLaw.wellSaid
 (repeat' (with_reducible first|refine look_both ?_ ?_|(unfold OpenRow.wellSaid)|(unfold OpenRow.partSaid)|(unfold OpenScript.wellSaid)|(unfold OpenRowC.wellSaid)|(unfold looksOpen)))<;>as_aux_lemma=>
  (repeat (first|rw[te10501279942588096481]|rw[te10792542408131684335]|rw[te11788848310118352699]|rw[te12749700546528644094]|rw[te12862048085361865435]|rw[te12879404354523853263]|rw[te13343964577679436407]|rw[te13582783067957832011]|rw[te14412699480532031325]|rw[te16286561074155671207]|rw[te17095254045102204799]|rw[te17119622794617984870]|rw[te17691160309236699985]|rw[te17868728402115742887]|rw[te18344453789297297638]|rw[te2357444279172408678]|rw[te2368527892694137696]|rw[te3471404346716756564]|rw[te4274047373036748609]|rw[te4579403493507170074]|rw[te482687673346738481]|rw[te4857012375875476094]|rw[te5318747976498570220]|rw[te5923862056798008813]|rw[te6984425678791042302]|rw[te7723801398212525404]|rw[te797321630700447069]|rw[te8179353310426384613]|rw[te8326940854005059898]|rw[te8377067652309620493]|rw[te9558739934217749035]|rw[te9572597257264208301]|rw[te9706382859710513879]|rw[te9807087744658564304]))
  kernel_rfl
end PySem.W
namespace L2
open PySem PySem.Spec PyProof.Rows
def ii(s:SQ)(j:Nat):SQ:=match s with
 | .ClassDef _ _ _ body _ _ _ _ _ _ _=>body.getD j (.Pass ⟨0,0,0,0⟩)
 |_=>.Pass ⟨0,0,0,0⟩
def ij(s:SQ):Arguments:=match s with
 | .FunctionDef _ a _ _ _ _ _ _ _ _=>a
 |_=>{posonlyargs:=[],args:=[],vararg:=none,kwonlyargs:=[],kw_defaults:=[],kwarg:=none,defaults:=[]}
def eY(s:SQ):List SQ:=match s with
 | .FunctionDef _ _ b _ _ _ _ _ _ _=>b
 |_=>[]
def ao(s:SQ):T8:=match s with
 | .FunctionDef _ _ _ _ _ _ sc _ _ _=>sc
 |_=>{kind:=.function,names:=[],isGenerator:=false,isCoroutine:=false}
end L2
namespace K08
open PySem L2
def ci(i:Nat):SQ:=PySem.Challenge.pw_playboard_k08_lines_that_are_no_game.main.body.getD i (.Pass ⟨0,0,0,0⟩)
abbrev yz:SQ:=ci 0
abbrev dk:SQ:=ii (ci 5) 0
abbrev iy:SQ:=ci 15
abbrev gM:SQ:=ci 16
abbrev iz:SQ:=ci 17
abbrev fN:SQ:=ci 18
abbrev fR:SQ:=ci 21
abbrev cI:SQ:=ii (ci 22) 0
abbrev nA:SQ:=ii (ci 22) 1
abbrev jT:SQ:=ii (ci 22) 2
abbrev kX:SQ:=ii (ci 22) 3
abbrev jU:SQ:=ii (ci 22) 4
abbrev jg:SQ:=ci 31
abbrev fA:SQ:=ci 32
abbrev ge:SQ:=ci 33
abbrev ji:SQ:=ci 34
abbrev jj:SQ:=ci 35
abbrev jk:SQ:=ci 36
abbrev fP:SQ:=ci 37
abbrev fK:SQ:=ci 38
abbrev jl:SQ:=ci 39
abbrev fQ:SQ:=ci 40
abbrev fO:SQ:=ci 41
abbrev du:SQ:=ii (ci 43) 0
abbrev jS:SQ:=ii (ci 43) 1
abbrev kW:SQ:=ii (ci 43) 2
abbrev jf:SQ:=ci 47
abbrev gB:SQ:=ci 48
abbrev gc:SQ:=ci 49
abbrev gb:SQ:=ci 50
abbrev d0:SQ:=ci 51
abbrev jm:SQ:=ci 53
abbrev gf:SQ:=ci 54
abbrev gN:SQ:=ci 55
abbrev gP:SQ:=ci 56
abbrev gj:SQ:=ci 57
abbrev eV:SQ:=ci 58
abbrev gS:SQ:=ci 59
abbrev eU:SQ:=ci 60
abbrev eT:SQ:=ci 61
abbrev gU:SQ:=ci 62
abbrev gi:SQ:=ci 63
abbrev da:SQ:=ci 64
abbrev gQ:SQ:=ci 65
abbrev gO:SQ:=ci 66
abbrev dP:SQ:=ci 67
abbrev gV:SQ:=ci 68
abbrev eA:SQ:=ci 69
abbrev dO:SQ:=ci 70
abbrev gT:SQ:=ci 71
abbrev fS:SQ:=ci 72
abbrev dw:SQ:=ci 73
abbrev eS:SQ:=ci 74
abbrev dt:SQ:=ci 75
abbrev dj:SQ:=ci 76
abbrev cD:SQ:=ci 77
abbrev gR:SQ:=ci 78
abbrev ke:SQ:=ci 79
end K08
namespace L2
open PySem PySem.W PyProof.Rows
def BA{q:Ss}{loose:List Str}{XP:(Sf)->SD->Prop}{YP:World->SD->Prop}{α:Type}{Yf:So->α}{Ya:World->α}{r:RowW}{d:DefRec}{kwd:List (Str×S8)}{run:Z0->List Z0->Sem Z0}(hY:∀(w:World)(s₀ s₁:So),Yf s₀=Ya w->(∀b o,s₀.heap.get? b=some o->s₁.heap.get? b=some o)->YP w s₁.heap)(h:WalkO q loose XP YP r d kwd run):PySem.W.WalkX q loose XP Yf Ya r d kwd run:=
 λw s₀ s₁ mg mb G y a o pm cd doc dV kV ho hd hcd hD hmg hg args vals as L hpre hlay hrd hwl hlo=>h w s₀ s₁ mg mb G (hY w s₀ s₁ y L.keeps) a o pm cd doc dV kV ho hd hcd hD hmg hg args vals as hpre hlay hrd hwl hlo
def ln1{P:List Z0->Prop}(h:∀a0:Z0,P [a0]):∀us:List Z0,us.length=1->P us
 | [a0],_=>h a0
def ln2{P:List Z0->Prop}(h:∀a0 a1:Z0,P [a0,a1]):∀us:List Z0,us.length=2->P us
 | [a0,a1],_=>h a0 a1
def ln3{P:List Z0->Prop}(h:∀a0 a1 a2:Z0,P [a0,a1,a2]):∀us:List Z0,us.length=3->P us
 | [a0,a1,a2],_=>h a0 a1 a2
def ln4{P:List Z0->Prop}(h:∀a0 a1 a2 a3:Z0,P [a0,a1,a2,a3]):∀us:List Z0,us.length=4->P us
 | [a0,a1,a2,a3],_=>h a0 a1 a2 a3
def ln5{P:List Z0->Prop}(h:∀a0 a1 a2 a3 a4:Z0,P [a0,a1,a2,a3,a4]):∀us:List Z0,us.length=5->P us
 | [a0,a1,a2,a3,a4],_=>h a0 a1 a2 a3 a4
def ln6{P:List Z0->Prop}(h:∀a0 a1 a2 a3 a4 a5:Z0,P [a0,a1,a2,a3,a4,a5]):∀us:List Z0,us.length=6->P us
 | [a0,a1,a2,a3,a4,a5],_=>h a0 a1 a2 a3 a4 a5
def ln7{P:List Z0->Prop}(h:∀a0 a1 a2 a3 a4 a5 a6:Z0,P [a0,a1,a2,a3,a4,a5,a6]):∀us:List Z0,us.length=7->P us
 | [a0,a1,a2,a3,a4,a5,a6],_=>h a0 a1 a2 a3 a4 a5 a6
def wC:Nat->List Obj->Nat->Nat->PySem.W.BT
 |0,_,_,_=>.nil
 |f+1,l,a,b=>(l[b]?).elim .nil λo=>.node o (wC f l (2*a) (a+b)) (wC f l (2*a) (2*a+b))
def toT(s:So):SharedT:=⟨wC 12 s.heap.objs.toList 1 0,s.heap.objs.size,s.heap.life,s.gens,s.drawn,s.toks,s.os⟩
abbrev PX(name qual:Str)(params:Arguments)(body:List SQ)(scope:T8)(globals:Z1)(closure:List (Str×Z1))(dV kV doc pm:Z0)(an:Option Z1)(cdv ct:Z0)(bl:Z1):SU:=
 {name,qualname:=qual,params,body:=.stmts body,scope,globals,closure,defaults:=dV,kwdefaults:=kV,doc,pyModule:=pm,annotations:=an,code:=cdv,closureTuple:=ct,builtins:=bl}
noncomputable def stT(t:PySem.W.BT)(n k:Nat)(P:UD)(os:T7):SharedT:=⟨t,n,(boot_heap P).life,Array.mk [],boot_drawn,k,os⟩
def AF{p q:Ss}{loose:List Str}{Xt:So->Bool}{α:Type}{Yf:So->α}{Ya:World->α}{N:Nat}{g0:Bool}{H₀:UD->SD}{gs₀:Array UX}{d₀:Drawn}{k₀ m₀:Nat}{ann:Option Z0}{n0 nb n:Nat}{b:List SQ}{env:Wd}{qp p0 p1:VL}{sa:World->T7->So}{sb:World->T7->SharedT}{sf:World->T7->So}(open_:∀w:World,(fencedOpening SM p w N).map (λs=>(s.heap,s.gens,s.drawn,s.toks))=some (H₀ w.params,gs₀,d₀,k₀))(size:∀w:World,((H₀ w.params).isNs Sr&&gs₀.size == 0,(H₀ w.params).objs.size,(H₀ w.params).nsMap Sr "__annotations__")=(true,m₀,ann))(pre:∀w os,topGo SM p w m₀ ann n0 ⟨H₀ w.params,gs₀,d₀,k₀,os⟩ (topStub p)=some (sa w os,⟨denote SM (.body b env),.body b env,p0,[topFrame qp]⟩))(block:∀w os,segRun SM p w m₀ ann 1 nb (sa w os) (blockOf b env (.body b env) p0 [topFrame qp])=some (.next,(sb w os).abs,.body b env,p1))(main:∀w os,topRun SM p w m₀ ann n (sb w os).abs (restOf b env (.body b env) p1 [topFrame qp])=some (sf w os))(le:Nat.ble (n0+(nb+n)) N=true)(looks:∀w os,((staticsOk (Uf p.main.body) (H₀ w.params) (sf w os).heap&&namesBound p (sf w os).heap&&gensDone (sf w os)&&laidKept (H₀ w.params) (sf w os).heap),
    openSeen q loose (Uf p.main.body) Xt g0 (sf w os),Yf (sf w os))=(true,openGood q loose,Ya w)):LeftO p q loose Xt Yf Ya N g0:=λw=>by
 obtain⟨⟨h,gs,d,k,os⟩,e,e'⟩:=Y7.mp (open_ w);obtain⟨rfl,rfl,rfl,rfl⟩:h=H₀ w.params/\gs=gs₀/\d=d₀/\k=k₀:=by simpa using e'
 obtain⟨z1,z2,z3⟩:_/\_/\_:=by simpa only[Prod.mk.injEq]using size w
 obtain⟨l1,l2,l3⟩:_/\_/\_:=by simpa only[Prod.mk.injEq]using looks w os
 have r3:=go_top (pre w os) (piece_block (block w os) (main w os));have r:=topRun_mono (N - (n0+(nb+n))) _ _ _ _ r3;rw[show n0+(nb+n)+(N - (n0+(nb+n)))=N by have:=Nat.le_of_ble_eq_true le;omega]at r;have t:topFrom SM p w N ⟨H₀ w.params,gs,d,k,os⟩=some (sf w os):=by
  unfold topFrom;dsimp only;rw[z1,z2,z3,r];show(match staticsOk (Uf p.main.body) (H₀ w.params) (sf w os).heap&&namesBound p (sf w os).heap&&gensDone (sf w os)&&laidKept (H₀ w.params) (sf w os).heap with|true=>_|false=>_)=_
  rw[l1]
 unfold openEnds;rw[e];show(topFrom SM p w N _).map _=_;rw[t];exact Se some (Prod.ext l2 l3)
def zf(as:List Z1)(s:So):List (Option Obj):=as.map s.heap.get?
def ze(K:UD->Frag)(w:World):List (Option Obj):=(K w.params).map λp=>some p.2
def PN{K:UD->Frag}{as:List Z1}(e:∀P,as=(K P).map (·.1))(w:World)(s₀ s₁:So)(y:zf as s₀=ze K w)(k:∀b o,s₀.heap.get? b=some o->s₁.heap.get? b=some o):(K w.params).In s₁.heap:=
 InK.keeps w s₀.heap s₁.heap (InK.of e w s₀ y) k
end L2
namespace K08
open PySem L2
def ζw:List Str->Nat->List Z0
 | [],_=>[]
 |x::r,n=>.str x n::ζw r (n+1)
noncomputable abbrev io(l:List Str)(n:Nat):Array Z0:=⟨ζw l n⟩
noncomputable abbrev gr(x:Array Z0)(n:Nat):Obj:=⟨.type "tuple",none,.seq x n,#[]⟩
noncomputable abbrev gu(a b:Str)(s:SQ):Obj:=⟨.none,none,.func (L2.PX a b (ij s) (eY s) (ao s) 0 [] .none .none .none .none none .none .none 0),#[]⟩
noncomputable abbrev j2(a b:Str)(n m l:Nat)(i j k o:Int)(r:Nat)(f:Bool)(p:Int)(q x y z:Nat)(u v:Int)(e:Nat):Obj:=⟨.type "code",none,.fields #[.str a n,.str b m,.str "/claim/cut.py" l,.int i 0,.int j 0,.int 0 0,.int k 0,.int o 0,.ref r,.bool f,.int p 0,.ref q,.none,.ref x,.ref y,.ref z,.int u 0,.int v 0,.str "/claim/cut.py" e],#[]⟩
noncomputable abbrev zO(a b:Str)(n m l:Nat)(i j k o:Int)(r:Nat)(f:Bool)(p:Int)(q:Nat)(u v:Int)(e:Nat):Obj:=⟨.type "code",none,.fields #[.str a n,.str b m,.str "/claim/cut.py" l,.int i 0,.int j 0,.int 0 0,.int k 0,.int o 0,.ref r,.bool f,.int p 0,.ref q,.none,.none,.none,.none,.int u 0,.int v 0,.str "/claim/cut.py" e],#[]⟩
noncomputable abbrev gw(a b:Str)(s:SQ)(m:Str)(n c:Nat):Obj:=⟨.type "function",none,.func (Zn a b (ij s) (eY s) (ao s) .none .none .none (.str m n) none (.ref c) .none),#[]⟩
noncomputable abbrev MP(x:Array Z0):Obj:=⟨.none,none,.fields x,#[]⟩
noncomputable abbrev qc(x:Array Z0):Obj:=⟨.type "code",none,.fields x,#[]⟩
noncomputable abbrev bO(P:UD)(x:Str)(n:Nat)(v:Z0):DictEntry:=⟨PyData.keyHash P x,.str x n,v⟩
noncomputable abbrev aU(x:Obj):PySem.W.BT:=.node x .nil .nil
noncomputable abbrev aP(x:Obj)(a b:PySem.W.BT):PySem.W.BT:=.node x a b
noncomputable abbrev iU:Z0:=.int 0 0
noncomputable abbrev iV(n:Nat):Z0:=.str "/claim/cut.py" n
noncomputable abbrev bS(n:Int):Z0:=.int n 0
noncomputable abbrev MR:Z0:=.ref 31
noncomputable abbrev Bq:Z0:=.type "dict"
noncomputable abbrev MQ:Z0:=.str "playboard.errors" 194
def ζq:List (Int×Nat)->List Z0
 | []=>[]
 |(a,b)::r=>bS a::iU:: .ref b::ζq r
noncomputable abbrev mL(c:Str)(a b d:Nat):Obj:=⟨(.type "frame"),none,.plain,#[(some (.ref a)),(some (.ref 3)),(some (.ref b)),none,(some (.str c d)),none,(some (.ref 0))]⟩
noncomputable abbrev QA:Obj:=⟨(.type "builtin_function_or_method"),none,(.fields #[(.builtin "type.__prepare__"),(.type "type")]),#[]⟩
noncomputable abbrev rL(P:UD)(c:Str)(a b d e g h i:Nat)(f:Int):Obj:=⟨Bq,none,(.dict #[bO P "__module__" a MQ,bO P "__qualname__" b (.str c d),bO P "__firstlineno__" e (.int f g),bO P "__static_attributes__" h (.ref i)] 4),#[]⟩
noncomputable abbrev Kr(a b:Nat):Obj:=⟨(.type "getset_descriptor"),none,(.fields #[(.str "__weakref__" a),(.ref b),(.builtin "ExceptionGroup.__weakref__"),.none]),#[]⟩
noncomputable abbrev nP(a:Nat):Obj:=⟨(.type "super"),none,(.fields #[(.ref a),(.ref a),(.ref a)]),#[]⟩
noncomputable abbrev nO(a:Nat):Obj:=⟨(.type "builtin_function_or_method"),none,(.fields #[(.builtin "object.__init_subclass__"),(.ref a)]),#[]⟩
noncomputable abbrev uy(P:UD)(a b d e f g:Nat)(c:Int):Obj:=⟨Bq,none,(.dict #[bO P "__module__" a MQ,bO P "__firstlineno__" b (.int c d),bO P "__static_attributes__" e (.ref f),bO P "__doc__" g .none] 2),#[]⟩
noncomputable abbrev rK(a:Str)(b c d e f:Nat):Obj:=⟨(.type "type"),none,(.cls ⟨a,[MR],[(.ref b),MR,(.type "ValueError"),(.type "Exception"),(.type "BaseException"),(.type "object")],c,a,true,[],[],false,none,false⟩),#[(some (.ref d)),none,(some (.str a e)),(some (.str a f)),(some (.builtin "ValueError.__new__")),(some (.bool true))]⟩
abbrev hP:Ss:=PySem.Challenge.pw_playboard_k08_lines_that_are_no_game
noncomputable def hQ:Ss:={hP with main:={hP.main with body:=ci 0::ci 2::ci 3::ci 4::ci 5::ci 6::ci 7::ci 8::ci 9::ci 10::ci 11::ci 13::ci 14::ci 15::ci 16::ci 17::ci 18::ci 20::ci 21::ci 22::ci 24::ci 25::ci 26::ci 27::ci 28::ci 29::ci 30::ci 31::ci 32::ci 33::ci 34::ci 35::ci 36::ci 37::ci 38::ci 39::ci 40::ci 41::ci 43::ci 45::ci 46::ci 47::ci 48::ci 49::ci 50::ci 51::ci 53::ci 54::ci 55::ci 56::ci 57::ci 58::ci 59::ci 60::ci 61::ci 62::ci 63::ci 64::ci 65::ci 66::ci 67::ci 68::ci 69::ci 70::ci 71::ci 72::ci 73::ci 74::ci 75::ci 76::ci 77::ci 78::ci 79::[]}}
noncomputable section
variable(P:UD)
def zo3:Obj:=⟨Bq,none,(.dict #[bO P "__name__" 165 (.str "law_playboard_k08_lines_that_are_no_game" 744),bO P "__doc__" 166 .none,bO P "__package__" 167 .none,bO P "__loader__" 168 (.builtin "__main__.__loader__#opaque"),bO P "__spec__" 169 .none,bO P "__annotations__" 170 (.ref 6),bO P "__builtins__" 171 (.ref 4),bO P "__file__" 173 (iV 172),bO P "__cached__" 174 .none,bO P "_wall" 193 (.ref 21),bO P "PlayError" 213 MR,bO P "BadBoard" 229 (.ref 44),bO P "BadGame" 245 (.ref 56),bO P "BadLine" 270 (.ref 75),bO P "BadPlace" 286 (.ref 87),bO P "NoMove" 302 (.ref 99),bO P "TooWide" 318 (.ref 111),bO P "NoWord" 334 (.ref 123),bO P "Over" 350 (.ref 135),bO P "NothingBack" 366 (.ref 147),bO P "FIGURES" 370 (.str "0123456789" 369),bO P "MOST_FIGURES" 372 (.int 9 371),bO P "is_whole" 379 (.ref 156),bO P "is_letter" 386 (.ref 163),bO P "is_among" 395 (.ref 170),bO P "number_of" 401 (.ref 175),bO P "LONGEST" 405 (.int 8 404),bO P "are_holes" 411 (.ref 180),bO P "Board" 473 (.ref 221),bO P "SORTS" 479 (.ref 226),bO P "AIMS" 483 (.ref 227),bO P "END_WORDS" 486 (.ref 228),bO P "STUCK_WORDS" 490 (.ref 229),bO P "MOST_KINDS" 492 (.int 6 491),bO P "MOST_RULES" 494 (.int 24 493),bO P "MOST_PAIRS" 496 (.int 6 495),bO P "is_word" 504 (.ref 236),bO P "is_tuple_of" 512 (.ref 243),bO P "is_list_of" 521 (.ref 250),bO P "is_step" 531 (.ref 257),bO P "is_rule" 541 (.ref 264),bO P "is_pair" 550 (.ref 271),bO P "are_pairs" 556 (.ref 276),bO P "is_turns" 562 (.ref 281),bO P "is_ends" 570 (.ref 288),bO P "are_kinds" 576 (.ref 293),bO P "are_rules" 582 (.ref 298),bO P "Game" 639 (.ref 329),bO P "ORDER" 649 (.ref 334),bO P "FORMS" 701 (.ref 335),bO P "part_of" 710 (.ref 352),bO P "parts_of" 716 (.ref 357),bO P "may_follow" 724 (.ref 364),bO P "sorted_out" 737 (.ref 371),bO P "game_of" 743 (.ref 376),bO P "_law_at" 754 (.ref 383),bO P "_law_whole" 761 (.ref 390),bO P "_law_word" 771 (.ref 397),bO P "_law_side" 778 (.ref 404),bO P "_law_holes" 791 (.ref 411),bO P "_law_kinds" 797 (.ref 416),bO P "_law_rule" 810 (.ref 423),bO P "_law_rules" 816 (.ref 428),bO P "_law_turns" 822 (.ref 433),bO P "_law_ends" 835 (.ref 440),bO P "_law_parts" 846 (.ref 447),bO P "_law_lines" 852 (.ref 452),bO P "_law_same" 866 (.ref 459),bO P "_law_sign" 874 (.ref 466),bO P "_law_bent_line" 887 (.ref 473),bO P "_law_bent" 902 (.ref 480),bO P "_law_number" 908 (.ref 485),bO P "_law_is_letter" 915 (.ref 492),bO P "_law_fits" 923 (.ref 499),bO P "_law_sort" 929 (.ref 504),bO P "_law_wrong_line" 940 (.ref 511),bO P "_law_words" 946 (.ref 516),bO P "_law_is_board" 952 (.ref 521),bO P "_law_is_game" 958 (.ref 526),bO P "_law_parts_of" 964 (.ref 531),bO P "_law_said" 972 (.ref 538),bO P "law" 978 (.ref 543)] 82),#[]⟩
def az:Obj:=gr #[] 0
def Ra:Obj:=MP ⟨ζq [(1,20),(5,27),(7,40),(9,52),(11,64),(16,83),(18,95),(20,107),(22,119),(24,131),(26,143),(31,155),(33,162),(35,169),(37,174),(48,179),(54,186),(85,235),(87,242),(89,249),(91,256),(96,263),(106,270),(108,275),(110,280),(117,287),(119,292),(123,297),(126,304),(154,351),(162,356),(169,363),(173,370),(190,375),(200,382),(205,389),(207,396),(218,403),(222,410),(234,415),(240,422),(253,427),(259,432),(266,439),(273,446),(278,451),(287,458),(299,465),(302,472),(324,479),(346,484),(355,491),(357,498),(363,503),(375,510),(385,515),(387,520),(394,525),(410,530),(417,537),(422,542)]⟩
def Q9:Obj:=zO "<module>" "<module>" 182 183 184 1 0 0 0 11 false 181 12 185 1 186
def Q8:Obj:=mL "__main__" 13 3 164
def ce:Obj:=MP #[]
def Oj:Obj:=gr #[(.str "k" 190)] 0
def Q7:Obj:=gu "_wall" "_wall" yz
def Oa:Obj:=j2 "_wall" "_wall" 187 188 189 1 1 0 3 15 true 181 16 17 18 19 191 1 192
def N7:Obj:=gw "_wall" "_wall" yz "__main__" 164 20
def N5:Obj:=gr #[(.type "ValueError")] 0
def nQ:Obj:=QA
def Q6:Obj:=rL P "PlayError" 203 205 204 207 206 208 29 5
def Q5:Obj:=zO "PlayError" "PlayError" 198 199 200 5 0 0 0 25 false 181 26 201 5 202
def Q4:Obj:=mL "playboard.errors" 27 24 194
def NQ:Obj:=⟨Bq,none,(.dict #[bO P "__module__" 203 MQ,bO P "__firstlineno__" 207 (.int 5 206),bO P "__static_attributes__" 208 (.ref 29),bO P "__weakref__" 210 (.ref 32),bO P "__doc__" 211 .none] 3),#[]⟩
def NL:Obj:=⟨(.type "type"),none,(.cls ⟨"PlayError",[(.type "ValueError")],[MR,(.type "ValueError"),(.type "Exception"),(.type "BaseException"),(.type "object")],30,"PlayError",true,[],[(.ref 44),(.ref 56),(.ref 75),(.ref 87),(.ref 99),(.ref 111),(.ref 123),(.ref 135),(.ref 147)],false,none,false⟩),#[(some (.ref 22)),none,(some (.str "PlayError" 196)),(some (.str "PlayError" 204)),(some (.builtin "ValueError.__new__")),(some (.bool true))]⟩
def NI:Obj:=Kr 209 31
def Q3:Obj:=nP 31
def Q0:Obj:=nO 31
def j3:Obj:=gr #[MR] 0
def QZ:Obj:=rL P "BadBoard" 221 223 222 225 224 226 42 7
def QY:Obj:=zO "BadBoard" "BadBoard" 216 217 218 7 0 0 0 38 false 181 39 219 7 220
def QX:Obj:=mL "playboard.errors" 40 37 194
def Nq:Obj:=uy P 221 225 224 226 42 227 7
def Nn:Obj:=rK "BadBoard" 44 43 35 214 222
def QW:Obj:=nP 44
def QV:Obj:=nO 44
def QU:Obj:=rL P "BadGame" 237 239 238 241 240 242 54 9
def QT:Obj:=zO "BadGame" "BadGame" 232 233 234 9 0 0 0 50 false 181 51 235 9 236
def QS:Obj:=mL "playboard.errors" 52 49 194
def M3:Obj:=uy P 237 241 240 242 54 243 9
def M2:Obj:=rK "BadGame" 56 55 47 230 238
def QR:Obj:=nP 56
def QQ:Obj:=nO 56
def QP:Obj:=⟨Bq,none,(.dict #[bO P "__module__" 253 MQ,bO P "__qualname__" 255 (.str "BadLine" 254),bO P "__firstlineno__" 257 (.int 11 256),bO P "__init__" 265 (.ref 72),bO P "__static_attributes__" 267 (.ref 73)] 5),#[]⟩
def QO:Obj:=MP #[(bS 13),(bS 4),(.ref 71)]
def QN:Obj:=zO "BadLine" "BadLine" 248 249 250 11 0 0 0 62 false 181 63 251 11 252
def QM:Obj:=mL "playboard.errors" 64 61 194
def M1:Obj:=gr (io ["self","at"] 261) 0
def QL:Obj:=gu "__init__" "BadLine.__init__" dk
def M0:Obj:=j2 "__init__" "BadLine.__init__" 258 259 260 13 2 0 3 66 true 181 67 68 69 70 263 13 264
def MZ:Obj:=gw "__init__" "BadLine.__init__" dk "playboard.errors" 194 71
def MY:Obj:=gr #[(.str "at" 266)] 0
def MX:Obj:=⟨Bq,none,(.dict #[bO P "__module__" 253 MQ,bO P "__firstlineno__" 257 (.int 11 256),bO P "__init__" 265 (.ref 72),bO P "__static_attributes__" 267 (.ref 73),bO P "__doc__" 268 .none] 2),#[]⟩
def MW:Obj:=rK "BadLine" 75 74 59 246 254
def QK:Obj:=nP 75
def QJ:Obj:=nO 75
def QI:Obj:=rL P "BadPlace" 278 280 279 282 281 283 85 16
def QH:Obj:=zO "BadPlace" "BadPlace" 273 274 275 16 0 0 0 81 false 181 82 276 16 277
def QG:Obj:=mL "playboard.errors" 83 80 194
def MV:Obj:=uy P 278 282 281 283 85 284 16
def MU:Obj:=rK "BadPlace" 87 86 78 271 279
def QF:Obj:=nP 87
def QE:Obj:=nO 87
def QD:Obj:=rL P "NoMove" 294 296 295 298 297 299 97 18
def QC:Obj:=zO "NoMove" "NoMove" 289 290 291 18 0 0 0 93 false 181 94 292 18 293
def QB:Obj:=mL "playboard.errors" 95 92 194
def MT:Obj:=uy P 294 298 297 299 97 300 18
def MS:Obj:=rK "NoMove" 99 98 90 287 295
def OK:Obj:=nP 99
def OJ:Obj:=nO 99
def OI:Obj:=rL P "TooWide" 310 312 311 314 313 315 109 20
def OH:Obj:=zO "TooWide" "TooWide" 305 306 307 20 0 0 0 105 false 181 106 308 20 309
def OG:Obj:=mL "playboard.errors" 107 104 194
def JI:Obj:=uy P 310 314 313 315 109 316 20
def JH:Obj:=rK "TooWide" 111 110 102 303 311
def OF:Obj:=nP 111
def OE:Obj:=nO 111
def OD:Obj:=rL P "NoWord" 326 328 327 330 329 331 121 22
def OC:Obj:=zO "NoWord" "NoWord" 321 322 323 22 0 0 0 117 false 181 118 324 22 325
def OB:Obj:=mL "playboard.errors" 119 116 194
def JG:Obj:=uy P 326 330 329 331 121 332 22
def JF:Obj:=rK "NoWord" 123 122 114 319 327
def OA:Obj:=nP 123
def Oz:Obj:=nO 123
def Oy:Obj:=rL P "Over" 342 344 343 346 345 347 133 24
def Ox:Obj:=zO "Over" "Over" 337 338 339 24 0 0 0 129 false 181 130 340 24 341
def Ow:Obj:=mL "playboard.errors" 131 128 194
def JE:Obj:=uy P 342 346 345 347 133 348 24
def JD:Obj:=rK "Over" 135 134 126 335 343
def Ov:Obj:=nP 135
def Ou:Obj:=nO 135
def Ot:Obj:=rL P "NothingBack" 358 360 359 362 361 363 145 26
def Os:Obj:=zO "NothingBack" "NothingBack" 353 354 355 26 0 0 0 141 false 181 142 356 26 357
def Oq:Obj:=mL "playboard.errors" 143 140 194
def JC:Obj:=uy P 358 362 361 363 145 364 26
def JB:Obj:=rK "NothingBack" 147 146 138 351 359
def Op:Obj:=nP 147
def Oo:Obj:=nO 147
def JA:Obj:=gr #[(.str "thing" 376)] 0
def On:Obj:=gu "is_whole" "is_whole" iy
def Jz:Obj:=j2 "is_whole" "is_whole" 373 374 375 31 1 0 3 150 true 181 151 152 153 154 377 31 378
def Jy:Obj:=gw "is_whole" "is_whole" iy "playboard.words" 367 155
def Jx:Obj:=gr #[(.str "thing" 383)] 0
def Om:Obj:=gu "is_letter" "is_letter" gM
def Jw:Obj:=j2 "is_letter" "is_letter" 380 381 382 33 1 0 3 157 true 181 158 159 160 161 384 33 385
def Jv:Obj:=gw "is_letter" "is_letter" gM "playboard.words" 367 162
def Ju:Obj:=gr (io ["thing","least","most"] 390) 0
def Ol:Obj:=gu "is_among" "is_among" iz
def Jt:Obj:=j2 "is_among" "is_among" 387 388 389 35 3 0 3 164 true 181 165 166 167 168 393 35 394
def Js:Obj:=gw "is_among" "is_among" iz "playboard.words" 367 169
def Oi:Obj:=gu "number_of" "number_of" fN
def Jr:Obj:=qc #[(.str "number_of" 396),(.str "number_of" 397),(iV 398),(bS 37),(bS 1),iU,iU,(bS 3),(.ref 171),(.bool true),(bS 181),(.ref 172),.none,.none,.none,(.ref 173),(bS 399),(bS 37),(iV 400)]
def Jq:Obj:=gw "number_of" "number_of" fN "playboard.words" 367 174
def Oh:Obj:=gu "are_holes" "are_holes" fR
def Jp:Obj:=qc #[(.str "are_holes" 406),(.str "are_holes" 407),(iV 408),(bS 48),(bS 2),iU,iU,(bS 3),(.ref 176),(.bool true),(bS 181),(.ref 177),.none,.none,.none,(.ref 178),(bS 409),(bS 48),(iV 410)]
def Jo:Obj:=gw "are_holes" "are_holes" fR "playboard.boards" 402 179
def Og:Obj:=⟨Bq,none,(.dict #[bO P "__module__" 419 (.str "playboard.boards" 402),bO P "__qualname__" 421 (.str "Board" 420),bO P "__firstlineno__" 423 (.int 54 422),bO P "__init__" 429 (.ref 192),bO P "has" 437 (.ref 199),bO P "squares" 443 (.ref 204),bO P "moved" 453 (.ref 211),bO P "far_row" 461 (.ref 218),bO P "__static_attributes__" 466 (.ref 219)] 9),#[]⟩
def Of:Obj:=MP #[(bS 56),(bS 4),(.ref 191),(bS 66),(bS 4),(.ref 198),(bS 69),(bS 4),(.ref 203),(bS 72),(bS 4),(.ref 210),(bS 75),(bS 4),(.ref 217)]
def Oe:Obj:=zO "Board" "Board" 414 415 416 54 0 0 0 184 false 181 185 417 54 418
def Od:Obj:=mL "playboard.boards" 186 183 402
def Oc:Obj:=gu "__init__" "Board.__init__" cI
def Jn:Obj:=qc #[(.str "__init__" 424),(.str "Board.__init__" 425),(iV 426),(bS 56),(bS 4),iU,iU,(bS 3),(.ref 188),(.bool true),(bS 181),(.ref 189),.none,.none,.none,(.ref 190),(bS 427),(bS 56),(iV 428)]
def Jm:Obj:=gw "__init__" "Board.__init__" cI "playboard.boards" 402 191
def Jl:Obj:=gr (io ["self","square"] 433) 0
def Ob:Obj:=gu "has" "Board.has" nA
def Jk:Obj:=j2 "has" "Board.has" 430 431 432 66 2 0 3 193 true 181 194 195 196 197 435 66 436
def Jj:Obj:=gw "has" "Board.has" nA "playboard.boards" 402 198
def N9:Obj:=gu "squares" "Board.squares" jT
def Ji:Obj:=qc #[(.str "squares" 438),(.str "Board.squares" 439),(iV 440),(bS 69),(bS 1),iU,iU,(bS 3),(.ref 200),(.bool true),(bS 181),(.ref 201),.none,.none,.none,(.ref 202),(bS 441),(bS 69),(iV 442)]
def Jh:Obj:=gw "squares" "Board.squares" jT "playboard.boards" 402 203
def Jg:Obj:=gr (io ["self","square","across","up"] 447) 0
def N8:Obj:=gu "moved" "Board.moved" kX
def Jf:Obj:=j2 "moved" "Board.moved" 444 445 446 72 4 0 3 205 true 181 206 207 208 209 451 72 452
def Je:Obj:=gw "moved" "Board.moved" kX "playboard.boards" 402 210
def Jd:Obj:=gr (io ["self","side"] 457) 0
def N6:Obj:=gu "far_row" "Board.far_row" jU
def Jc:Obj:=j2 "far_row" "Board.far_row" 454 455 456 75 2 0 3 212 true 181 213 214 215 216 459 75 460
def Jb:Obj:=gw "far_row" "Board.far_row" jU "playboard.boards" 402 217
def Ja:Obj:=gr (io ["firm","high","holes","wide"] 462) 0
def IZ:Obj:=⟨Bq,none,(.dict #[bO P "__module__" 419 (.str "playboard.boards" 402),bO P "__firstlineno__" 423 (.int 54 422),bO P "__init__" 429 (.ref 192),bO P "has" 437 (.ref 199),bO P "squares" 443 (.ref 204),bO P "moved" 453 (.ref 211),bO P "far_row" 461 (.ref 218),bO P "__static_attributes__" 466 (.ref 219),bO P "__dict__" 468 (.ref 222),bO P "__weakref__" 470 (.ref 223),bO P "__doc__" 471 .none] 4),#[]⟩
def IY:Obj:=⟨(.type "type"),none,(.cls ⟨"Board",[(.type "object")],[(.ref 221),(.type "object")],220,"Board",true,[],[],false,none,false⟩),#[none,none,(some (.str "Board" 412)),(some (.str "Board" 420)),(some (.builtin "object.__new__")),(some (.bool true))]⟩
def IX:Obj:=⟨(.type "getset_descriptor"),none,(.fields #[(.str "__dict__" 467),(.ref 221),(.builtin "function.__dict__"),(.builtin "function.__dict__#set")]),#[]⟩
def IW:Obj:=Kr 469 221
def N4:Obj:=nP 221
def N3:Obj:=nO 221
def IV:Obj:=gr (io ["leap","slide","jump"] 476) 0
def IU:Obj:=gr (io ["go","hit","any"] 480) 0
def IT:Obj:=gr (io ["without","home"] 484) 0
def IS:Obj:=gr (io ["lost","even","won"] 487) 0
def IR:Obj:=gr (io ["thing","words"] 500) 0
def N2:Obj:=gu "is_word" "is_word" jg
def IQ:Obj:=j2 "is_word" "is_word" 497 498 499 85 2 0 3 230 true 181 231 232 233 234 502 85 503
def IP:Obj:=gw "is_word" "is_word" jg "playboard.rules" 474 235
def IN:Obj:=gr (io ["thing","many"] 508) 0
def N0:Obj:=gu "is_tuple_of" "is_tuple_of" fA
def IM:Obj:=j2 "is_tuple_of" "is_tuple_of" 505 506 507 87 2 0 3 237 true 181 238 239 240 241 510 87 511
def IL:Obj:=gw "is_tuple_of" "is_tuple_of" fA "playboard.rules" 474 242
def IK:Obj:=gr (io ["thing","least","most"] 516) 0
def NZ:Obj:=gu "is_list_of" "is_list_of" ge
def IJ:Obj:=j2 "is_list_of" "is_list_of" 513 514 515 89 3 0 3 244 true 181 245 246 247 248 519 89 520
def II:Obj:=gw "is_list_of" "is_list_of" ge "playboard.rules" 474 249
def IH:Obj:=gr (io ["sort","across","up","longest"] 525) 0
def NY:Obj:=gu "is_step" "is_step" ji
def IG:Obj:=j2 "is_step" "is_step" 522 523 524 91 3 0 3 251 true 181 252 253 254 255 529 91 530
def IF:Obj:=gw "is_step" "is_step" ji "playboard.rules" 474 256
def IE:Obj:=gr (io ["thing","kinds","sort","aim"] 535) 0
def NX:Obj:=gu "is_rule" "is_rule" jj
def ID:Obj:=j2 "is_rule" "is_rule" 532 533 534 96 2 0 3 258 true 181 259 260 261 262 539 96 540
def IC:Obj:=gw "is_rule" "is_rule" jj "playboard.rules" 474 263
def IB:Obj:=gr (io ["thing","firsts","seconds"] 545) 0
def NW:Obj:=gu "is_pair" "is_pair" jk
def IA:Obj:=j2 "is_pair" "is_pair" 542 543 544 106 3 0 3 265 true 181 266 267 268 269 548 106 549
def Iz:Obj:=gw "is_pair" "is_pair" jk "playboard.rules" 474 270
def NV:Obj:=gu "are_pairs" "are_pairs" fP
def Iy:Obj:=qc #[(.str "are_pairs" 551),(.str "are_pairs" 552),(iV 553),(bS 108),(bS 3),iU,iU,(bS 3),(.ref 272),(.bool true),(bS 181),(.ref 273),.none,.none,.none,(.ref 274),(bS 554),(bS 108),(iV 555)]
def Ix:Obj:=gw "are_pairs" "are_pairs" fP "playboard.rules" 474 275
def NU:Obj:=gu "is_turns" "is_turns" fK
def Iw:Obj:=qc #[(.str "is_turns" 557),(.str "is_turns" 558),(iV 559),(bS 110),(bS 2),iU,iU,(bS 3),(.ref 277),(.bool true),(bS 181),(.ref 278),.none,.none,.none,(.ref 279),(bS 560),(bS 110),(iV 561)]
def Iv:Obj:=gw "is_turns" "is_turns" fK "playboard.rules" 474 280
def Iu:Obj:=gr (io ["thing","kinds"] 566) 0
def NT:Obj:=gu "is_ends" "is_ends" jl
def Ir:Obj:=j2 "is_ends" "is_ends" 563 564 565 117 2 0 3 282 true 181 283 284 285 286 568 117 569
def Iq:Obj:=gw "is_ends" "is_ends" jl "playboard.rules" 474 287
def NS:Obj:=gu "are_kinds" "are_kinds" fQ
def Ip:Obj:=qc #[(.str "are_kinds" 571),(.str "are_kinds" 572),(iV 573),(bS 119),(bS 1),iU,iU,(bS 3),(.ref 289),(.bool true),(bS 181),(.ref 290),.none,.none,.none,(.ref 291),(bS 574),(bS 119),(iV 575)]
def Io:Obj:=gw "are_kinds" "are_kinds" fQ "playboard.rules" 474 292
def NR:Obj:=gu "are_rules" "are_rules" fO
def Im:Obj:=qc #[(.str "are_rules" 577),(.str "are_rules" 578),(iV 579),(bS 123),(bS 2),iU,iU,(bS 3),(.ref 294),(.bool true),(bS 181),(.ref 295),.none,.none,.none,(.ref 296),(bS 580),(bS 123),(iV 581)]
def Il:Obj:=gw "are_rules" "are_rules" fO "playboard.rules" 474 297
def NP:Obj:=⟨Bq,none,(.dict #[bO P "__module__" 592 (.str "playboard.games" 583),bO P "__qualname__" 594 (.str "Game" 593),bO P "__firstlineno__" 596 (.int 126 595),bO P "__init__" 609 (.ref 312),bO P "rules_of" 617 (.ref 319),bO P "turned" 625 (.ref 326),bO P "__static_attributes__" 632 (.ref 327)] 7),#[]⟩
def NO:Obj:=MP #[(bS 128),(bS 4),(.ref 311),(bS 146),(bS 4),(.ref 318),(bS 149),(bS 4),(.ref 325)]
def NN:Obj:=zO "Game" "Game" 587 588 589 126 0 0 0 302 false 181 303 590 126 591
def NM:Obj:=mL "playboard.games" 304 301 583
def Ik:Obj:=gr (io ["self","board","kinds","rules","turns","ends","stuck"] 600) 0
def NK:Obj:=gu "__init__" "Game.__init__" du
def Ij:Obj:=j2 "__init__" "Game.__init__" 597 598 599 128 7 0 3 306 true 181 307 308 309 310 607 128 608
def Ii:Obj:=gw "__init__" "Game.__init__" du "playboard.games" 583 311
def Ih:Obj:=gr (io ["self","kind"] 613) 0
def NJ:Obj:=gu "rules_of" "Game.rules_of" jS
def Ig:Obj:=j2 "rules_of" "Game.rules_of" 610 611 612 146 2 0 3 313 true 181 314 315 316 317 615 146 616
def Ie:Obj:=gw "rules_of" "Game.rules_of" jS "playboard.games" 583 318
def Ic:Obj:=gr (io ["self","kind"] 621) 0
def NH:Obj:=gu "turned" "Game.turned" kW
def Ib:Obj:=j2 "turned" "Game.turned" 618 619 620 149 2 0 3 320 true 181 321 322 323 324 623 149 624
def Ia:Obj:=gw "turned" "Game.turned" kW "playboard.games" 583 325
def HZ:Obj:=gr (io ["board","ends","kinds","rules","stuck","turns"] 626) 0
def HY:Obj:=⟨Bq,none,(.dict #[bO P "__module__" 592 (.str "playboard.games" 583),bO P "__firstlineno__" 596 (.int 126 595),bO P "__init__" 609 (.ref 312),bO P "rules_of" 617 (.ref 319),bO P "turned" 625 (.ref 326),bO P "__static_attributes__" 632 (.ref 327),bO P "__dict__" 634 (.ref 330),bO P "__weakref__" 636 (.ref 331),bO P "__doc__" 637 .none] 4),#[]⟩
def HX:Obj:=⟨(.type "type"),none,(.cls ⟨"Game",[(.type "object")],[(.ref 329),(.type "object")],328,"Game",true,[],[],false,none,false⟩),#[none,none,(some (.str "Game" 585)),(some (.str "Game" 593)),(some (.builtin "object.__new__")),(some (.bool true))]⟩
def HW:Obj:=⟨(.type "getset_descriptor"),none,(.fields #[(.str "__dict__" 633),(.ref 329),(.builtin "function.__dict__"),(.builtin "function.__dict__#set")]),#[]⟩
def HV:Obj:=Kr 635 329
def NG:Obj:=nP 329
def NF:Obj:=nO 329
def HU:Obj:=gr (io ["board","hole","kind","rule","turn","end","stuck"] 642) 0
def HS:Obj:=⟨Bq,none,(.dict #[bO P "board" 650 (.ref 336),bO P "hole" 654 (.ref 337),bO P "kind" 657 (.ref 338),bO P "leap" 660 (.ref 339),bO P "slide" 666 (.ref 340),bO P "jump" 672 (.ref 341),bO P "turn" 678 (.ref 342),bO P "without" 682 (.ref 343),bO P "home" 685 (.ref 344),bO P "stuck" 688 (.ref 345)] 10),#[]⟩
def HR:Obj:=gr (io ["board","number","number"] 651) 0
def HQ:Obj:=gr (io ["hole","number"] 655) 0
def HP:Obj:=gr (io ["kind","letter"] 658) 0
def HN:Obj:=gr (io ["rule","letter","aim","number","number"] 661) 0
def HM:Obj:=gr (io ["rule","letter","aim","number","number"] 667) 0
def HL:Obj:=gr (io ["rule","letter","aim","number","number"] 673) 0
def HK:Obj:=gr (io ["turn","letter","letter"] 679) 0
def HJ:Obj:=gr (io ["end","letter"] 683) 0
def HI:Obj:=gr (io ["end","letter"] 686) 0
def HH:Obj:=gr (io ["stuck","word"] 689) 0
def HG:Obj:=gr (io ["form","word","fits"] 705) 0
def NE:Obj:=gu "part_of" "part_of" jf
def HF:Obj:=j2 "part_of" "part_of" 702 703 704 154 2 0 3 346 true 181 347 348 349 350 708 154 709
def HE:Obj:=gw "part_of" "part_of" jf "playboard.notes" 640 351
def ND:Obj:=gu "parts_of" "parts_of" gB
def HD:Obj:=qc #[(.str "parts_of" 711),(.str "parts_of" 712),(iV 713),(bS 162),(bS 1),iU,iU,(bS 3),(.ref 353),(.bool true),(bS 181),(.ref 354),.none,.none,.none,(.ref 355),(bS 714),(bS 162),(iV 715)]
def HC:Obj:=gw "parts_of" "parts_of" gB "playboard.notes" 640 356
def HB:Obj:=gr (io ["sort","last"] 720) 0
def NC:Obj:=gu "may_follow" "may_follow" gc
def HA:Obj:=j2 "may_follow" "may_follow" 717 718 719 169 2 0 3 358 true 181 359 360 361 362 722 169 723
def Hz:Obj:=gw "may_follow" "may_follow" gc "playboard.notes" 640 363
def Hy:Obj:=gr (io ["lines","found","sort","last","at","line","parts"] 728) 0
def NB:Obj:=gu "sorted_out" "sorted_out" gb
def Hx:Obj:=j2 "sorted_out" "sorted_out" 725 726 727 173 1 0 3 365 true 181 366 367 368 369 735 173 736
def Hw:Obj:=gw "sorted_out" "sorted_out" gb "playboard.notes" 640 370
def NA:Obj:=gu "game_of" "game_of" d0
def Hv:Obj:=qc #[(.str "game_of" 738),(.str "game_of" 739),(iV 740),(bS 190),(bS 1),iU,iU,(bS 3),(.ref 372),(.bool true),(bS 181),(.ref 373),.none,.none,.none,(.ref 374),(bS 741),(bS 190),(iV 742)]
def Hu:Obj:=gw "game_of" "game_of" d0 "playboard.notes" 640 375
def Ht:Obj:=gr (io ["_law_script","_law_k","_law_cell"] 749) 0
def Nz:Obj:=gu "_law_at" "_law_at" jm
def Hs:Obj:=j2 "_law_at" "_law_at" 746 747 748 200 2 0 3 377 true 181 378 379 380 381 752 200 753
def Hr:Obj:=gw "_law_at" "_law_at" jm "law_playboard_k08_lines_that_are_no_game" 744 382
def Hq:Obj:=gr #[(.str "_law_thing" 758)] 0
def Ny:Obj:=gu "_law_whole" "_law_whole" gf
def Ho:Obj:=j2 "_law_whole" "_law_whole" 755 756 757 205 1 0 3 384 true 181 385 386 387 388 759 205 760
def Hn:Obj:=gw "_law_whole" "_law_whole" gf "law_playboard_k08_lines_that_are_no_game" 744 389
def Hm:Obj:=gr (io ["_law_e","_law_word_here","_law_name","_law_fits_here"] 765) 0
def Nx:Obj:=gu "_law_word" "_law_word" gN
def Hl:Obj:=j2 "_law_word" "_law_word" 762 763 764 207 1 0 3 391 true 181 392 393 394 395 769 207 770
def Hk:Obj:=gw "_law_word" "_law_word" gN "law_playboard_k08_lines_that_are_no_game" 744 396
def Hj:Obj:=gr #[(.str "_law_cell" 775)] 0
def Nw:Obj:=gu "_law_side" "_law_side" gP
def Hi:Obj:=j2 "_law_side" "_law_side" 772 773 774 218 1 0 3 398 true 181 399 400 401 402 776 218 777
def Hh:Obj:=gw "_law_side" "_law_side" gP "law_playboard_k08_lines_that_are_no_game" 744 403
def Hg:Obj:=gr (io ["_law_script","_law_k","_law_many","_law_count","_law_found","_law_j","_law_square"] 782) 0
def Nv:Obj:=gu "_law_holes" "_law_holes" gj
def G0:Obj:=j2 "_law_holes" "_law_holes" 779 780 781 222 3 0 3 405 true 181 406 407 408 409 789 222 790
def GZ:Obj:=gw "_law_holes" "_law_holes" gj "law_playboard_k08_lines_that_are_no_game" 744 410
def Nu:Obj:=gu "_law_kinds" "_law_kinds" eV
def GY:Obj:=qc #[(.str "_law_kinds" 792),(.str "_law_kinds" 793),(iV 794),(bS 234),(bS 2),iU,iU,(bS 3),(.ref 412),(.bool true),(bS 181),(.ref 413),.none,.none,.none,(.ref 414),(bS 795),(bS 234),(iV 796)]
def GX:Obj:=gw "_law_kinds" "_law_kinds" eV "law_playboard_k08_lines_that_are_no_game" 744 415
def GW:Obj:=gr (io ["_law_cell","_law_kinds_here","_law_sort_here","_law_far","_law_aim","_law_across","_law_up"] 801) 0
def Nt:Obj:=gu "_law_rule" "_law_rule" gS
def GV:Obj:=j2 "_law_rule" "_law_rule" 798 799 800 240 2 0 3 417 true 181 418 419 420 421 808 240 809
def GU:Obj:=gw "_law_rule" "_law_rule" gS "law_playboard_k08_lines_that_are_no_game" 744 422
def Nr:Obj:=gu "_law_rules" "_law_rules" eU
def GT:Obj:=qc #[(.str "_law_rules" 811),(.str "_law_rules" 812),(iV 813),(bS 253),(bS 3),iU,iU,(bS 3),(.ref 424),(.bool true),(bS 181),(.ref 425),.none,.none,.none,(.ref 426),(bS 814),(bS 253),(iV 815)]
def GS:Obj:=gw "_law_rules" "_law_rules" eU "law_playboard_k08_lines_that_are_no_game" 744 427
def Np:Obj:=gu "_law_turns" "_law_turns" eT
def GQ:Obj:=qc #[(.str "_law_turns" 817),(.str "_law_turns" 818),(iV 819),(bS 259),(bS 3),iU,iU,(bS 3),(.ref 429),(.bool true),(bS 181),(.ref 430),.none,.none,.none,(.ref 431),(bS 820),(bS 259),(iV 821)]
def GP:Obj:=gw "_law_turns" "_law_turns" eT "law_playboard_k08_lines_that_are_no_game" 744 432
def GO:Obj:=gr (io ["_law_script","_law_k","_law_kinds_here","_law_cell","_law_found","_law_j","_law_one"] 826) 0
def No:Obj:=gu "_law_ends" "_law_ends" gU
def GN:Obj:=j2 "_law_ends" "_law_ends" 823 824 825 266 3 0 3 434 true 181 435 436 437 438 833 266 834
def GM:Obj:=gw "_law_ends" "_law_ends" gU "law_playboard_k08_lines_that_are_no_game" 744 439
def GL:Obj:=gr (io ["_law_script","_law_k","_law_kinds_here","_law_rules_here","_law_turns_here"] 839) 0
def Nm:Obj:=gu "_law_parts" "_law_parts" gi
def GK:Obj:=j2 "_law_parts" "_law_parts" 836 837 838 273 2 0 3 441 true 181 442 443 444 445 844 273 845
def GJ:Obj:=gw "_law_parts" "_law_parts" gi "law_playboard_k08_lines_that_are_no_game" 744 446
def Nl:Obj:=gu "_law_lines" "_law_lines" da
def GI:Obj:=qc #[(.str "_law_lines" 847),(.str "_law_lines" 848),(iV 849),(bS 278),(bS 5),iU,iU,(bS 3),(.ref 448),(.bool true),(bS 181),(.ref 449),.none,.none,.none,(.ref 450),(bS 850),(bS 278),(iV 851)]
def GH:Obj:=gw "_law_lines" "_law_lines" da "law_playboard_k08_lines_that_are_no_game" 744 451
def GG:Obj:=gr (io ["_law_game","_law_wide","_law_high","_law_holes_here","_law_parts_here","_law_stuck","_law_board","_law_rule_here"] 856) 0
def Nk:Obj:=gu "_law_same" "_law_same" gQ
def GF:Obj:=j2 "_law_same" "_law_same" 853 854 855 287 6 0 3 453 true 181 454 455 456 457 864 287 865
def GE:Obj:=gw "_law_same" "_law_same" gQ "law_playboard_k08_lines_that_are_no_game" 744 458
def GD:Obj:=gr (io ["_law_cell","_law_signs"] 870) 0
def Nj:Obj:=gu "_law_sign" "_law_sign" gO
def GB:Obj:=j2 "_law_sign" "_law_sign" 867 868 869 299 1 0 3 460 true 181 461 462 463 464 872 299 873
def Gz:Obj:=gw "_law_sign" "_law_sign" gO "law_playboard_k08_lines_that_are_no_game" 744 465
def Gy:Obj:=gr (io ["_law_text","_law_cell","_law_way","_law_at_here","_law_words_here","_law_spot","_law_some"] 878) 0
def Ni:Obj:=gu "_law_bent_line" "_law_bent_line" dP
def Gx:Obj:=j2 "_law_bent_line" "_law_bent_line" 875 876 877 302 2 0 3 467 true 181 468 469 470 471 885 302 886
def Gw:Obj:=gw "_law_bent_line" "_law_bent_line" dP "law_playboard_k08_lines_that_are_no_game" 744 472
def Gv:Obj:=gr (io ["_law_texts","_law_cell","_law_more","_law_way","_law_at_here","_law_to","_law_ahead","_law_left","_law_some"] 891) 0
def Nh:Obj:=gu "_law_bent" "_law_bent" gV
def Gu:Obj:=j2 "_law_bent" "_law_bent" 888 889 890 324 3 0 3 474 true 181 475 476 477 478 900 324 901
def Gs:Obj:=gw "_law_bent" "_law_bent" gV "law_playboard_k08_lines_that_are_no_game" 744 479
def Ng:Obj:=gu "_law_number" "_law_number" eA
def Gr:Obj:=qc #[(.str "_law_number" 903),(.str "_law_number" 904),(iV 905),(bS 346),(bS 1),iU,iU,(bS 3),(.ref 481),(.bool true),(bS 181),(.ref 482),.none,.none,.none,(.ref 483),(bS 906),(bS 346),(iV 907)]
def Gq:Obj:=gw "_law_number" "_law_number" eA "law_playboard_k08_lines_that_are_no_game" 744 484
def Gp:Obj:=gr #[(.str "_law_word_here" 912)] 0
def Nf:Obj:=gu "_law_is_letter" "_law_is_letter" dO
def Go:Obj:=j2 "_law_is_letter" "_law_is_letter" 909 910 911 355 1 0 3 486 true 181 487 488 489 490 913 355 914
def Gn:Obj:=gw "_law_is_letter" "_law_is_letter" dO "law_playboard_k08_lines_that_are_no_game" 744 491
def Gm:Obj:=gr (io ["_law_word_here","_law_form"] 919) 0
def Nd:Obj:=gu "_law_fits" "_law_fits" gT
def Gk:Obj:=j2 "_law_fits" "_law_fits" 916 917 918 357 2 0 3 493 true 181 494 495 496 497 921 357 922
def Gj:Obj:=gw "_law_fits" "_law_fits" gT "law_playboard_k08_lines_that_are_no_game" 744 498
def Nc:Obj:=gu "_law_sort" "_law_sort" fS
def Gi:Obj:=qc #[(.str "_law_sort" 924),(.str "_law_sort" 925),(iV 926),(bS 363),(bS 1),iU,iU,(bS 3),(.ref 500),(.bool true),(bS 181),(.ref 501),.none,.none,.none,(.ref 502),(bS 927),(bS 363),(iV 928)]
def Gh:Obj:=gw "_law_sort" "_law_sort" fS "law_playboard_k08_lines_that_are_no_game" 744 503
def Gg:Obj:=gr (io ["_law_texts","_law_last","_law_at_here","_law_text","_law_sort_here"] 933) 0
def Na:Obj:=gu "_law_wrong_line" "_law_wrong_line" dw
def Gf:Obj:=j2 "_law_wrong_line" "_law_wrong_line" 930 931 932 375 1 0 3 505 true 181 506 507 508 509 938 375 939
def Ge:Obj:=gw "_law_wrong_line" "_law_wrong_line" dw "law_playboard_k08_lines_that_are_no_game" 744 510
def M9:Obj:=gu "_law_words" "_law_words" eS
def Gd:Obj:=qc #[(.str "_law_words" 941),(.str "_law_words" 942),(iV 943),(bS 385),(bS 2),iU,iU,(bS 3),(.ref 512),(.bool true),(bS 181),(.ref 513),.none,.none,.none,(.ref 514),(bS 944),(bS 385),(iV 945)]
def Gc:Obj:=gw "_law_words" "_law_words" eS "law_playboard_k08_lines_that_are_no_game" 744 515
def M8:Obj:=gu "_law_is_board" "_law_is_board" dt
def Gb:Obj:=qc #[(.str "_law_is_board" 947),(.str "_law_is_board" 948),(iV 949),(bS 387),(bS 2),iU,iU,(bS 3),(.ref 517),(.bool true),(bS 181),(.ref 518),.none,.none,.none,(.ref 519),(bS 950),(bS 387),(iV 951)]
def Ga:Obj:=gw "_law_is_board" "_law_is_board" dt "law_playboard_k08_lines_that_are_no_game" 744 520
def M7:Obj:=gu "_law_is_game" "_law_is_game" dj
def F0:Obj:=qc #[(.str "_law_is_game" 953),(.str "_law_is_game" 954),(iV 955),(bS 394),(bS 4),iU,iU,(bS 3),(.ref 522),(.bool true),(bS 181),(.ref 523),.none,.none,.none,(.ref 524),(bS 956),(bS 394),(iV 957)]
def FZ:Obj:=gw "_law_is_game" "_law_is_game" dj "law_playboard_k08_lines_that_are_no_game" 744 525
def M6:Obj:=gu "_law_parts_of" "_law_parts_of" cD
def FY:Obj:=qc #[(.str "_law_parts_of" 959),(.str "_law_parts_of" 960),(iV 961),(bS 410),(bS 1),iU,iU,(bS 3),(.ref 527),(.bool true),(bS 181),(.ref 528),.none,.none,.none,(.ref 529),(bS 962),(bS 410),(iV 963)]
def FX:Obj:=gw "_law_parts_of" "_law_parts_of" cD "law_playboard_k08_lines_that_are_no_game" 744 530
def FW:Obj:=gr (io ["_law_texts","_law_e"] 968) 0
def M5:Obj:=gu "_law_said" "_law_said" gR
def FV:Obj:=j2 "_law_said" "_law_said" 965 966 967 417 1 0 3 532 true 181 533 534 535 536 970 417 971
def FU:Obj:=gw "_law_said" "_law_said" gR "law_playboard_k08_lines_that_are_no_game" 744 537
def M4:Obj:=gu "law" "law" ke
def FT:Obj:=qc #[(.str "law" 973),(.str "law" 974),(iV 975),(bS 422),(bS 1),iU,iU,(bS 3),(.ref 539),(.bool true),(bS 181),(.ref 540),.none,.none,.none,(.ref 541),(bS 976),(bS 422),(iV 977)]
def FS:Obj:=gw "law" "law" ke "law_playboard_k08_lines_that_are_no_game" 744 542
end
noncomputable def hK(P:UD):Frag:=(nat_lit 2,ZV P)::(nat_lit 3,zo3 P)::(nat_lit 15,az)::(nat_lit 17,Oj)::(nat_lit 18,az)::(nat_lit 20,Oa)::(nat_lit 21,N7)::(nat_lit 22,N5)::(nat_lit 29,az)::(nat_lit 30,NQ P)::(nat_lit 31,NL)::(nat_lit 32,NI)::(nat_lit 35,j3)::(nat_lit 42,az)::(nat_lit 43,Nq P)::(nat_lit 44,Nn)::(nat_lit 47,j3)::(nat_lit 54,az)::(nat_lit 55,M3 P)::(nat_lit 56,M2)::(nat_lit 59,j3)::(nat_lit 66,az)::(nat_lit 68,M1)::(nat_lit 69,az)::(nat_lit 71,M0)::(nat_lit 72,MZ)::(nat_lit 73,MY)::(nat_lit 74,MX P)::(nat_lit 75,MW)::(nat_lit 78,j3)::(nat_lit 85,az)::(nat_lit 86,MV P)::(nat_lit 87,MU)::(nat_lit 90,j3)::(nat_lit 97,az)::(nat_lit 98,MT P)::(nat_lit 99,MS)::(nat_lit 102,j3)::(nat_lit 109,az)::(nat_lit 110,JI P)::(nat_lit 111,JH)::(nat_lit 114,j3)::(nat_lit 121,az)::(nat_lit 122,JG P)::(nat_lit 123,JF)::(nat_lit 126,j3)::(nat_lit 133,az)::(nat_lit 134,JE P)::(nat_lit 135,JD)::(nat_lit 138,j3)::(nat_lit 145,az)::(nat_lit 146,JC P)::(nat_lit 147,JB)::(nat_lit 150,az)::(nat_lit 152,JA)::(nat_lit 153,az)::(nat_lit 155,Jz)::(nat_lit 156,Jy)::(nat_lit 157,az)::(nat_lit 159,Jx)::(nat_lit 160,az)::(nat_lit 162,Jw)::(nat_lit 163,Jv)::(nat_lit 164,az)::(nat_lit 166,Ju)::(nat_lit 167,az)::(nat_lit 169,Jt)::(nat_lit 170,Js)::(nat_lit 171,az)::(nat_lit 174,Jr)::(nat_lit 175,Jq)::(nat_lit 176,az)::(nat_lit 179,Jp)::(nat_lit 180,Jo)::(nat_lit 188,az)::(nat_lit 191,Jn)::(nat_lit 192,Jm)::(nat_lit 193,az)::(nat_lit 195,Jl)::(nat_lit 196,az)::(nat_lit 198,Jk)::(nat_lit 199,Jj)::(nat_lit 200,az)::(nat_lit 203,Ji)::(nat_lit 204,Jh)::(nat_lit 205,az)::(nat_lit 207,Jg)::(nat_lit 208,az)::(nat_lit 210,Jf)::(nat_lit 211,Je)::(nat_lit 212,az)::(nat_lit 214,Jd)::(nat_lit 215,az)::(nat_lit 217,Jc)::(nat_lit 218,Jb)::(nat_lit 219,Ja)::(nat_lit 220,IZ P)::(nat_lit 221,IY)::(nat_lit 222,IX)::(nat_lit 223,IW)::(nat_lit 226,IV)::(nat_lit 227,IU)::(nat_lit 228,IT)::(nat_lit 229,IS)::(nat_lit 230,az)::(nat_lit 232,IR)::(nat_lit 233,az)::(nat_lit 235,IQ)::(nat_lit 236,IP)::(nat_lit 237,az)::(nat_lit 239,IN)::(nat_lit 240,az)::(nat_lit 242,IM)::(nat_lit 243,IL)::(nat_lit 244,az)::(nat_lit 246,IK)::(nat_lit 247,az)::(nat_lit 249,IJ)::(nat_lit 250,II)::(nat_lit 251,az)::(nat_lit 253,IH)::(nat_lit 254,az)::(nat_lit 256,IG)::(nat_lit 257,IF)::(nat_lit 258,az)::(nat_lit 260,IE)::(nat_lit 261,az)::(nat_lit 263,ID)::(nat_lit 264,IC)::(nat_lit 265,az)::(nat_lit 267,IB)::(nat_lit 268,az)::(nat_lit 270,IA)::(nat_lit 271,Iz)::(nat_lit 272,az)::(nat_lit 275,Iy)::(nat_lit 276,Ix)::(nat_lit 277,az)::(nat_lit 280,Iw)::(nat_lit 281,Iv)::(nat_lit 282,az)::(nat_lit 284,Iu)::(nat_lit 285,az)::(nat_lit 287,Ir)::(nat_lit 288,Iq)::(nat_lit 289,az)::(nat_lit 292,Ip)::(nat_lit 293,Io)::(nat_lit 294,az)::(nat_lit 297,Im)::(nat_lit 298,Il)::(nat_lit 306,az)::(nat_lit 308,Ik)::(nat_lit 309,az)::(nat_lit 311,Ij)::(nat_lit 312,Ii)::(nat_lit 313,az)::(nat_lit 315,Ih)::(nat_lit 316,az)::(nat_lit 318,Ig)::(nat_lit 319,Ie)::(nat_lit 320,az)::(nat_lit 322,Ic)::(nat_lit 323,az)::(nat_lit 325,Ib)::(nat_lit 326,Ia)::(nat_lit 327,HZ)::(nat_lit 328,HY P)::(nat_lit 329,HX)::(nat_lit 330,HW)::(nat_lit 331,HV)::(nat_lit 334,HU)::(nat_lit 335,HS P)::(nat_lit 336,HR)::(nat_lit 337,HQ)::(nat_lit 338,HP)::(nat_lit 339,HN)::(nat_lit 340,HM)::(nat_lit 341,HL)::(nat_lit 342,HK)::(nat_lit 343,HJ)::(nat_lit 344,HI)::(nat_lit 345,HH)::(nat_lit 346,az)::(nat_lit 348,HG)::(nat_lit 349,az)::(nat_lit 351,HF)::(nat_lit 352,HE)::(nat_lit 353,az)::(nat_lit 356,HD)::(nat_lit 357,HC)::(nat_lit 358,az)::(nat_lit 360,HB)::(nat_lit 361,az)::(nat_lit 363,HA)::(nat_lit 364,Hz)::(nat_lit 365,az)::(nat_lit 367,Hy)::(nat_lit 368,az)::(nat_lit 370,Hx)::(nat_lit 371,Hw)::(nat_lit 372,az)::(nat_lit 375,Hv)::(nat_lit 376,Hu)::(nat_lit 377,az)::(nat_lit 379,Ht)::(nat_lit 380,az)::(nat_lit 382,Hs)::(nat_lit 383,Hr)::(nat_lit 384,az)::(nat_lit 386,Hq)::(nat_lit 387,az)::(nat_lit 389,Ho)::(nat_lit 390,Hn)::(nat_lit 391,az)::(nat_lit 393,Hm)::(nat_lit 394,az)::(nat_lit 396,Hl)::(nat_lit 397,Hk)::(nat_lit 398,az)::(nat_lit 400,Hj)::(nat_lit 401,az)::(nat_lit 403,Hi)::(nat_lit 404,Hh)::(nat_lit 405,az)::(nat_lit 407,Hg)::(nat_lit 408,az)::(nat_lit 410,G0)::(nat_lit 411,GZ)::(nat_lit 412,az)::(nat_lit 415,GY)::(nat_lit 416,GX)::(nat_lit 417,az)::(nat_lit 419,GW)::(nat_lit 420,az)::(nat_lit 422,GV)::(nat_lit 423,GU)::(nat_lit 424,az)::(nat_lit 427,GT)::(nat_lit 428,GS)::(nat_lit 429,az)::(nat_lit 432,GQ)::(nat_lit 433,GP)::(nat_lit 434,az)::(nat_lit 436,GO)::(nat_lit 437,az)::(nat_lit 439,GN)::(nat_lit 440,GM)::(nat_lit 441,az)::(nat_lit 443,GL)::(nat_lit 444,az)::(nat_lit 446,GK)::(nat_lit 447,GJ)::(nat_lit 448,az)::(nat_lit 451,GI)::(nat_lit 452,GH)::(nat_lit 453,az)::(nat_lit 455,GG)::(nat_lit 456,az)::(nat_lit 458,GF)::(nat_lit 459,GE)::(nat_lit 460,az)::(nat_lit 462,GD)::(nat_lit 463,az)::(nat_lit 465,GB)::(nat_lit 466,Gz)::(nat_lit 467,az)::(nat_lit 469,Gy)::(nat_lit 470,az)::(nat_lit 472,Gx)::(nat_lit 473,Gw)::(nat_lit 474,az)::(nat_lit 476,Gv)::(nat_lit 477,az)::(nat_lit 479,Gu)::(nat_lit 480,Gs)::(nat_lit 481,az)::(nat_lit 484,Gr)::(nat_lit 485,Gq)::(nat_lit 486,az)::(nat_lit 488,Gp)::(nat_lit 489,az)::(nat_lit 491,Go)::(nat_lit 492,Gn)::(nat_lit 493,az)::(nat_lit 495,Gm)::(nat_lit 496,az)::(nat_lit 498,Gk)::(nat_lit 499,Gj)::(nat_lit 500,az)::(nat_lit 503,Gi)::(nat_lit 504,Gh)::(nat_lit 505,az)::(nat_lit 507,Gg)::(nat_lit 508,az)::(nat_lit 510,Gf)::(nat_lit 511,Ge)::(nat_lit 512,az)::(nat_lit 515,Gd)::(nat_lit 516,Gc)::(nat_lit 517,az)::(nat_lit 520,Gb)::(nat_lit 521,Ga)::(nat_lit 522,az)::(nat_lit 525,F0)::(nat_lit 526,FZ)::(nat_lit 527,az)::(nat_lit 530,FY)::(nat_lit 531,FX)::(nat_lit 532,az)::(nat_lit 534,FW)::(nat_lit 535,az)::(nat_lit 537,FV)::(nat_lit 538,FU)::(nat_lit 539,az)::(nat_lit 542,FT)::(nat_lit 543,FS)::[]
noncomputable def hA:List Z1:=(hK {strHash:=λ_=>0,shareClass:=λ_=>0,mergeTok:=id,idOf:=λ_=>0,idOfShared:=λ_ _=>0,followText:=λ_=>true,idOfImm:=λ_=>0}).map (·.1)
noncomputable def hE:Wd:={scope:=hP.main.scope,locals:=mainNs,globals:=mainNs,cells:=[],code:=(.ref 13),frame:=some 14}
noncomputable def hB:List SQ:=PySem.W.behindTheImports hP
noncomputable abbrev hC:Code:=.body hB hE
noncomputable abbrev hN:Option Z0:=(some (.ref 6))
noncomputable abbrev hF:List Frame:=[PySem.W.topFrame ⟨0,0,0,0⟩]
noncomputable def hS(w:World)(os:T7):So:=⟨ZC w.params,Array.mk [],PySem.W.boot_drawn,PySem.W.boot_toks,os⟩
noncomputable def PR(w:World)(os:T7):So:=(PySem.W.topGo SM hP w 11 hN 12 (hS w os) (ZW hP)).elim (hS w os) λx=>x.1
noncomputable def Kc(w:World)(os:T7):PySem.W.SharedT:=toT ((ZX SM hP w 11 hN 1 1 (PR w os) (ZY hB hE hC ⟨0,0,0,0⟩ hF)).elim (PR w os) λx=>x.2.1)
def hpre(w:World)(os:T7):PySem.W.topGo SM hP w 11 hN 12 (hS w os) (ZW hP)=some (PR w os,⟨denote SM hC,hC,⟨0,0,0,0⟩,hF⟩):=by kernel_rfl
def RC(w:World)(os:T7):ZX SM hP w 11 hN 1 1 (PR w os) (ZY hB hE hC ⟨0,0,0,0⟩ hF)=some (.next,(Kc w os).abs,hC,⟨0,0,0,0⟩):=by kernel_rfl
noncomputable def hL1(P:UD):PySem.W.BT:=aP (PySem.W.boot_o_0 P) (aP (PySem.W.boot_o_1 P) (aP (zo3 P) (aP (PySem.W.boot_o_7 P) (aP az (aP NL (aP QO (aP nQ (aP NY (aU Ge) .nil) (aU Hr)) (aP Jn (aU Ie) (aU GJ))) (aP QC (aP Jx (aP Ir (aU FS) .nil) (aU GY)) (aP IW (aU HF) (aU Gu)))) (aP j3 (aP nQ (aP Os (aP Iz (aU az) .nil) (aU ce)) (aP Jg (aU (HS P)) (aU az))) (aP JH (aP Jq (aU NO) (aU Np)) (aP IN (aU Hy) (aU Gm))))) (aP nQ (aP ce (aP M0 (aP JD (aP ID (aU M8) .nil) (aU az)) (aP Jj (aU HZ) (aU GG))) (aP nQ (aP az (aU ce) (aU GU)) (aP ce (aU ce) (aU ce)))) (aP (M3 P) (aP MU (aP ce (aP NU (aU az) .nil) (aU Hg)) (aP az (aU HJ) (aU Ni))) (aP OC (aP (Og P) (aU Ij) (aU GN)) (aP az (aU Hv) (aU Gi)))))) (aP az (aP Q7 (aP j3 (aP ce (aP Ox (aP ce (aU Gd) .nil) (aU az)) (aP Jl (aU az) (aU GI))) (aP MS (aP Jv (aU NS) (aU GW)) (aP IU (aU ND) (aU Ng)))) (aP ce (aP QH (aP JB (aP Iy (aU FX) .nil) (aU Hi)) (aP Je (aU HN) (aU az))) (aP nQ (aP Jp (aU ce) (aU ce)) (aP IL (aU Hw) (aU Gj))))) (aP Q5 (aP (Nq P) (aP MW (aP nQ (aP IB (aU ce) .nil) (aU Nx)) (aP Ji (aU HV) (aU GE))) (aP OH (aP az (aU az) (aU GT)) (aP IQ (aU HA) (aU Go)))) (aP j3 (aP nQ (aP Jz (aP ce (aU az) .nil) (aU GZ)) (aP Ja (aU ce) (aU ce))) (aP JF (aP Od (aU Ih) (aU GL)) (aP az (aU Ht) (aU Gg))))))) (aP (PySem.W.boot_o_5 P) (aP (PySem.W.boot_o_9 P) (aP Oj (aP Q3 (aP QM (aP az (aP IF (aU ce) .nil) (aU ce)) (aP az (aU ce) (aU ce))) (aP az (aP Om (aU az) (aU az)) (aP N3 (aU az) (aU az)))) (aP (QU P) (aP az (aP az (aP ce (aU M6) .nil) (aU az)) (aP N8 (aU HQ) (aU GB))) (aP OE (aP ce (aU NM) (aU GP)) (aP N0 (aU NB) (aU Nd))))) (aP az (aP QX (aP MY (aP Ou (aP az (aU Ga) .nil) (aU Hm)) (aP ce (aU HX) (aU Nk))) (aP az (aP Jt (aU Im) (aU ce)) (aP az (aU az) (aU az)))) (aP QR (aP QE (aP az (aP Iv (aU FV) .nil) (aU Nv)) (aP Jc (aU HH) (aU Gw))) (aP az (aP Of (aU az) (aU az)) (aP IJ (aU az) (aU az)))))) (aP Q9 (aP N7 (aP (QZ P) (aP az (aP az (aP az (aU az) .nil) (aU Ho)) (aP Ob (aU Ib) (aU az))) (aP OJ (aP ce (aU Io) (aU Nt)) (aP IS (aU HC) (aU Gq)))) (aP QS (aP az (aP Oo (aP az (aU ce) .nil) (aU az)) (aP ce (aU HL) (aU Gy))) (aP az (aP az (aU az) (aU az)) (aP ce (aU ce) (aU ce))))) (aP az (aP QW (aP QJ (aP az (aP NW (aU F0) .nil) (aU Hk)) (aP az (aU NF) (aU ce))) (aP az (aP Oi (aU (NP P)) (aU az)) (aP az (aU az) (aU az)))) (aP (QP P) (aP az (aP az (aP az (aU M4) .nil) (aU ce)) (aP IY (aU az) (aU az))) (aP Oz (aP ce (aU NJ) (aU Nm)) (aP IH (aU Nz) (aU Na)))))))) (aP (ZV P) (aP (PySem.W.boot_o_4 P) (aP (PySem.W.boot_o_8 P) (aP ce (aP NI (aP QN (aP (Oy P) (aP IG (aU az) .nil) (aU az)) (aP Jm (aU az) (aU az))) (aP QB (aP az (aU Iq) (aU GX)) (aP N4 (aU HE) (aU Gs)))) (aP nQ (aP (QI P) (aP Oq (aP az (aU ce) .nil) (aU Hj)) (aP az (aU HR) (aU Nj))) (aP OF (aP az (aU NN) (aU GQ)) (aP az (aU az) (aU az))))) (aP (Q6 P) (aP QY (aP MZ (aP Ov (aP IC (aU Gb) .nil) (aU ce)) (aP az (aU (HY P)) (aU az))) (aP (OI P) (aP Ol (aU NR) (aU az)) (aP IR (aU HB) (aU Gp)))) (aP M2 (aP QF (aP JA (aP Iw (aU M5) .nil) (aU az)) (aP N6 (aU HI) (aU Gx))) (aP OB (aP az (aU Ii) (aU GM)) (aP NZ (aU Hu) (aU Gh)))))) (aP Ra (aP Oa (aP nQ (aP M1 (aP Ow (aP IE (aU Gc) .nil) (aU Ny)) (aP az (aU NH) (aU GH))) (aP OK (aP az (aU Ip) (aU az)) (aP IT (aU HD) (aU Gr)))) (aP QT (aP QG (aP Op (aP Ix (aU az) .nil) (aU Hh)) (aP az (aU HM) (aU ce))) (aP (OD P) (aP Jo (aU Ik) (aU GO)) (aP az (aU az) (aU az))))) (aP Q4 (aP Nn (aP QK (aP (Ot P) (aP az (aU M7) .nil) (aU Hl)) (aP Jh (aU NG) (aU az))) (aP OG (aP ce (aU nQ) (aU GS)) (aP IP (aU Hz) (aU Gn)))) (aP nQ (aP (QD P) (aP Jy (aP Iu (aU ce) .nil) (aU az)) (aP (IZ P) (aU HG) (aU Gv))) (aP OA (aP az (aU az) (aU az)) (aP ce (aU az) (aU az))))))) (aP (PySem.W.boot_o_6 P) (aP (PySem.W.boot_o_10 P) (aP az (aP Q0 (aP az (aP ce (aP az (aU M9) .nil) (aU Hq)) (aP ce (aU Ic) (aU Nl))) (aP (MT P) (aP Jw (aU ce) (aU ce)) (aP IV (aU ce) (aU ce)))) (aP az (aP ce (aP (JC P) (aP NV (aU FY) .nil) (aU Nw)) (aP Jf (aU HP) (aU Gz))) (aP j3 (aP Oh (aU az) (aU az)) (aP IM (aU Hx) (aU Gk))))) (aP ce (aP az (aP (MX P) (aP j3 (aP ce (aU az) .nil) (aU az)) (aP N9 (aU HW) (aU GF))) (aP ce (aP Js (aU Il) (aU Nr)) (aP N2 (aU NC) (aU Nf)))) (aP QQ (aP j3 (aP On (aP az (aU FU) .nil) (aU G0)) (aP Jb (aU az) (aU az))) (aP (JG P) (aP Oe (aU ce) (aU ce)) (aP II (aU ce) (aU ce)))))) (aP Q8 (aP N5 (aP az (aP QL (aP (JE P) (aP NX (aU ce) .nil) (aU Hn)) (aP Jk (aU Ia) (aU ce))) (aP j3 (aP Ju (aU az) (aU GV)) (aP az (aU az) (aU az)))) (aP az (aP (MV P) (aP az (aP ce (aU FW) .nil) (aU ce)) (aP Jd (aU HK) (aU az))) (aP ce (aP nQ (aU NK) (aU No)) (aP IK (aU NA) (aU Nc))))) (aP (NQ P) (aP QV (aP j3 (aP ce (aP IA (aU FZ) .nil) (aU az)) (aP ce (aU HU) (aU GD))) (aP (JI P) (aP Jr (aU az) (aU ce)) (aP ce (aU ce) (aU ce)))) (aP az (aP ce (aP ce (aP NT (aU FT) .nil) (aU Nu)) (aP IX (aU NE) (aU Nh))) (aP j3 (aP Oc (aU Ig) (aU GK)) (aP az (aU Hs) (aU Gf))))))))
noncomputable def ML(w:World)(os:T7):PySem.W.SharedT:=stT (hL1 w.params) 544 979 w.params os
noncomputable def PQ:List SQ:=(hB.drop 0).take 80
def Ff(w0:World):(λw:World=>(λos=>ZD SM hP w 11 hN 1 4608 (Kc w os) ⟨(execs PQ hE).wrap Zt ZE id id,hC,⟨0,0,0,0⟩,hF⟩)=λos=>some (Wc,(ML w os),hC,⟨422,0,444,133⟩)) (w0.withFollow "special-get-raises" false):=by
 show(λos=>_)=_;rw[PySem.W.Fast.te10110043849684766642,PySem.W.Fast.te12563942051412417395,PySem.W.Fast.te14364793385576792824]
 kernel_rfl
def Fe(w0:World):(λw:World=>(λos=>ZD SM hP w 11 hN 1 4608 (Kc w os) ⟨(execs PQ hE).wrap Zt ZE id id,hC,⟨0,0,0,0⟩,hF⟩)=λos=>some (Wc,(ML w os),hC,⟨422,0,444,133⟩)) (w0.withFollow "special-get-raises" true):=by
 show(λos=>_)=_;rw[PySem.W.Fast.te10110043849684766642,PySem.W.Fast.te12563942051412417395,PySem.W.Fast.te14364793385576792824]
 kernel_rfl
def PM(w:World):(λos=>ZD SM hP w 11 hN 1 4608 (Kc w os) ⟨(execs PQ hE).wrap Zt ZE id id,hC,⟨0,0,0,0⟩,hF⟩)=λos=>some (Wc,(ML w os),hC,⟨422,0,444,133⟩):=PySem.W.byRow2 "special-get-raises" (P:=λw=>(λos=>ZD SM hP w 11 hN 1 4608 (Kc w os) ⟨(execs PQ hE).wrap Zt ZE id id,hC,⟨0,0,0,0⟩,hF⟩)=λos=>some (Wc,(ML w os),hC,⟨422,0,444,133⟩)) Ff Fe w
noncomputable def Fg(tr:(String->Option Builtin)->Ss->World->Nat->Option Z0->Nat->So->Thread->Option So)(tb:String->Option Builtin)(w:World)(os:T7):So:=
 (tr tb hP w 11 hN 2 (ML w os).abs ⟨Zt .next,hC,⟨422,0,444,133⟩,hF⟩).elim (hS w os) id
noncomputable def hX(s:So):Bool:=PySem.W.xlAt hQ [] s&&PySem.W.recOk (PySem.W.RowW.records PySem.Challenge.rw_playboard_k08_lines_that_are_no_game.row.toRowW) s
def RB(w:World):(λos=>Zk SM hP w 11 hN 2 (ML w os).abs ⟨Zt .next,hC,⟨422,0,444,133⟩,hF⟩)=λos=>some (Fg Zk SM w os):=by
 rw[PySem.W.Fast.te14364793385576792824,PySem.W.Fast.te14082659384304107361]
 kernel_rfl
def LZ(w:World):(λos=>(PySem.W.staticsOk (Uf hP.main.body) (ZC w.params) (Fg Zk SM w os).heap&&PySem.W.namesBound hP (Fg Zk SM w os).heap&&PySem.W.gensDone (Fg Zk SM w os)&&PySem.W.laidKept (ZC w.params) (Fg Zk SM w os).heap))=λos=>true:=by
 rw[PySem.W.Fast.te14364793385576792824,PySem.W.Fast.te14082659384304107361,PySem.W.Fast.te5923862056798008813]
 kernel_rfl
def LY(w:World):(λos=>PySem.W.openSeen hQ ["FORMS"] (Uf hP.main.body) hX true (Fg Zk SM w os))=λos=>PySem.W.openGood hQ ["FORMS"]:=by
 rw[PySem.W.Fast.te14364793385576792824,PySem.W.Fast.te14082659384304107361,PySem.W.Fast.te4187177175401517315,PySem.W.Fast.te5923862056798008813]
 kernel_rfl
def LX(w:World):(λos=>zf hA (Fg Zk SM w os))=λos=>ze hK w:=by
 rw[PySem.W.Fast.te14364793385576792824,PySem.W.Fast.te14082659384304107361]
 kernel_rfl
def hBe:hB=(PQ++[]):=by kernel_rfl
def PP(w:World)(os:T7):Zk SM hP w 11 hN (4608+2) (Kc w os).abs (ZZ hB hE hC ⟨0,0,0,0⟩ hF)=some (Fg Zk SM w os):=by have r:=PySem.W.piece_nil (env:=hE) (congrFun (RB w) os);have r:=PySem.W.piece_app (PySem.W.segRun_of (congrFun (PM w) os)) r;exact(Se (λl=>Zk SM hP w 11 hN (4608+2) (Kc w os).abs (ZZ l hE hC ⟨0,0,0,0⟩ hF)) hBe).trans r
def hleft:PySem.W.LeftO hP hQ ["FORMS"] hX (zf hA) (ze hK) 9340:=
 AF (n0:=12) (nb:=1) (n:=(4608+2)) (qp:=⟨0,0,0,0⟩) (p0:=⟨0,0,0,0⟩) (p1:=⟨0,0,0,0⟩) (H₀:=ZC) (m₀:=11) (ann:=hN) (b:=hB) (env:=hE) (sa:=PR) (sb:=Kc) (sf:=λw os=>(Fg Zk SM w os))
  (PySem.W.boot_open (by kernel_rfl) (by decide+kernel) (λs=>by kernel_rfl)) (λw=>by kernel_rfl) hpre RC PP (by decide+kernel) (λw os=>by rw[congrFun (LZ w) os,congrFun (LY w) os,congrFun (LX w) os])
end K08
namespace L2
open PySem PySem.Spec PyProof.Rows
abbrev Key:=Sum Int Str
def qV:Key->Z0->Bool
 | .inl k,v=>VE k v
 | .inr x,v=>VP x v
def Ry(w:World):Key->Int
 | .inl k=>hashInt k
 | .inr x=>hashStr w x
def dy:∀{k:Key}{v:Z0},qV k v=true->(∃i t,k=Sum.inl i/\v=UO i t)\/(∃x t,k=Sum.inr x/\v=Uk x t)
 | .inl i,v,h=>by obtain⟨t,e⟩:=Value.isInt_shape h;exact .inl ⟨i,t,rfl,e⟩
 | .inr x,v,h=>by obtain⟨t,e⟩:=Value.isStrOf_shape h;exact .inr ⟨x,t,rfl,e⟩
def AI(i:Int)(t:Tok):qV (.inl i) (.int i t)=true:=by simp[qV,VE]
def AH(x:Str)(t:Tok):qV (.inr x) (.str x t)=true:=by simp[qV,VP]
def LJ(a b:Int):decide ((Sum.inl a:Key)=Sum.inl b)=(a == b):=by
 by_cases e:a=b
 .subst e;simp
 .have h:¬(Sum.inl a:Key)=Sum.inl b:=λq=>e (Sum.inl.inj q);rw[R7 h];exact(beq_eq_false_iff_ne.mpr e).symm
def LF(a b:Str):decide ((Sum.inr a:Key)=Sum.inr b)=decide (a=b):=by
 by_cases e:a=b
 .subst e;simp
 .have h:¬(Sum.inr a:Key)=Sum.inr b:=λq=>e (Sum.inr.inj q);rw[R7 h,R7 e]
def LH(a:Int)(b:Str):decide ((Sum.inl a:Key)=Sum.inr b)=false:=R7 (λq=>nomatch q)
def LG(a:Str)(b:Int):decide ((Sum.inr a:Key)=Sum.inl b)=false:=R7 (λq=>nomatch q)
def cU(prog:Ss)(w:World):PySem.KeyKind prog w Key where
 is:=qV
 hash:=Ry w
 inj:=λv a b ha hb=>by
  rcases dy ha with⟨i,t,rfl,rfl⟩|⟨x,t,rfl,rfl⟩
  .rcases dy hb with⟨j,u,rfl,e⟩|⟨y,u,rfl,e⟩
   .injection e with e1 _;rw[e1]
   .exact nomatch e
  .rcases dy hb with⟨j,u,rfl,e⟩|⟨y,u,rfl,e⟩
   .exact nomatch e
   .injection e with e1 _;rw[e1]
 byValue:=λk v h=>by
   rcases dy h with⟨i,t,rfl,rfl⟩|⟨x,t,rfl,rfl⟩<;>rfl
 pyHash:=λhv h=>by
  rcases dy hv with⟨i,t,rfl,rfl⟩|⟨x,t,rfl,rfl⟩
  .exact wpAny_pyHash_int h
  .exact wpAny_pyHash_str h
 eqBool:=λhu hv h=>by
  rcases dy hu with⟨i,t,rfl,rfl⟩|⟨x,t,rfl,rfl⟩
  .rcases dy hv with⟨j,u,rfl,rfl⟩|⟨y,u,rfl,rfl⟩
   .rw[LJ]at h;exact wpAny_eqBool_int h
   .rw[LH]at h;exact SeqAt.EqAt.int_str i t y u _ _ _ _ h
  .rcases dy hv with⟨j,u,rfl,rfl⟩|⟨y,u,rfl,rfl⟩
   .rw[LG]at h;exact SeqAt.EqAt.str_int x t j u _ _ _ _ h
   .rw[LF]at h;exact wpAny_eqBool_str h
 «strs» :=λk x t v h=>by
  rcases dy h with⟨i,u,rfl,e⟩|⟨y,u,rfl,e⟩
  .exact nomatch e
  .injection e with e1 _;subst e1;cases v<;>rfl
def vA(prog:Ss)(w:World)(i:Int)(t:Tok):(cU prog w).is (.inl i) (.int i t)=true:=AI i t
def kj(prog:Ss)(w:World)(x:Str)(t:Tok):(cU prog w).is (.inr x) (.str x t)=true:=AH x t
inductive V where
 |non|bl (b:Bool)|int (i:Int)|str (x:Str)|byt (b:Array UInt8)|flt (b:UInt64)|ref (a:Z1)|ty (n:String)|tok (x:Str) (t:Nat)
 deriving DecidableEq
def bz:V->Z0->Prop
 | .non,u=>u=SC
 | .bl b,u=>u=VV b
 | .int i,u=>∃t,u=UO i t
 | .str x,u=>∃t,u=Uk x t
 | .byt b,u=>∃t,u=Value.bytes b t
 | .flt b,u=>∃t,u=Value.float b t
 | .ref a,u=>u=Sx a
 | .ty n,u=>u=UV n
 | .tok x t,u=>u=Uk x t
abbrev bZ:List V->List Z0->Prop:=Vl bz
theorem bZ.length(r:bZ xs us):xs.length=us.length:=VQ r
theorem bZ.get:∀{xs:List V}{us:List Z0}{i:Nat}{x:V},bZ xs us->xs[i]? =some x->∃u,us[i]? =some u/\bz x u
 |_,_,_,_,.nil,e=>by simp at e
 |_,_,0,_,.cons r _,e=>by simp at e;subst e;exact⟨_,rfl,r⟩
 |_,_,i+1,x,.cons _ t,e=>by obtain⟨u,h1,h2⟩:=bZ.get t (by simpa using e);exact⟨u,by simpa using h1,h2⟩
theorem bZ.set(r:bz x u):∀{xs:List V}{us:List Z0}(i:Nat),bZ xs us->bZ (xs.set i x) (us.set i u)
 |_,_,_,.nil=>.nil
 |_,_,0,.cons _ t=>.cons r t
 |_,_,i+1,.cons q t=>.cons q (bZ.set r i t)
theorem bZ.append:∀{xs ys:List V}{us ws:List Z0},bZ xs us->bZ ys ws->bZ (xs++ys) (us++ws)
 |_,_,_,_,.nil,s=>s
 |_,_,_,_,.cons r t,s=>.cons r (bZ.append t s)
theorem bZ.take:∀{xs:List V}{us:List Z0}(n:Nat),bZ xs us->bZ (xs.take n) (us.take n)
 |_,_,0,_=>.nil
 |_,_,_+1,.nil=>.nil
 |_,_,n+1,.cons r t=>.cons r (bZ.take n t)
theorem bZ.drop:∀{xs:List V}{us:List Z0}(n:Nat),bZ xs us->bZ (xs.drop n) (us.drop n)
 |_,_,0,r=>r
 |_,_,_+1,.nil=>.nil
 |_,_,n+1,.cons _ t=>bZ.drop n t
def j4:Option V->Option Z0->Prop
 |some v,some u=>bz v u
 |none,none=>True
 |_,_=>False
def KV{κ:Type}:List (κ×V)->List (κ×Z0)->Prop:=Vl λ(p:κ×V)(q:κ×Z0)=>p.1=q.1/\bz p.2 q.2
def kV:Key->V
 | .inl i=>.int i
 | .inr x=>.str x
inductive HO where
 |lst (xs:List V)
 |tup (xs:List V)
 |dK (kvs:List (Key×V))|dT (kvs:List (List Key×V))
 |set (S:Int->Bool) (n:Nat)
 |ins (C dx:Z1) (fs:List (Str×V))
 |own (x:Z1)
 |xd (fs:List (Str×V))
 |met (f x:Z1)
 |rng (lo hi:Int)
 |frz (o:Obj) (u:HO)
 |tbl (ps:Array Z0)
 |ext (φ:SD->Prop)
abbrev Hp:=Z1->Option HO
def upd(H:Hp)(a:Z1)(o:HO):Hp:=λb=>if b=a then some o else H b
def aj:upd H a o a=some o:=by unfold upd;rw[R9 rfl]
def av(h:b≠a):upd H a o b=H b:=by unfold upd;rw[R8 h]
def Pp{H:Hp}{a b:Z1}{o u:HO}(h:H a=some o)(h':H b=some u)(d:o≠u):a≠b:=by intro e;subst e;rw[h]at h';exact d (Sd h')
def ay{H:Hp}{a b:Z1}{o:HO}(h:H a=some o)(h':H b=none):a≠b:=by intro e;subst e;rw[h]at h';cases h'
section
variable(P:Ss)(w:World)
def cb(H:Hp)(h:SD)(a:Z1):HO->Prop
 | .lst xs=>xs.length<=h9/\∃its n,bZ xs its/\h.get? a=some {cls:=.type "list",data:=.seq its.toArray n}
 | .tup xs=>xs.length<=h9/\∃its:List Z0,bZ xs its/\IsTup h a its.toArray
 | .dK kvs=>kvs.length<=h9/\(a == Ts)=false/\∃vs,KV kvs vs/\h.DictOf (cU P w) a vs
 | .dT kvs=>kvs.length<=h9/\(a == Ts)=false/\∃xs:List (List Key×Z1×Z0),
   Vl (λ(p:List Key×V)(q:List Key×Z1×Z0)=>p.1=q.1/\H q.2.1=some (.tup (p.1.map kV))/\bz p.2 q.2.2) kvs xs/\
   ∃o es ep,h.get? a=some o/\o.ExactDict/\o.data=.dict es ep/\es.toList=xs.map (entryOfKey (VG (cU P w)))/\(xs.map (·.1)).Nodup
 | .set S n=>h.SetOf (UJ P w) a S n
 | .ins C dx fs=>H dx=some (.own a)/\fs.length<=1000/\dx≠a/\h.get? a=some (Zq C dx)/\
   ∃mA,h.Ns1 dx mA/\(∀f,j4 (fs.lookup f) (mA f))/\PySem.Within mA (fs.map (·.1))
 | .own _=>∃o,h.get? a=some o
 | .xd fs=>∃mA,h.Ns1 a mA/\∀f,j4 (fs.lookup f) (mA f)
 | .rng lo hi=>∃t u v,h.get? a=some {cls:=.type "range",data:=.fields #[.int lo t,.int hi u,.int 1 v]}
 | .frz o u=>h.get? a=some o/\cb H h a u
 | .tbl ps=>h.get? a=some {cls:=.none,data:=.fields ps}
 | .met f x=>h.get? a=some (PySem.W.methodObj (.ref f) (.ref x))
 | .ext φ=>φ h/\(∃o,h.get? a=some o)/\∀h1 h2:SD,φ h1->(∀o,h1.get? a=some o->h2.get? a=some o)->φ h2
def kT(H:Hp)(h:SD):Prop:= ∀a o,H a=some o->cb P w H h a o
end
section
variable{P:Ss}{w:World}{H H':Hp}{h h':SD}{a:Z1}{o:HO}
theorem cb.lt(x:cb P w H h a o):a<h.objs.size:=by
 cases o with
 |lst xs=>obtain⟨_,_,_,_,e⟩:=x;exact Sl e
 |tup xs=>obtain⟨_,_,_,p⟩:=x;exact p.lt
 |dK kvs=>obtain⟨_,_,_,_,o,_,_,e,_⟩:=x;exact Sl e
 |dT kvs=>obtain⟨_,_,_,_,o,_,_,e,_⟩:=x;exact Sl e
 |set S n=>obtain⟨o,_,_,_,e,_⟩:=x;exact Sl e
 |ins C dx fs=>obtain⟨_,_,_,e,_⟩:=x;exact Sl e
 |own y=>obtain⟨_,e⟩:=x;exact Sl e
 |xd fs=>obtain⟨_,⟨_,_,_,e,_⟩,_⟩:=x;exact Sl e
 |rng lo hi=>obtain⟨_,_,_,e⟩:=x;exact Sl e
 |frz ob u=>obtain⟨e,_⟩:=x;exact Sl e
 |tbl ps=>exact Sl (show h.get? a=some _ from x)
 |met f y=>exact Sl (show h.get? a=some _ from x)
 |ext φ=>obtain⟨_,⟨_,e⟩,_⟩:=x;exact Sl e
theorem Paired.mapP:∀{l₁:List α}{l₂:List β},Vl F l₁ l₂->(∀a b,F a b->G a b)->Vl G l₁ l₂
 |_,_,.nil,_=>.nil
 |_,_,.cons r t,f=>.cons (f _ _ r) (Paired.mapP t f)
def cb.stay(x:cb P w H h a o)(k:∀b u,(b=a\/H b=some (.own a))->h.get? b=some u->h'.get? b=some u)(ho:∀b,H b=some (.own a)->H' b=some (.own a))(ht:∀b xs,H b=some (.tup xs)->H' b=some (.tup xs)):cb P w H' h' a o:=by
 induction o with
 |lst xs=>obtain⟨z,its,n,r,e⟩:=x;exact⟨z,its,n,r,k _ _ (.inl rfl) e⟩
 |tup xs=>obtain⟨z,its,r,ob,e,c⟩:=x;exact⟨z,its,r,ob,k _ _ (.inl rfl) e,c⟩
 |dK kvs=>obtain⟨z,y,vs,r,ob,es,ep,e,c⟩:=x;exact⟨z,y,vs,r,ob,es,ep,k _ _ (.inl rfl) e,c⟩
 |dT kvs=>
  obtain⟨z,y,xs,r,ob,es,ep,e,c⟩:=x;exact⟨z,y,xs,Paired.mapP r λp q z=>⟨z.1,ht _ _ z.2.1,z.2.2⟩,ob,es,ep,k _ _ (.inl rfl) e,c⟩
 |set S n=>obtain⟨ob,es,ep,t,e,c⟩:=x;exact⟨ob,es,ep,t,k _ _ (.inl rfl) e,c⟩
 |ins C dx fs=>
  obtain⟨d,z,ne,e,mA,⟨od,es,ep,e2,c⟩,r⟩:=x;exact⟨ho _ d,z,ne,k _ _ (.inl rfl) e,mA,⟨od,es,ep,k _ _ (.inr d) e2,c⟩,r⟩
 |own y=>obtain⟨ob,e⟩:=x;exact⟨ob,k _ _ (.inl rfl) e⟩
 |xd fs=>obtain⟨mA,⟨od,es,ep,e,c⟩,r⟩:=x;exact⟨mA,⟨od,es,ep,k _ _ (.inl rfl) e,c⟩,r⟩
 |rng lo hi=>obtain⟨t,u,v,e⟩:=x;exact⟨t,u,v,k _ _ (.inl rfl) e⟩
 |frz ob u ih=>obtain⟨e,q⟩:=x;exact⟨k _ _ (.inl rfl) e,ih q⟩
 |tbl ps=>
  have e:=x;exact k a _ (.inl rfl) e
 |met f y=>
  have e:=x;exact k a _ (.inl rfl) e
 |ext φ=>obtain⟨p,⟨o,e⟩,st⟩:=x;exact⟨st _ _ p λo q=>k _ _ (.inl rfl) q,⟨o,k _ _ (.inl rfl) e⟩,st⟩
theorem kT.lt(x:kT P w H h)(e:H a=some o):a<h.objs.size:=(x a o e).lt
def kT.fresh(x:kT P w H h)(e:h.objs.size<=a):H a=none:=by
 cases q:H a with
 |none=>rfl
 |some u=>exact Sc (Yi (x.lt q) e) (Yk _)
def kT.kept(x:kT P w H h)(k:∀b u,h.get? b=some u->h'.get? b=some u):kT P w H h':=λa o e=>
 (x a o e).stay (λb u _ q=>k b u q) (λ_ q=>q) λ_ _ q=>q
def kT.laid(x:kT P w H h)(k:∀b u,h.get? b=some u->h'.get? b=some u)(hp:h.objs.size<=a)(new:cb P w (upd H a o) h' a o):kT P w (upd H a o) h':=λb u e=>by
 have hn:=x.fresh hp
 by_cases hb:b=a
 .subst hb;rw[aj]at e;cases e;exact new
 .rw[av hb]at e;exact(x b u e).stay (λc v _ q=>k c v q) (λc q=>by rw[av (ay q hn)];exact q) λc xs q=>by rw[av (ay q hn)];exact q
end
def Rd(H:Hp)(a:Z1)(u:HO):Prop:=H a=some u\/∃o,H a=some (.frz o u)
def Rd.ok(r:Rd H a u)(x:kT P w H h):cb P w H h a u:=by
 rcases r with r|⟨o,r⟩
 .exact x a u r
 .obtain⟨_,q⟩:=x a _ r;exact q
def Qn:Option HO->Prop
 |some (.lst _)=>True
 |some (.dK _)=>True
 |some (.dT _)=>True
 |some (.set _ _)=>True
 |some (.ins _ _ _)=>True
 |some (.ext _)=>True
 |_=>False
section
def kT.write(ok:kT P w H h)(mu:Qn (H x))(he:e=x\/H e=some (.own x))(k:∀b u,b≠e->h.get? b=some u->h'.get? b=some u)(heo:∃u,h'.get? e=some u)(new:cb P w (upd H x o') h' x o'):kT P w (upd H x o') h':=λb u q=>by
 have nown:∀c y,H c=some (.own y)->c≠x:=λc y r z=>by subst z;rw[r]at mu;exact mu
 have ntup:∀c xs,H c=some (.tup xs)->c≠x:=λc xs r z=>by subst z;rw[r]at mu;exact mu
 by_cases hb:b=x
 .subst hb;rw[aj]at q;cases q;exact new
 .rw[av hb]at q
  by_cases hbe:b=e
  .have q':H b=some (.own x):=by
    rcases he with z|z
    .exact Sc (hbe.trans z) hb
    .rw[hbe];exact z
   rw[q]at q';cases q';obtain⟨v,hv⟩:=heo;exact⟨v,by rw[hbe];exact hv⟩
  .refine(ok b u q).stay (λc v hc r=>k c v ?_ r) (λc r=>by rw[av (nown c b r)];exact r) λc xs r=>by rw[av (ntup c xs r)];exact r
   rcases hc with rfl|hc
   .exact hbe
   .rintro rfl
    rcases he with z|z
    .exact nown c b hc z
    .rw[hc]at z;cases z;exact hb rfl
end
structure Un(fs ex:List Z1)(H H':Hp)(h h':SD):Prop where
 keep:∀b o,h.get? b=some o->H b=none->b∉fs->b∉ex->h'.get? b=some o
 slot:∀b o,h.get? b=some o->H b=none->b∈fs->b∉ex->∃sl,h'.get? b=some {o with slots:=sl}
 free:∀b o,h.get? b=some o->H b=none->b∉ex->H' b=none
 there:∀b o,h.get? b=some o->b∉ex->∃o',h'.get? b=some o'
 tups:∀b xs,H b=some (.tup xs)->H' b=some (.tup xs)
 frzs:∀b o u,H b=some (.frz o u)->H' b=some (.frz o u)
 tbls:∀b ps,H b=some (.tbl ps)->∃more,H' b=some (.tbl (ps++more))
section
def Un.any(u:Un fs ex H H1 h h1)(q:h.get? b=some ob)(n:H b=none)(hx:b∉ex):∃sl,h1.get? b=some {ob with slots:=sl}:=by
 by_cases hb:b∈fs
 .exact u.slot b ob q n hb hx
 .exact⟨ob.slots,u.keep b ob q n hb hx⟩
def Un.kept(k:∀b u,h.get? b=some u->h'.get? b=some u):Un fs ex H H h h':=
 ⟨λb ob q _ _ _=>k b ob q,λb ob q _ _ _=>⟨ob.slots,k b ob q⟩,λ_ _ _ n _=>n,λb ob q _=>⟨ob,k b ob q⟩,λ_ _ q=>q,λ_ _ _ q=>q,λ_ ps q=>⟨#[],by rw[q];simp⟩⟩
def Un.refl:Un fs ex H H h h:=Un.kept λ_ _ q=>q
def Un.laid(k:∀b u,h.get? b=some u->h'.get? b=some u)(hp:h.objs.size<=a)(hn:H a=none):Un fs ex H (upd H a o) h h' where
 keep:=λb u q _ _ _=>k b u q
 slot:=λb u q _ _ _=>⟨u.slots,k b u q⟩
 free:=λb u q n _=>by rw[av (Yg (Yi (Sl q) hp))];exact n
 there:=λb u q _=>⟨u,k b u q⟩
 tups:=λb xs q=>by rw[av (ay q hn)];exact q
 frzs:=λb u xs q=>by rw[av (ay q hn)];exact q
 tbls:=λb ps q=>⟨#[],by rw[av (ay q hn),q];simp⟩
def Un.write(mu:Qn (H x))(he:e=x\/H e=some (.own x))(k:∀b u,b≠e->h.get? b=some u->h'.get? b=some u)(heo:∃u,h'.get? e=some u):Un fs ex H (upd H x o) h h':=by
 have hx:∀b,H b=none->b≠x:=λb n z=>by subst z;rw[n]at mu;exact mu
 have hb:∀b,H b=none->b≠e:=λb n z=>by
  subst z
  rcases he with r|r
  .exact hx b n r
  .rw[n]at r;cases r
 have hm:∀b u,H b=some u->¬Qn (some u)->b≠x:=λb u q nm z=>by subst z;rw[q]at mu;exact nm mu
 refine⟨λb u q n _ _=>k b u (hb b n) q,λb u q n _ _=>⟨u.slots,k b u (hb b n) q⟩,λb u q n _=>by rw[av (hx b n)];exact n,λb u q _=>?_,
  λb xs q=>by rw[av (hm b _ q λz=>z)];exact q,λb u xs q=>by rw[av (hm b _ q λz=>z)];exact q,λb ps q=>⟨#[],by rw[av (hm b _ q λz=>z),q];simp⟩⟩
 by_cases hbe:b=e
 .subst hbe;exact heo
 .exact⟨u,k b u hbe q⟩
end
def Qv(h:SD)(H:Hp):List Z1:=(List.range h.objs.size).filter λa=>(H a).isSome
def tU(h:SD)(H:Hp):SD:=Zu h (Qv h H)
def AO(h:SD)(H:Hp):(tU h H).objs.size=h.objs.size:=PySem.W.hideAll_size _ _
def Db(e:h.get? b=some o)(n:H b=none):(tU h H).get? b=some o:=
 Zl _ e λhm=>by have q:=(Xl.mp hm).2;rw[n]at q;simp at q
def E4(e:(tU h H).get? b=some o):h.get? b=some o/\H b=none:=by
 have e':h.get? b=some o:=ZF (Qv h H) e;refine⟨e',?_⟩;cases q:H b with
 |none=>rfl
 |some x=>
  have hm:b∈Qv h H:=Xl.mpr ⟨WG.mpr (Sl e'),by simp[q]⟩;have z:(tU h H).get? b=none:=ZJ (Qv h H) hm;rw[z]at e;cases e
def FM(g h:SD)(L:Z1):List (Z1×Obj):=(List.range h.objs.size).filterMap λa=>if a=L\/(g.get? a).isSome=true then none else(h.get? a).map λo=>(a,o)
def rest(g h:SD)(L d:Z1):List (Z1×Obj):=(FM g h L).filter λp=>decide (p.1≠d)
structure Mod(K:Frag)(mg:Sf)(R4:SD):Prop where
 kin:K.In R4
 glob:R4.Ns Sr mg
 blt:∃mb,R4.Ns builtinsNs mb/\∀x:Str,x≠"__name__"->mb x=Sy x
 nolimit:R4.NoLimit
structure Cx where
 prog:Ss
 w:World
 K:Frag
 mg:Str->Option Z0
 R4:SD
 A:S5
 N:List Str
 s₀:So
 H₀:Hp
 env:Wd
 R5:List Wd
 stack:List Wd
 ex:List Z1
 fn:Str->Bool
 calm:Bool
 pn:List (Z1×Obj)
 xe:Z0->So->Prop
def iI(l:List Wd):List Z1:=l.filterMap (·.frame)
abbrev Cx.fs(X:Cx):List Z1:=iI X.R5
def Kk(sc:T8)(x:Str):Prop:=sc.names.lookup x=some .local\/sc.names.lookup x=some .cell\/sc.names.lookup x=some .free
def Kl(sc:T8)(x:Str):Prop:=sc.names.lookup x=some .local\/sc.names.lookup x=some .cell
def RP(env:Wd)(h:SD)(m:Sf)(x:Str)(u:Z0):Prop:=
 (env.kindOf x=some .local/\m x=some u)\/((env.kindOf x=some .cell\/env.kindOf x=some .free)/\∃c,env.cells.lookup x=some c/\h.IsCell c (some u))
structure Cx.Ok(X:Cx):Prop where
 mod:Mod X.K X.mg X.R4
 kind:X.env.scope.kind=.function
 glob:X.env.globals=Sr
 blt:X.env.builtins=builtinsNs
 above:X.s₀.heap.objs.size<=X.env.locals
 inj:∀x y c,X.env.cells.lookup x=some c->X.env.cells.lookup y=some c->x=y
 has:∀x,(X.env.kindOf x=some .cell\/X.env.kindOf x=some .free)->∃c,X.env.cells.lookup x=some c
 cab:∀x c,X.fn x=true->X.env.cells.lookup x=some c->X.s₀.heap.objs.size<=c
 hd:X.calm=true->X.A.handled=none
 frames:X.A.frames=some X.stack
 stk:X.stack=X.R5\/(X.stack=X.env::X.R5/\X.env.frame=some X.env.locals)
 exf:∀b∈X.ex,b≠X.env.locals/\∀x c,X.env.cells.lookup x=some c->c≠b
 bs:∀b o,X.R4.get? b=some o->X.s₀.heap.get? b=some o/\X.H₀ b=none
 bsz:X.R4.objs.size<=X.s₀.heap.objs.size
 noex:∀b o,X.R4.get? b=some o->b∉X.ex
 exfs:∀b∈X.ex,b∉X.fs
 funs:X.s₀.heap.FunFrames X.R4 X.R5
 frf:∀b∈X.fs,X.H₀ b=none
structure aT(X:Cx)(R1:Sh)(σ:List (Option V))(H:Hp)(s:So):Prop where
 ok:X.Ok
 os:s.os=X.s₀.os
 bare:Ux s.gens
 R4:Un X.fs X.ex X.H₀ H X.s₀.heap s.heap
 loc:∃m,s.heap.Ns X.env.locals m/\∀(i:Nat)(x:Str)(v:V),X.N[i]? =some x->σ[i]? =some (some v)->Kk X.env.scope x->∃u,bz v u/\RP X.env s.heap m x u
 cell:∀x c,X.env.cells.lookup x=some c->∃v,s.heap.IsCell c v
 free:H X.env.locals=none
 freeC:∀x c,X.env.cells.lookup x=some c->H c=none
 pin:∀p∈X.pn++R1,s.heap.get? p.1=some p.2/\H p.1=none/\p.1≠X.env.locals/\p.1∉X.fs/\∀v,p.2.data≠.cell v
 hok:kT X.prog X.w H s.heap
 len:σ.length=X.N.length
section
variable{X:Cx}
def Cx.Ok.nofr(ok:X.Ok)(e:X.R4.get? b=some o):b∉X.fs:=λhb=>by have:=(ok.funs.mem hb).1;rw[e]at this;cases this
theorem aT.bs(I:aT X R1 σ H s):∀b o,X.R4.get? b=some o->s.heap.get? b=some o/\H b=none:=λb o e=>
 ⟨I.R4.keep b o (I.ok.bs b o e).1 (I.ok.bs b o e).2 (I.ok.nofr e) (I.ok.noex b o e),I.R4.free b o (I.ok.bs b o e).1 (I.ok.bs b o e).2 (I.ok.noex b o e)⟩
def aT.bk(I:aT X R1 σ H s):∀b o,X.R4.get? b=some o->s.heap.get? b=some o:=λb o e=>(I.bs b o e).1
theorem aT.mod(I:aT X R1 σ H s):Mod X.K X.mg X.R4:=I.ok.mod
def aT.kIn(I:aT X R1 σ H s):X.K.In s.heap:=I.ok.mod.kin.keeps I.bk
theorem aT.lt(I:aT X R1 σ H s):X.env.locals<s.heap.objs.size:=let ⟨_,hn,_⟩:=I.loc;hn.lt
def aT.sz(I:aT X R1 σ H s):X.s₀.heap.objs.size<=s.heap.objs.size:=Ye I.ok.above (Yq I.lt)
def aT.nofs(I:aT X R1 σ H s){a:Z1}(h:s.heap.objs.size<=a):a∉X.fs:=λhb=>by obtain⟨_,o,ho,_⟩:=I.ok.funs.mem hb;exact Sc (Yi (Sl ho) (Ye I.sz h)) (Yk _)
def aT.cne(I:aT X R1 σ H s):∀x c,X.env.cells.lookup x=some c->c≠X.env.locals:=λx c e z=>by obtain⟨v,o,ho,hd⟩:=I.cell x c e;obtain⟨m,⟨o',es,ep,ho',hd',_⟩,_⟩:=I.loc;rw[z,ho']at ho;cases ho;rw[hd']at hd;cases hd
theorem aT.funs(I:aT X R1 σ H s):s.heap.FunFrames X.R4 X.R5:=by
 have all:∀(l:List Wd),(∀b∈iI l,b∈X.fs)->X.s₀.heap.FunFrames X.R4 l->s.heap.FunFrames X.R4 l:=by
  intro l
  induction l with
  |nil=>intro _ _;trivial
  |cons env r ih=>
   intro hs hl;obtain⟨hk,⟨L,o,hf,hn,ho,hd⟩,hr⟩:=hl;have hL:=hs L (by unfold iI;rw[Xa,hf];exact Wv);obtain⟨sl,e⟩:=I.R4.slot L o ho (I.ok.frf L hL) hL λz=>I.ok.exfs L z hL;exact⟨hk,⟨L,_,hf,hn,e,hd⟩,ih (λb hb=>hs b (by unfold iI;rw[Xa,hf];exact Wy _ hb)) hr⟩
 exact all X.R5 (λ_ hb=>hb) I.ok.funs
theorem aT.stack(I:aT X R1 σ H s):s.heap.FunFrames X.R4 X.stack:=by
 rcases I.ok.stk with e|⟨e,hf⟩
 .rw[e];exact I.funs
 .rw[e];obtain⟨m,hn,_⟩:=I.loc;refine .cons (by rw[I.ok.kind];decide) hf hn ?_ I.funs;exact T6 (Ye I.ok.bsz I.ok.above)
def aT.stkSub(I:aT X R1 σ H s):∀b∈iI X.stack,b∈X.env.locals::X.fs:=λb hb=>by
 rcases I.ok.stk with e|⟨e,hf⟩
 .rw[e]at hb;exact Wy _ hb
 .rw[e]at hb;unfold iI at hb;rw[Xa,hf]at hb;exact hb
def aT.stkFree(I:aT X R1 σ H s):∀b∈iI X.stack,H b=none:=λb hb=>by
 rcases Wn.mp (I.stkSub b hb)with e|hb
 .rw[e];exact I.free
 .obtain⟨_,o,ho,_⟩:=I.ok.funs.mem hb;exact I.R4.free b o ho (I.ok.frf b hb) λz=>I.ok.exfs b z hb
def aT.step{g':Array UX}{t':Nat}{ch:List Z1}(I:aT X R1 σ H s)(hch:∀b∈ch,(b∈X.ex\/X.s₀.heap.objs.size<=b)/\b≠X.env.locals/\(∀x c,X.env.cells.lookup x=some c->c≠b)/\∀p∈X.pn++R1,p.1≠b)(keep:∀b o,b≠X.env.locals->b∉X.fs->b∉ch->s.heap.get? b=some o->H b=none->h'.get? b=some o)(slot:∀b o,b≠X.env.locals->b∈X.fs->b∉ch->s.heap.get? b=some o->H b=none->∃sl,h'.get? b=some {o with slots:=sl})(free:∀b o,b∉ch->s.heap.get? b=some o->H b=none->H' b=none)(there:∀b o,b∉ch->s.heap.get? b=some o->∃o',h'.get? b=some o')(tups:∀b xs,H b=some (.tup xs)->H' b=some (.tup xs))(frzs:∀b o u,H b=some (.frz o u)->H' b=some (.frz o u))(tbls:∀b ps,H b=some (.tbl ps)->∃more,H' b=some (.tbl (ps++more)))(ns:∀m,s.heap.Ns X.env.locals m->h'.Ns X.env.locals m)(hok:kT X.prog X.w H' h')(hg:Ux g'):aT X R1 σ H' {s with heap:=h',gens:=g',drawn:=d',toks:=t'}:=by
 have neL:∀b o,X.s₀.heap.get? b=some o->b≠X.env.locals:=λb o e=>Yg (Yi (Sl e) I.ok.above);have neC:∀b o,X.s₀.heap.get? b=some o->b∉X.ex->b∉ch:=λb o e hx hb=>by
  rcases(hch b hb).1 with z|z
  .exact hx z
  .exact Sc (Yi (Sl e) z) (Yk _)
 have cellK:∀x c,X.env.cells.lookup x=some c->∀v,s.heap.IsCell c v->h'.IsCell c v:=λx c e v ⟨o,ho,hd⟩=>by
  have nch:c∉ch:=λz=>(hch c z).2.2.1 x c e rfl
  by_cases hc:c∈X.fs
  .obtain⟨sl,q⟩:=slot c o (I.cne x c e) hc nch ho (I.freeC x c e);exact⟨_,q,hd⟩
  .exact⟨o,keep c o (I.cne x c e) hc nch ho (I.freeC x c e),hd⟩
 refine⟨I.ok,I.os,hg,⟨λb o e n hb hx=>?_,λb o e n hb hx=>?_,λb o e n hx=>?_,λb o e hx=>?_,λb xs e=>tups b xs (I.R4.tups b xs e),λb o xs e=>frzs b o xs (I.R4.frzs b o xs e),λb ps e=>?_⟩,?_,λx c e=>?_,?_,λx c e=>?_,λp hp=>?_,hok,I.len⟩
 .exact keep b o (neL b o e) hb (neC b o e hx) (I.R4.keep b o e n hb hx) (I.R4.free b o e n hx)
 .obtain⟨sl,e1⟩:=I.R4.slot b o e n hb hx;obtain⟨sl',e2⟩:=slot b _ (neL b o e) hb (neC b o e hx) e1 (I.R4.free b o e n hx);exact⟨sl',e2⟩
 .obtain⟨o',e1⟩:=I.R4.there b o e hx;exact free b o' (neC b o e hx) e1 (I.R4.free b o e n hx)
 .obtain⟨o',e1⟩:=I.R4.there b o e hx;exact there b o' (neC b o e hx) e1
 .obtain⟨m1,e1⟩:=I.R4.tbls b ps e;obtain⟨m2,e2⟩:=tbls b _ e1;exact⟨m1++m2,by rw[e2,Array.append_assoc]⟩
 .obtain⟨m,hn,hl⟩:=I.loc;refine⟨m,ns m hn,λi x v e1 e2 e3=>?_⟩;obtain⟨u,r,l⟩:=hl i x v e1 e2 e3;refine⟨u,r,?_⟩
  rcases l with l|⟨k,c,e,z⟩
  .exact .inl l
  .exact .inr ⟨k,c,e,cellK x c e _ z⟩
 .obtain⟨v,z⟩:=I.cell x c e;exact⟨v,cellK x c e v z⟩
 .obtain⟨m,⟨o,_,_,ho,_⟩,_⟩:=I.loc;exact free _ o (λz=>(hch _ z).2.1 rfl) ho I.free
 .obtain⟨v,o,ho,hd⟩:=I.cell x c e;exact free c o (λz=>(hch c z).2.2.1 x c e rfl) ho (I.freeC x c e)
 .obtain⟨e,n,ne,nf,d⟩:=I.pin p hp;have nch:p.1∉ch:=λz=>(hch p.1 z).2.2.2 p hp rfl;exact⟨keep p.1 p.2 ne nf nch e n,free p.1 p.2 nch e n,ne,nf,d⟩
def aT.un(I:aT X R1 σ H s)(u:Un X.fs [] H H' s.heap h')(hok:kT X.prog X.w H' h'):aT X R1 σ H' {s with heap:=h',toks:=t'}:=by
 obtain⟨m,⟨o,es,ep,ho,r⟩,_⟩:=id I.loc;obtain⟨sl,hL⟩:=u.any ho I.free (by simp);exact I.step (g':=s.gens) (d':=s.drawn) (ch:=[]) (λ_ z=>nomatch z) (λb o _ hb _ e n=>u.keep b o e n hb (by simp)) (λb o _ hb _ e n=>u.slot b o e n hb (by simp)) (λb o _ e n=>u.free b o e n (by simp)) (λb o _ e=>u.there b o e (by simp)) u.tups u.frzs u.tbls (λm' hm=>by
  obtain⟨o',es',ep',ho',r'⟩:=hm;rw[ho]at ho';cases ho';exact⟨_,es',ep',hL,r'⟩) hok I.bare
def aT.call(I:aT X R1 σ H s)(u:Un (iI X.stack) ch H H' s.heap h')(hok:kT X.prog X.w H' h')(hg:Ux g')(hch:∀b∈ch,(b∈X.ex\/X.s₀.heap.objs.size<=b)/\b≠X.env.locals/\(∀x c,X.env.cells.lookup x=some c->c≠b)/\∀p∈X.pn++R1,p.1≠b):aT X R1 σ H' {s with heap:=h',gens:=g',drawn:=d',toks:=t'}:=by
 obtain⟨m,⟨o,es,ep,ho,r⟩,_⟩:=id I.loc;obtain⟨sl,hL⟩:=u.any ho I.free λz=>(hch _ z).2.1 rfl;exact I.step hch (λb o hL hb hc e n=>u.keep b o e n (λz=>(Wn.mp (I.stkSub b z)).elim hL hb) hc) (λb o _ _ hc e n=>u.any e n hc) (λb o hc e n=>u.free b o e n hc) (λb o hc e=>u.there b o e hc) u.tups u.frzs u.tbls (λm' hm=>by
  obtain⟨o',es',ep',ho',r'⟩:=hm;rw[ho]at ho';cases ho';exact⟨_,es',ep',hL,r'⟩) hok hg
def aT.turned(I:aT X R1 σ H s)(k:∀b o,b≠it->s.heap.get? b=some o->h'.get? b=some o)(hn:H it=none)(hL:it≠X.env.locals)(h1:it∈X.ex\/X.s₀.heap.objs.size<=it)(h2:∀x c,X.env.cells.lookup x=some c->c≠it)(h3:∀p∈X.pn++R1,p.1≠it):aT X R1 σ H {s with heap:=h',toks:=t'}:=by
 have nit:∀b u,H b=some u->b≠it:=λb u e z=>by rw[z,hn]at e;cases e
 refine I.step (g':=s.gens) (d':=s.drawn) (ch:=[it]) (λb hb=>?_) (λb o _ _ hc e _=>k b o (λz=>hc (by simp[z])) e) (λb o _ _ hc e _=>⟨o.slots,k b o (λz=>hc (by simp[z])) e⟩) (λ_ _ _ _ n=>n)
  (λb o hc e=>⟨o,k b o (λz=>hc (by simp[z])) e⟩) (λ_ _ e=>e) (λ_ _ _ e=>e) (λb ps e=>⟨#[],by rw[e];simp⟩) (λm hm=>?_) (λb u e=>?_) I.bare
 .have e:b=it:=by simpa using hb
  subst e;exact⟨h1,hL,h2,h3⟩
 .obtain⟨o,es,ep,ho,r⟩:=hm;exact⟨o,es,ep,k _ o (Ne.symm hL) ho,r⟩
 .refine(I.hok b u e).stay (λc v hc q=>k c v ?_ q) (λ_ q=>q) λ_ _ q=>q
  rcases hc with z|z
  .rw[z];exact nit b u e
  .exact nit c _ z
def aT.tok(I:aT X R1 σ H s)(t:Nat):aT X R1 σ H {s with toks:=t}:=I.un Un.refl I.hok
theorem aT.kept(I:aT X R1 σ H s)(k:∀b u,s.heap.get? b=some u->h'.get? b=some u):aT X R1 σ H {s with heap:=h',toks:=t'}:=I.un (Un.kept k) (I.hok.kept k)
theorem aT.laid{a:Z1}{o:HO}{t':Nat}(I:aT X R1 σ H s)(k:∀b u,s.heap.get? b=some u->h'.get? b=some u)(hp:s.heap.objs.size<=a)(new:cb X.prog X.w (upd H a o) h' a o):aT X R1 σ (upd H a o) {s with heap:=h',toks:=t'}:=I.un (Un.laid k hp (I.hok.fresh hp)) (I.hok.laid k hp new)
theorem aT.write(I:aT X R1 σ H s)(mu:Qn (H x))(he:e=x\/H e=some (.own x))(k:∀b u,b≠e->s.heap.get? b=some u->h'.get? b=some u)(heo:∃u,h'.get? e=some u)(new:cb X.prog X.w (upd H x o) h' x o):aT X R1 σ (upd H x o) {s with heap:=h',toks:=t'}:=I.un (Un.write mu he k heo) (I.hok.write mu he k heo new)
def aT.pins_of(I:aT X R1 σ H s)(h:∀p∈pins',s.heap.get? p.1=some p.2/\H p.1=none/\p.1≠X.env.locals/\p.1∉X.fs/\∀v,p.2.data≠.cell v):aT X pins' σ H s:=
 ⟨I.ok,I.os,I.bare,I.R4,I.loc,I.cell,I.free,I.freeC,λp hp=>(WF.mp hp).elim (λz=>I.pin p (Xm _ z)) (h p),I.hok,I.len⟩
def vz{N:List Str}(hN:N.Nodup){i j:Nat}{x:Str}(a:N[i]? =some x)(b:N[j]? =some x):i=j:=by obtain⟨h1,e1⟩:=Wz.mp a;obtain⟨h2,e2⟩:=Wz.mp b;exact(Xn hN).mp (e1.trans e2.symm)
def qG(I:aT X R1 σ H s)(hN:X.N.Nodup)(hi:X.N[i]? =some x)(hx:Kl X.env.scope x)(r:bz v u)(h:∀s',aT X R1 (σ.set i (some v)) H s'->(∃a,Td a s.heap s'.heap/\(a=X.env.locals\/X.env.cells.lookup x=some a))->Q () s')(hf:X.fn x=true\/X.env.scope.names.lookup x=some .local:=by first|exact .inl rfl|exact .inr rfl|assumption):Sn M A (storeName X.env x u) Q E s:=by
 obtain⟨m,hn,hl⟩:=id I.loc;have hcls:(X.env.scope.kind == .class||(X.env.scope.kind == .module&&X.env.locals != X.env.globals))=false:=by rw[I.ok.kind];rfl
 have hiσ:i<σ.length:=by rw[I.len];exact(Wz.mp hi).1
 have cne:=I.cne;have tracked:∀{a:Z1}{h':SD},(∃o,s.heap.get? a=some o/\H a=none)->Td a s.heap h'->kT X.prog X.w H h':=λ{a h'} ha hs b ob e=>by
  obtain⟨_,_,hfree⟩:=ha;refine(I.hok b ob e).stay (λc w' hc q=>(hs.2 c ?_).trans q) (λ_ q=>q) λ_ _ q=>q;rintro rfl
  rcases hc with rfl|hc
  .rw[hfree]at e;cases e
  .rw[hfree]at hc;cases hc
 rcases hx with hk|hk
 .refine wpAny_storeName_local hk hn (λh' hn' hs=>?_) hcls;obtain⟨oL,_,_,hoL,_⟩:=id hn;refine h _ ⟨I.ok,I.os,I.bare,⟨λb o e n hb hx=>?_,λb o e n hb hx=>?_,I.R4.free,λb o e hx=>?_,I.R4.tups,I.R4.frzs,I.R4.tbls⟩,⟨_,hn',λj y v' e1 e2 e3=>?_⟩,λy c e=>?_,I.free,I.freeC,λp hp=>?_,tracked ⟨oL,hoL,I.free⟩ hs,by simpa using I.len⟩ ⟨_,hs,.inl rfl⟩
  .exact(hs.2 b (Yg (Yi (Sl e) I.ok.above))).trans (I.R4.keep b o e n hb hx)
  .obtain⟨sl,e1⟩:=I.R4.slot b o e n hb hx;exact⟨sl,(hs.2 b (Yg (Yi (Sl e) I.ok.above))).trans e1⟩
  .obtain⟨o',e1⟩:=I.R4.there b o e hx;exact⟨o',(hs.2 b (Yg (Yi (Sl e) I.ok.above))).trans e1⟩
  .by_cases hj:j=i
   .subst hj;rw[hi]at e1;cases e1;rw[XW hiσ]at e2;cases e2;exact⟨u,r,.inl ⟨hk,by simp⟩⟩
   .rw[XX (Ne.symm hj)]at e2;obtain⟨u',r',q⟩:=hl j y v' e1 e2 e3;refine⟨u',r',?_⟩
    rcases q with⟨k,e⟩|⟨k,c,e,z⟩
    .refine .inl ⟨k,?_⟩;have:y≠x:=λe=>hj (vz hN e1 (e▸hi));simp[this,e]
    .exact .inr ⟨k,c,e,z.sameBut hs (cne y c e)⟩
  .obtain⟨w',z⟩:=I.cell y c e;exact⟨w',z.sameBut hs (cne y c e)⟩
  .obtain⟨e,n,ne,nf,d⟩:=I.pin p hp;exact⟨(hs.2 p.1 ne).trans e,n,ne,nf,d⟩
 .have hfn:X.fn x=true:=by
   rcases hf with z|z
   .exact z
   .rw[z]at hk;cases hk
  obtain⟨c,hc⟩:=I.ok.has x (.inl hk);obtain⟨w',z⟩:=I.cell x c hc;refine wpAny_storeName_cell I.ok.kind hk hc z (λh' hc' hs=>?_);obtain⟨oc,hoc,hocd⟩:=id z;refine h {s with heap:=h'} ⟨I.ok,I.os,I.bare,⟨λb o e n hb hx=>?_,λb o e n hb hx=>?_,I.R4.free,λb o e hx=>?_,I.R4.tups,I.R4.frzs,I.R4.tbls⟩,⟨m,hn.sameBut hs (Ne.symm (cne x c hc)),λj y v' e1 e2 e3=>?_⟩,λy c' e=>?_,I.free,I.freeC,λp hp=>?_,tracked ⟨oc,hoc,I.freeC x c hc⟩ hs,by simpa using I.len⟩ ⟨c,hs,.inr hc⟩
  .exact(hs.2 b (Yg (Yi (Sl e) (I.ok.cab x c hfn hc)))).trans (I.R4.keep b o e n hb hx)
  .obtain⟨sl,e1⟩:=I.R4.slot b o e n hb hx;exact⟨sl,(hs.2 b (Yg (Yi (Sl e) (I.ok.cab x c hfn hc)))).trans e1⟩
  .obtain⟨o',e1⟩:=I.R4.there b o e hx;exact⟨o',(hs.2 b (Yg (Yi (Sl e) (I.ok.cab x c hfn hc)))).trans e1⟩
  .by_cases hj:j=i
   .subst hj;rw[hi]at e1;cases e1;rw[XW hiσ]at e2;cases e2;exact⟨u,r,.inr ⟨.inl hk,c,hc,hc'⟩⟩
   .rw[XX (Ne.symm hj)]at e2;obtain⟨u',r',q⟩:=hl j y v' e1 e2 e3;refine⟨u',r',?_⟩
    rcases q with q|⟨k,c',e,z'⟩
    .exact .inl q
    .refine .inr ⟨k,c',e,z'.sameBut hs ?_⟩;rintro rfl;exact hj (vz hN e1 (I.ok.inj _ _ _ e hc▸hi))
  .by_cases hcc:c'=c
   .subst hcc;exact⟨_,hc'⟩
   .obtain⟨w2,z2⟩:=I.cell y c' e;exact⟨w2,z2.sameBut hs hcc⟩
  .obtain⟨e,n,ne,nf,d⟩:=I.pin p hp;refine⟨(hs.2 p.1 ?_).trans e,n,ne,nf,d⟩;intro q;rw[q,hoc]at e;have q':=Sd e;exact d w' (by rw[<-q'];exact hocd)
def oC(I:aT X R1 σ H s)(hN:X.N.Nodup)(hi:X.N[i]? =some x)(hx:Kl X.env.scope x)(r:bz v u)(h:∀s',aT X R1 (σ.set i (some v)) H s'->Q () s')(hf:X.fn x=true\/X.env.scope.names.lookup x=some .local:=by first|exact .inl rfl|exact .inr rfl|assumption):Sn M A (storeName X.env x u) Q E s:=
 qG I hN hi hx r (λs' I' _=>h s' I') hf
def aT.call'(I:aT X R1 σ H s)(ho:s'.os=s.os)(u:Un (iI X.stack) ch H H' s.heap s'.heap)(hok:kT X.prog X.w H' s'.heap)(hg:Ux s'.gens)(hch:∀b∈ch,(b∈X.ex\/X.s₀.heap.objs.size<=b)/\b≠X.env.locals/\(∀x c,X.env.cells.lookup x=some c->c≠b)/\∀p∈X.pn++R1,p.1≠b):aT X R1 σ H' s':=by obtain⟨h',g',d',t',o'⟩:=s';have e:=ho;subst e;exact I.call u hok hg hch
end
abbrev XK:=Z0->Option Z1->Hp->Prop
abbrev St:=List (Option V)
abbrev oR(a:Z1):Option V:=some (.ref a)
abbrev oJ(a:Int):Option V:=some (.int a)
abbrev oT(a:Str):Option V:=some (.str a)
abbrev VK:=V->Hp->Prop
abbrev TE:=St->Hp->VK->Prop
abbrev TT:=St->Hp->(Bool->Hp->Prop)->Prop
abbrev TA:=St->Hp->(List V->Hp->Prop)->Prop
structure j6 where
 nx:St->Hp->Prop
 rt:VK
 bk:St->Hp->Prop:=λ_ _=>False
 ct:St->Hp->Prop:=λ_ _=>False
abbrev TS:=j6->St->Hp->Prop
def EP(X:Cx)(R1:Sh)(σ:St)(Q:VK)(u:Z0)(s':So):Prop:= ∃v H',aT X R1 σ H' s'/\bz v u/\Q v H'
def TP(X:Cx)(R1:Sh)(σ:St)(Q:Bool->Hp->Prop)(b:Bool)(s':So):Prop:= ∃H',aT X R1 σ H' s'/\Q b H'
def AP(X:Cx)(R1:Sh)(σ:St)(Q:List V->Hp->Prop)(us:List Z0)(s':So):Prop:= ∃vs H',aT X R1 σ H' s'/\bZ vs us/\Q vs H'
def SP(X:Cx)(R1:Sh)(D:j6)(f:Flow)(s':So):Prop:=
 match f with
 | .next=>∃σ' H',aT X R1 σ' H' s'/\D.nx σ' H'
 | .brk=>∃σ' H',aT X R1 σ' H' s'/\D.bk σ' H'
 | .cont=>∃σ' H',aT X R1 σ' H' s'/\D.ct σ' H'
 | .ret u=>∃v σ' H',aT X R1 σ' H' s'/\bz v u/\D.rt v H'
def PE(X:Cx)(e:S8)(t:TE):Prop:=
 ∀(R1:Sh)(s:So)(σ:St)(H:Hp)(Q:VK),aT X R1 σ H s->t σ H Q->Sn (Su X.prog X.w) X.A (Tj e X.env) (EP X R1 σ Q) X.xe s
def PT(X:Cx)(e:S8)(t:TT):Prop:=
 ∀(R1:Sh)(s:So)(σ:St)(H:Hp)(Q:Bool->Hp->Prop),aT X R1 σ H s->t σ H Q->Sn (Su X.prog X.w) X.A (isTrue e X.env (Tj e X.env)) (TP X R1 σ Q) X.xe s
def PW(X:Cx)(e:S8)(t:TT):Prop:=
 ∀(whole:Sem Z0)(R1:Sh)(s:So)(σ:St)(H:Hp)(Q:Bool->Hp->Prop),aT X R1 σ H s->t σ H Q->Sn (Su X.prog X.w) X.A (isTrue e X.env whole) (TP X R1 σ Q) X.xe s
def PW.pt(h:PW X e t):PT X e t:=h _
def PA(X:Cx)(es:List S8)(t:TA):Prop:=
 ∀(pos:VL)(R1:Sh)(s:So)(σ:St)(H:Hp)(Q:List V->Hp->Prop),aT X R1 σ H s->t σ H Q->Sn (Su X.prog X.w) X.A (spliced (Tl pos (Sv es X.env))) (AP X R1 σ Q) X.xe s
def PS(X:Cx)(st:SQ)(t:TS):Prop:=
 ∀(R1:Sh)(s:So)(σ:St)(H:Hp)(D:j6),aT X R1 σ H s->t D σ H->Sn (Su X.prog X.w) X.A (exec st X.env) (SP X R1 D) X.xe s
def rH(X:Cx)(st:List SQ)(t:TS):Prop:=
 ∀(R1:Sh)(s:So)(σ:St)(H:Hp)(D:j6),aT X R1 σ H s->t D σ H->Sn (Su X.prog X.w) X.A (execs st X.env) (SP X R1 D) X.xe s
def cK{α:Type}{t:Sem α}{Q Q':α->So->Prop}{M:Model}{A:S5}{E:Sg}{s:So}(h:Sn M A t Q E s)(hQ:∀a s,Q a s->Q' a s):Sn M A t Q' E s:=SL h hQ λ_ _ x=>x
section
variable{X:Cx}
def OR(i:Nat):TE:=λσ H Q=>∃v,σ[i]? =some (some v)/\Q v H
def tC(v:V):TE:=λ_ H Q=>Q v H
def CC{i:Nat}{x:Str}{pos:VL}(hN:X.N[i]? =some x)(hv:Kk X.env.scope x)(hd:(x == ("__debug__":Str))=false:=by decide)(hcd:(x == ("__classdict__":Str))=false:=by decide):PE X (.Name x pos) (OR i):=by
 intro R1 s σ H Q I h;obtain⟨v,e,h⟩:=h;obtain⟨m,hn,hl⟩:=I.loc;obtain⟨u,r,l⟩:=hl i x v hN e hv;have fin:EP X R1 σ Q u s:=⟨v,H,I,r,h⟩
 rcases l with⟨hk,hm⟩|⟨hk,c,hc,hcell⟩
 .exact wpAny_Name (wpAny_loadName_local I.ok.kind hk hn hm fin) hd
 .rcases hk with hk|hk
  .exact wpAny_Name (wpAny_loadName_cell I.ok.kind hk hc hcell fin) hd
  .exact wpAny_Name (wpAny_loadName_free I.ok.kind hk hc hcell fin hcd) hd
def ag{i j pos}:PE X (.Constant (.int i) j pos) (tC (.int i)):=λ_ _ _ H _ I h=>wpAny_Constant_int ⟨.int i,H,I.tok _,⟨_,rfl⟩,h⟩
def fb{b j pos}:PE X (.Constant (.bool b) j pos) (tC (.bl b)):=λ_ _ _ H _ I h=>Constant_bool ⟨.bl b,H,I,rfl,h⟩
def dE{j pos}:PE X (.Constant .none j pos) (tC .non):=λ_ _ _ H _ I h=>Constant_none ⟨.non,H,I,rfl,h⟩
def aI{x j pos}:PE X (.Constant (.str x) j pos) (tC (.str x)):=λ_ _ _ H _ I h=>Calls.Constant_str ⟨.str x,H,I.tok _,⟨_,rfl⟩,h⟩
def Gl(X:Cx)(x:Str):Prop:=X.env.kindOf x=some .globalImplicit
def ig{E:Sg}{R1:Sh}{s:So}{σ:St}{H:Hp}{x:Str}{u:Z0}{pos:VL}{Q:Sg}(I:aT X R1 σ H s)(hg:Gl X x)(hm:X.mg x=some u)(h:Q u s)(hd:(x == ("__debug__":Str))=false:=by decide):Sn (Su X.prog X.w) X.A (Tj (.Name x pos) X.env) Q E s:=
 UZ I.ok.kind hg (Calls.loadGlobal_global (by rw[I.ok.glob];exact I.mod.glob.keeps I.bk) hm h) hd
def lE{E:Sg}{R1:Sh}{s:So}{σ:St}{H:Hp}{x:Str}{u:Z0}{pos:VL}{Q:Sg}(I:aT X R1 σ H s)(hg:Gl X x)(hm:X.mg x=none)(hv:Sy x=some u)(h:Q u s)(hn:x≠"__name__":=by decide)(hd:(x == ("__debug__":Str))=false:=by decide):Sn (Su X.prog X.w) X.A (Tj (.Name x pos) X.env) Q E s:=by obtain⟨mb,h1,h2⟩:=I.mod.blt;exact UZ I.ok.kind hg (Calls.loadGlobal_builtin (by rw[I.ok.glob];exact I.mod.glob.keeps I.bk) hm (by rw[I.ok.blt];exact h1.keeps I.bk) ((h2 x hn).trans hv) h) hd
def EQ(hg:Gl X x)(hm:X.mg x=some u)(r:bz v u)(hd:(x == ("__debug__":Str))=false:=by decide):PE X (.Name x pos) (tC v):=
 λ_ _ _ H _ I h=>ig I hg hm ⟨v,H,I,r,h⟩ hd
def yO{x:Str}{v:V}{u:Z0}{pos:VL}(hg:Gl X x)(hm:X.mg x=none)(hv:Sy x=some u)(r:bz v u)(hn:x≠"__name__":=by decide)(hd:(x == ("__debug__":Str))=false:=by decide):PE X (.Name x pos) (tC v):=
 λ_ _ _ H _ I h=>lE I hg hm hv ⟨v,H,I,r,h⟩ hn hd
variable{a b:S8}{pos:VL}
def tB(t:TE):TT:=λσ H Q=>t σ H λx H1=>∃c,x=.bl c/\Q c H1
variable{tA tB':TT}{rest:List S8}
def Ek(t u:TT):TT:=λσ H Q=>t σ H λc H1=>if c=true then u σ H1 Q else Q false H1
def MH(t u:TT):TT:=λσ H Q=>t σ H λc H1=>if c=true then Q true H1 else u σ H1 Q
def uE(t:TT):TT:=λσ H Q=>t σ H λc H1=>Q (!c) H1
def kG(ha:PT X a tA):PW X (.BoolOp .And [a] pos) tA:=by
 intro wh R1 s σ H Q I h;refine isTrue_and (cK (ha R1 s σ H Q I h) λc s1 e=>?_);cases c with
 |true=>exact isTrue_and_nil e
 |false=>exact e
def dD(ha:PT X a tA):PW X (.BoolOp .Or [a] pos) tA:=by
 intro wh R1 s σ H Q I h;refine isTrue_or (cK (ha R1 s σ H Q I h) λc s1 e=>?_);cases c with
 |false=>exact isTrue_or_nil e
 |true=>exact e
def mR(ha:PT X a tA)(hb:PW X (.BoolOp .And (b::rest) pos) tB'):PW X (.BoolOp .And (a::b::rest) pos) (Ek tA tB'):=by
 intro wh R1 s σ H Q I h;refine isTrue_and (cK (ha R1 s σ H _ I h) λc s1 ⟨H1,I1,q1⟩=>?_);cases c with
 |true=>exact hb wh R1 s1 σ H1 Q I1 q1
 |false=>exact⟨H1,I1,q1⟩
def dQ(ha:PT X a tA)(hb:PW X (.BoolOp .Or (b::rest) pos) tB'):PW X (.BoolOp .Or (a::b::rest) pos) (MH tA tB'):=by
 intro wh R1 s σ H Q I h;refine isTrue_or (cK (ha R1 s σ H _ I h) λc s1 ⟨H1,I1,q1⟩=>?_);cases c with
 |true=>exact⟨H1,I1,q1⟩
 |false=>exact hb wh R1 s1 σ H1 Q I1 q1
def bE(ha:PT X a tA):PT X (.UnaryOp .Not a pos) (uE tA):=by intro R1 s σ H Q I h;exact isTrue_not (ha R1 s σ H (λc H1=>Q (!c) H1) I h)
def fo{op}(h:PE X a t):PE X (.BoolOp op [a] pos) t:=λR1 s σ H Q I hw=>BoolOp_one (h R1 s σ H Q I hw)
def MI(t:TT)(ta tb:TE):TE:=λσ H Q=>t σ H λc H1=>if c=true then ta σ H1 Q else tb σ H1 Q
def jn(hc:PT X c tA)(ha:PE X a ta)(hb:PE X b tb):PE X (.IfExp c a b pos) (MI tA ta tb):=by
 intro R1 s σ H Q I h;refine wpAny_IfExp (cK (hc R1 s σ H _ I h) λd s1 ⟨H1,I1,q1⟩=>?_);cases d with
 |true=>exact ha R1 s1 σ H1 Q I1 q1
 |false=>exact hb R1 s1 σ H1 Q I1 q1
end
def RK:Z0->Option V
 | .none=>some .non
 | .bool b=>some (.bl b)
 | .int i _=>some (.int i)
 | .str x _=>some (.str x)
 | .bytes b _=>some (.byt b)
 | .float b _=>some (.flt b)
 | .ref a=>some (.ref a)
 | .type n=>some (.ty n)
 |_=>none
def ut:V->Z0->Prop
 | .tok _ _,_=>False
 |x,u=>bz x u
def ut.v(r:ut x u):bz x u:=by cases x<;>first|exact r|exact r.elim
abbrev jv:List V->List Z0->Prop:=Vl ut
theorem jv.v:∀{xs:List V}{us:List Z0},jv xs us->bZ xs us
 |_,_,.nil=>.nil
 |_,_,.cons r t=>.cons r.v (jv.v t)
def ut.abs(r:ut x u):RK u=some x:=by
 cases x with
 |non=>cases r;rfl
 |bl _=>cases r;rfl
 |int _=>obtain⟨t,rfl⟩:=r;rfl
 |str _=>obtain⟨t,rfl⟩:=r;rfl
 |byt _=>obtain⟨t,rfl⟩:=r;rfl
 |flt _=>obtain⟨t,rfl⟩:=r;rfl
 |ref _=>cases r;rfl
 |ty _=>cases r;rfl
 |tok _ _=>exact r.elim
def ut.inj(r:ut x u)(q:ut y u):x=y:=Sd (r.abs.symm.trans q.abs)
def aV(K:Frag)(H:Hp)(a:Z1)(xs:List V):Prop:=
 Rd H a (.lst xs)\/
  ∃o its n,K.lookup a=some o/\o.cls=.type "list"/\o.dict=none/\o.data=.seq its n/\its.size<=h9/\jv xs its.toList
def dU(K:Frag)(H:Hp)(a:Z1)(xs:List V):Prop:=
 Rd H a (.tup xs)\/
  ∃o its n,K.lookup a=some o/\o.cls=.type "tuple"/\o.data=.seq its n/\its.size<=h9/\jv xs its.toList
theorem jv.ints:∀{ns:List Int}{us:List Z0},bZ (ns.map V.int) us->jv (ns.map V.int) us
 | [],_,.nil=>.nil
 |_::_,_,.cons r t=>.cons r (jv.ints t)
theorem jv.inj:∀{xs ys:List V}{us:List Z0},jv xs us->jv ys us->xs=ys
 |_,_,_,.nil,.nil=>rfl
 |_,_,_,.cons r t,.cons r' t'=>by rw[ut.inj r r',jv.inj t t']
section
variable{X:Cx}{R1:Sh}{σ:St}{H:Hp}{s:So}{a:Z1}{xs ys:List V}
def aV.of{K:Frag}(h:H a=some (.lst xs)):aV K H a xs:=.inl (.inl h)
def dU.of{K:Frag}(h:H a=some (.tup xs)):dU K H a xs:=.inl (.inl h)
def aT.list(I:aT X R1 σ H s)(h:aV X.K H a xs):∃its:List Z0,bZ xs its/\PlainL s.heap a its.toArray/\xs.length<=h9:=by
 rcases h with h|⟨o,its,n,hk,hc,hd,hs,hz,r⟩
 .obtain⟨z,its,n,r,e⟩:=h.ok I.hok;exact⟨its,r,⟨_,n,e,rfl,rfl,rfl⟩,z⟩
 .refine⟨its.toList,r.v,⟨o,n,I.kIn a o hk,hc,hd,by simpa using hs⟩,?_⟩;have e:=r.v.length;simp only[Y1]at e;omega
def aT.tuple(I:aT X R1 σ H s)(h:dU X.K H a xs):∃its:List Z0,bZ xs its/\IsTup s.heap a its.toArray/\xs.length<=h9:=by
 rcases h with h|⟨o,its,n,hk,hc,hs,hz,r⟩
 .obtain⟨z,its,r,p⟩:=h.ok I.hok;exact⟨its,r,p,z⟩
 .refine⟨its.toList,r.v,⟨o,I.kIn a o hk,hc,n,by simpa using hs⟩,?_⟩;have e:=r.v.length;simp only[Y1]at e;omega
def aT.list_inj(I:aT X R1 σ H s)(h:aV X.K H a xs)(h':aV X.K H a ys):xs=ys:=by
 have kn:∀o,X.K.lookup a=some o->∀u,¬Rd H a u:=λo hk u r=>by
  have hn:=(I.bs a o (I.ok.mod.kin a o hk)).2
  rcases r with r|⟨_,r⟩<;>(rw[hn]at r;cases r)
 rcases h with h|⟨o,its,n,hk,hc,hd,hs,hz,r⟩
 .rcases h' with h'|⟨o',its',n',hk',hc',hd',hs',hz',r'⟩
  .rcases h with h|⟨_,h⟩<;>rcases h' with h'|⟨_,h'⟩<;>(rw[h]at h';cases h';try rfl)
  .exact(kn _ hk' _ h).elim
 .rcases h' with h'|⟨o',its',n',hk',hc',hd',hs',hz',r'⟩
  .exact(kn _ hk _ h').elim
  .rw[hk]at hk';cases hk';rw[hs]at hs';injection hs' with d1 _;subst d1;exact jv.inj r r'
def aT.tuple_inj(I:aT X R1 σ H s)(h:dU X.K H a xs)(h':dU X.K H a ys):xs=ys:=by
 have kn:∀o,X.K.lookup a=some o->∀u,¬Rd H a u:=λo hk u r=>by
  have hn:=(I.bs a o (I.ok.mod.kin a o hk)).2
  rcases r with r|⟨_,r⟩<;>(rw[hn]at r;cases r)
 rcases h with h|⟨o,its,n,hk,hc,hs,hz,r⟩
 .rcases h' with h'|⟨o',its',n',hk',hc',hs',hz',r'⟩
  .rcases h with h|⟨_,h⟩<;>rcases h' with h'|⟨_,h'⟩<;>(rw[h]at h';cases h';try rfl)
  .exact(kn _ hk' _ h).elim
 .rcases h' with h'|⟨o',its',n',hk',hc',hs',hz',r'⟩
  .exact(kn _ hk _ h').elim
  .rw[hk]at hk';cases hk';rw[hs]at hs';injection hs' with d1 _;subst d1;exact jv.inj r r'
end
abbrev Cx.wish(X:Cx)(E:Sg):Cx:={X with xe:=E}
abbrev Cx.nox(X:Cx):Cx:=X.wish λ_ _=>False
theorem Cx.Ok.wish{X:Cx}(ok:X.Ok)(E:Sg):(X.wish E).Ok:=
 ⟨ok.mod,ok.kind,ok.glob,ok.blt,ok.above,ok.inj,ok.has,ok.cab,ok.hd,ok.frames,ok.stk,ok.exf,ok.bs,ok.bsz,ok.noex,ok.exfs,ok.funs,ok.frf⟩
def Cx.Ok.unwish{X:Cx}{E:Sg}(ok:(X.wish E).Ok):X.Ok:=
 ⟨ok.mod,ok.kind,ok.glob,ok.blt,ok.above,ok.inj,ok.has,ok.cab,ok.hd,ok.frames,ok.stk,ok.exf,ok.bs,ok.bsz,ok.noex,ok.exfs,ok.funs,ok.frf⟩
section
variable{X:Cx}{R1:Sh}{σ:St}{H:Hp}{s:So}{E:Sg}
theorem aT.wish(I:aT X R1 σ H s)(E:Sg):aT (X.wish E) R1 σ H s:=⟨I.ok.wish E,I.os,I.bare,I.R4,I.loc,I.cell,I.free,I.freeC,I.pin,I.hok,I.len⟩
theorem aT.unwish(I:aT (X.wish E) R1 σ H s):aT X R1 σ H s:=⟨I.ok.unwish,I.os,I.bare,I.R4,I.loc,I.cell,I.free,I.freeC,I.pin,I.hok,I.len⟩
theorem SP.unwish(h:SP (X.wish E) R1 D f s'):SP X R1 D f s':=by
 cases f with
 |next=>obtain⟨σ',H',I,q⟩:=h;exact⟨σ',H',I.unwish,q⟩
 |brk=>obtain⟨σ',H',I,q⟩:=h;exact⟨σ',H',I.unwish,q⟩
 |cont=>obtain⟨σ',H',I,q⟩:=h;exact⟨σ',H',I.unwish,q⟩
 |ret u=>obtain⟨v,σ',H',I,r,q⟩:=h;exact⟨v,σ',H',I.unwish,r,q⟩
theorem rH.nox{st:List SQ}(h:rH X.nox st t):rH X st t:=λR1 s σ H D I hw=>
 SL (h R1 s σ H D (I.wish _) hw) (λ_ _ q=>q.unwish) λ_ _ z=>False.elim z
end
section
variable{X:Cx}{st:SQ}{rest:List SQ}{t u:TS}
def oA:TS:=λD σ H=>D.nx σ H
def cm(t u:TS):TS:=λD σ H=>t {D with nx:=u D} σ H
def aD:rH X [] oA:=λ_ _ σ H _ I h=>UB ⟨σ,H,I,h⟩
def ae(h1:PS X st t)(h2:rH X rest u):rH X (st::rest) (cm t u):=by
 intro R1 s σ H D I h;refine Ve (cK (h1 R1 s σ H {D with nx:=u D} I h) λf s1 q=>?_);cases f with
 |next=>
  obtain⟨σ',H',I',q⟩:=q;exact h2 R1 s1 σ' H' D I' q
 |ret v=>exact q
 |brk=>exact q
 |cont=>exact q
def am(h1:PS X st t):rH X [st] t:=by
 intro R1 s σ H D I h;refine Ve (cK (h1 R1 s σ H D I h) λf s1 q=>?_);cases f with
 |next=>exact UB q
 |ret v=>exact q
 |brk=>exact q
 |cont=>exact q
def aT.quiet{R1:Sh}{σ:St}{H:Hp}{s:So}(I:aT X R1 σ H s):interactive X.env=false:=by simp[interactive,I.ok.kind]
def lS(te:TE):TS:=λD σ H=>te σ H λ_ H1=>D.nx σ H1
def kH(he:PE X e te)(hs:Uh e none pos.line X.env=pure false:=by rfl):PS X (.Expr e pos) (lS te):=by intro R1 s σ H D I h;exact wpAny_Expr_any (cK (he R1 s σ H _ I h) λv s1 ⟨x,H1,I1,r1,q1⟩=>⟨σ,H1,I1,q1⟩) I.quiet hs
def jx(te:TE):TS:=λD σ H=>te σ H D.rt
def aG(he:PE X e te):PS X (.Return (some e) pos) (jx te):=by intro R1 s σ H D I h;exact wpAny_Return_some (cK (he R1 s σ H _ I h) λv s1 ⟨x,H1,I1,r1,q1⟩=>⟨x,σ,H1,I1,r1,q1⟩)
def qd(c:TT)(t u:TS):TS:=λD σ H=>c σ H λb H1=>if b=true then t D σ H1 else u D σ H1
def bc(hc:PT X c tc)(ha:rH X a t)(hb:rH X b u):PS X (.If c a b pos) (qd tc t u):=by
 intro R1 s σ H D I h;refine wpAny_If (cK (hc R1 s σ H _ I h) λd s1 ⟨H1,I1,q1⟩=>?_);cases d with
 |true=>exact ha R1 s1 σ H1 D I1 q1
 |false=>exact hb R1 s1 σ H1 D I1 q1
def BK:TS:=λ_ _ _=>False
def iB:PS X st BK:=λ_ _ _ _ _ _ h=>h.elim
def qN:rH X sts BK:=λ_ _ _ _ _ _ h=>h.elim
end
abbrev TG:=V->St->Hp->(St->Hp->Prop)->Prop
abbrev FN:=List V->St->Hp->(St->Hp->Prop)->Prop
def PG(X:Cx)(target:S8)(t:TG):Prop:=
 ∀(R1:Sh)(s:So)(σ:St)(H:Hp)(v:V)(u:Z0)(Q:St->Hp->Prop),aT X R1 σ H s->bz v u->t v σ H Q->
  Sn (Su X.prog X.w) X.A (VD target X.env u) (λ_ s'=>∃σ' H',aT X R1 σ' H' s'/\Q σ' H') X.xe s
def My(X:Cx)(ts:List S8)(t:FN):Prop:=
 ∀(R1:Sh)(s:So)(σ:St)(H:Hp)(vs:List V)(us:List Z0)(Q:St->Hp->Prop),aT X R1 σ H s->bZ vs us->t vs σ H Q->
  Sn (Su X.prog X.w) X.A (assignInOrder ((To ts X.env).map (·.2)) us) (λ_ s'=>∃σ' H',aT X R1 σ' H' s'/\Q σ' H') X.xe s
abbrev Qk:=V->V->V->Hp->(Hp->Prop)->Prop
def Qm(X:Cx)(t:Qk):Prop:=
 ∀(R1:Sh)(s:So)(σ:St)(H:Hp)(o i v:V)(ov iv u:Z0)(Q:Hp->Prop),aT X R1 σ H s->bz o ov->bz i iv->bz v u->t o i v H Q->
  Sn (Su X.prog X.w) X.A (We ov iv u) (λ_ s'=>∃H',aT X R1 σ H' s'/\Q H') X.xe s
section
variable{X:Cx}{pos:VL}
def gName(i:Nat):TG:=λv σ H Q=>Q (σ.set i (some v)) H
def yM(hN:X.N.Nodup)(hi:X.N[i]? =some x)(hx:Kl X.env.scope x)(hf:X.fn x=true\/X.env.scope.names.lookup x=some .local:=by first|exact .inl rfl|exact .inr rfl|assumption):PG X (.Name x pos) (gName i):=by intro R1 s σ H v u Q I r h;exact wpAny_assign_Name (oC I hN hi hx r (λs' I'=>⟨_,H,I',h⟩) hf)
def bN(i:Nat)(hN:X.N.Nodup)(hi:X.N[i]? =some x:=by rfl)(hx:Kl X.env.scope x:=by first|exact .inl rfl|exact .inr rfl)(hf:X.fn x=true\/X.env.scope.names.lookup x=some .local:=by first|exact .inl rfl|exact .inr rfl|assumption):PG X (.Name x pos) (gName i):=yM hN hi hx hf
def AR:FN:=λvs σ H Q=>vs=[]/\Q σ H
def iT(t:TG)(u:FN):FN:=λvs σ H Q=>∃v r,vs=v::r/\t v σ H λσ' H'=>u r σ' H' Q
def iP:My X [] AR:=by intro R1 s σ H vs us Q I r h;obtain⟨e,h⟩:=h;subst e;cases r;exact assignInOrder_nil ⟨σ,H,I,h⟩
def cz(h1:PG X e t)(h2:My X es u)(hs:(To (e::es) X.env).map (·.2)=VD e X.env::(To es X.env).map (·.2):=by rfl):My X (e::es) (iT t u):=by
 intro R1 s σ H vs us Q I r h;obtain⟨v,vr,e1,h⟩:=h;subst e1;cases r with
 |cons r rr=>
  rw[hs];refine assignInOrder_cons (cK (h1 R1 s σ H _ _ _ I r h) λ_ s1 ⟨σ1,H1,I1,q1⟩=>?_);exact h2 R1 s1 σ1 H1 _ _ Q I1 rr q1
def Dk(K:Frag)(n:Nat)(t:FN):TG:=λv σ H Q=>∃a xs,v=.ref a/\dU K H a xs/\xs.length=n/\t xs σ H Q
def Ld{es:List S8}{k:Nat}{t:FN}{n:Nat}(hc:X.calm=true)(h:My X es t)(hn:(To es X.env).length=n:=by rfl)(hst:(To es X.env).findIdx? (·.1)=none:=by rfl):PG X (.Tuple es k pos) (Dk X.K n t):=by intro R1 s σ H v u Q I r hw;obtain⟨a,xs,e1,hq,hl,hw⟩:=hw;subst e1;cases r;obtain⟨its,rv,ht,hz⟩:=I.tuple hq;refine assign_Tuple_tuple (I.ok.hd hc) ht (by simp[hn,<-hl,rv.length]) hst λh' hx=>?_;have I1:aT X R1 σ H {s with heap:=h'}:=I.kept (t':=s.toks) λb o e=>hx b o (Yg (Sl e)) e;exact h R1 _ σ H xs _ Q I1 (by simpa using rv) hw
def gSub(to ti:TE)(t:Qk):TG:=λv σ H Q=>to σ H λo H1=>ti σ H1 λi H2=>t o i v H2 λH3=>Q σ H3
def Le(ho:PE X o to)(hi:PE X i ti)(hs:Qm X t)(ha:∀v,VD (.Subscript o i pos) X.env v=(do
   let ov<-V4 [v] (Tj o X.env)
   let iv<-V4 [v,ov] (Tj i X.env)
   standAt pos
   V4 [v,ov,iv] (We ov iv v)
   release [v,ov,iv] []):=by intro _;rfl):PG X (.Subscript o i pos) (gSub to ti t):=by
 intro R1 s σ H v u Q I r h;rw[ha];refine Si (SE (cK (ho R1 s σ H _ I h) λov s1 ⟨x,H1,I1,r1,q1⟩=>?_));refine Si (SE (cK (hi R1 s1 σ H1 _ I1 q1) λiv s2 ⟨y,H2,I2,r2,q2⟩=>?_));refine Si (Ub (Si (SE (cK (hs R1 s2 σ H2 x y v ov iv u _ I2 r1 r2 r q2) λ_ s3 ⟨H3,I3,q3⟩=>?_))));exact wpAny_release ⟨σ,H3,I3,q3⟩
def tAsg(te:TE)(g:TG):TS:=λD σ H=>te σ H λx H1=>g x σ H1 D.nx
def Cr(he:PE X e te)(hg:PG X tg g)(hs:swapsWithSole [tg] e pos.line X.env=pure false:=by rfl)(hw:swappedStores [tg] e X.env=pure none:=by rfl)(h1:(To [tg] X.env).map (·.2)=[VD tg X.env]:=by rfl):PS X (.Assign [tg] e pos) (tAsg te g):=by intro R1 s σ H D I h;refine wpAny_Assign_stores (cK (he R1 s σ H _ I h) λv s1 ⟨x,H1,I1,r1,q1⟩=>?_) hs hw;rw[h1];exact cK (hg R1 s1 σ H1 x v _ I1 r1 q1) λ_ s2 q=>q
def La(hN:X.N.Nodup)(hi:X.N[i]? =some x)(hx:Kl X.env.scope x)(he:PE X e te)(hs:Uh e (some (.Name x pos')) pos.line X.env=pure false:=by rfl)(hf:X.fn x=true\/X.env.scope.names.lookup x=some .local:=by first|exact .inl rfl|exact .inr rfl|assumption):PS X (.Assign [.Name x pos'] e pos) (tAsg te (gName i)):=by intro R1 s σ H D I h;refine wpAny_Assign_Name (cK (he R1 s σ H _ I h) λv s1 ⟨y,H1,I1,r1,q1⟩=>?_) hs;exact oC I1 hN hi hx r1 (λs2 I2=>⟨_,H1,I2,q1⟩) hf
def aw{x:Str}{e:S8}{te:TE}{pos':VL}(i:Nat)(hN:X.N.Nodup)(he:PE X e te)(hi:X.N[i]? =some x:=by rfl)(hx:Kl X.env.scope x:=by first|exact .inl rfl|exact .inr rfl)(hs:Uh e (some (.Name x pos')) pos.line X.env=pure false:=by rfl)(hf:X.fn x=true\/X.env.scope.names.lookup x=some .local:=by first|exact .inl rfl|exact .inr rfl|assumption):PS X (.Assign [.Name x pos'] e pos) (tAsg te (gName i)):=La hN hi hx he hs hf
end
structure It where
 go:Nat->Hp->Prop
 yld:Nat->Hp->V->Hp->Prop
 stop:Nat->Hp->Prop
def j5(X:Cx)(R1:Sh)(H:Hp)(b:Z1):Prop:=
 H b=none/\b≠X.env.locals/\b∉X.fs/\(b∈X.ex\/X.s₀.heap.objs.size<=b)/\(∀x c,X.env.cells.lookup x=some c->c≠b)/\∀p∈X.pn++R1,p.1≠b
def aT.fpOk{X:Cx}{R1:Sh}{σ:St}{H H':Hp}{s:So}{b:Z1}(I:aT X R1 σ H s)(hb:s.heap.objs.size<=b)(hn:H' b=none):j5 X R1 H' b:=by
 refine⟨hn,Yl (Yi I.lt hb),I.nofs hb,.inr (Ye I.sz hb),λx c e z=>?_,λp hp z=>?_⟩
 .obtain⟨v,q⟩:=I.cell x c e;exact Sc (Yi q.lt (by rw[z];exact hb)) (Yk _)
 .exact Sc (Yi (Sl (I.pin p hp).1) (by rw[z];exact hb)) (Yk _)
structure wb(P:Ss)(w:World)(K:Frag)(tg:S8)(J:It)(fp:List Z1)(it:Z1)(tn:Nat->SD->Prop):Prop where
 mem:it∈fp
 obj:∀i h,tn i h->∀b∈fp,∃o,h.get? b=some o/\∀v,o.data≠.cell v
 keep:∀i h h',tn i h->(∀b∈fp,∀o,h.get? b=some o->h'.get? b=some o)->tn i h'
 item:∀(X:Cx),X.prog=P->X.w=w->X.K=K->X.calm=true->∀(i:Nat)(R1:Sh)(s:So)(σ:St)(H:Hp)(E:Sg),aT X R1 σ H s->(∀b∈fp,j5 X R1 H b)->tn i s.heap->J.go i H->
  Sn (Su P w) X.A (TM (.ref it)) (λr s1=>∃u,r=some u/\
   Sn (Su P w) X.A (Ue tg (.ref it) u) (λ_ s2=>∃x H',aT X R1 σ H' s2/\bz x u/\J.yld i H x H'/\tn (i+1) s2.heap/\∀b∈fp,H' b=none) E s1) E s
 done:∀(X:Cx),X.prog=P->X.w=w->X.K=K->X.calm=true->∀(i:Nat)(R1:Sh)(s:So)(σ:St)(H:Hp)(E:Sg),aT X R1 σ H s->(∀b∈fp,j5 X R1 H b)->tn i s.heap->J.stop i H->
   Sn (Su P w) X.A (TM (.ref it)) (λr s1=>r=none/\aT X R1 σ H s1) E s
 self:∀(A:S5)(i:Nat)(s:So)(Q:Sg)(E:Sg),tn i s.heap->Q (.ref it) s->Sn (Su P w) A (pyIter (.ref it)) Q E s
abbrev TI:=St->Hp->(It->Hp->Prop)->Prop
def RN(X:Cx)(R1:Sh)(σ:St)(tg:S8)(R:It->Hp->Prop)(itv:Z0)(s2:So):Prop:=
 ∃it fp tn J H',itv=.ref it/\aT X R1 σ H' s2/\wb X.prog X.w X.K tg J fp it tn/\tn 0 s2.heap/\(∀b∈fp,j5 X R1 H' b)/\R J H'
def PI(X:Cx)(tg iter:S8)(wi:TI):Prop:=
 ∀(R1:Sh)(s:So)(σ:St)(H:Hp)(R:It->Hp->Prop),aT X R1 σ H s->wi σ H R->
  Sn (Su X.prog X.w) X.A (Tj iter X.env) (λv s1=>Sn (Su X.prog X.w) X.A (pyIter v) (RN X R1 σ tg R) X.xe s1) X.xe s
def vL(ho:s.heap.get? it=some o)(hc:o.cls=.type n)(hd:o.data=.fields vs)(hn:["enumerate","zip","dict_itemiterator","dict_reverseitemiterator","odict_iterator","itertools.zip_longest","itertools.pairwise"].contains n=false)(hQ:Q () s):Sn M A (Ue tg (.ref it) u) Q E s:=by
 unfold Ue;cases tg<;>first
  |exact Sk hQ
  |(cases u<;>first
    |exact Sk hQ
    |(refine Si (wpAny_load ho ?_)
      rw[hc,hd];show Sn M A (if(["enumerate","zip","dict_itemiterator","dict_reverseitemiterator","odict_iterator","itertools.zip_longest","itertools.pairwise"].contains n&&vs[0]? == some (T3 _))=true then _ else _) Q E s;rw[R8 (by intro h;rw[hn,YR]at h;cases h)];exact Sk hQ))
def Km(K:Frag)(a:Z1):It:=
 ⟨λi H=>∃xs x,aV K H a xs/\xs[i]? =some x,λi H x H'=>H'=H/\∀xs,aV K H a xs->xs[i]? =some x,λi H=>∃xs,aV K H a xs/\xs.length<=i⟩
def Qp(K:Frag)(a:Z1):It:=
 ⟨λi H=>∃xs x,dU K H a xs/\xs[i]? =some x,λi H x H'=>H'=H/\∀xs,dU K H a xs->xs[i]? =some x,λi H=>∃xs,dU K H a xs/\xs.length<=i⟩
def MO(lo:Int)(n:Nat):It:=⟨λi _=>i<n,λi H x H'=>H'=H/\x=.int (lo+i),λi _=>n<=i⟩
def zV{P:Ss}{w:World}{K:Frag}{tg:S8}(a it:Z1):wb P w K tg (Km K a) [it] it (λi h=>h.IsListIter it a i) where
 mem:=by simp
 obj:=λi h st b hb=>by
  have e:b=it:=by simpa using hb
  subst e;obtain⟨o,e,c,d⟩:=st;exact⟨o,e,λv z=>by rw[d]at z;cases z⟩
 keep:=λi h h' st k=>st.at λo e=>k it (by simp) o e
 item:=by intro X hP hw hK hc i R1 s σ H E I hf st hg;subst hP hw hK;obtain⟨xs,x,hq,hx⟩:=hg;obtain⟨its,rv,p,hz⟩:=I.list hq;obtain⟨u,hu,ru⟩:=rv.get hx;obtain⟨f0,f1,f2,f3,f4,f5⟩:=hf it (by simp);refine Vh st p.isList (x:=u) (by simpa using hu) λh' st' sb=>?_;have I1:aT X R1 σ H {s with heap:=h'}:=I.turned (t':=s.toks) (λb o hb e=>(sb.2 b hb).trans e) f0 f1 f3 f4 f5;obtain⟨o,e,c,d⟩:=id st';exact⟨u,rfl,vL (s:={s with heap:=h'}) e c d (by decide) ⟨x,H,I1,ru,⟨rfl,λys hy=>by rw[I.list_inj hy hq];exact hx⟩,st',λb hb=>(hf b hb).1⟩⟩
 done:=by intro X hP hw hK hc i R1 s σ H E I hf st hg;subst hP hw hK;obtain⟨xs,hq,hx⟩:=hg;obtain⟨its,rv,p,hz⟩:=I.list hq;obtain⟨f0,f1,f2,f3,f4,f5⟩:=hf it (by simp);have hl:=rv.length;exact wpAny_pyNext_list_end (I.ok.hd hc) st p.isList (by simp;omega) λh' eb=>⟨rfl,I.turned (t':=s.toks) (λb o hb e=>eb b o hb e) f0 f1 f3 f4 f5⟩
 self:=λ_ _ _ _ _ st h=>wpAny_pyIter_listiter st h
def wx{P:Ss}{w:World}{K:Frag}{tg:S8}(a it:Z1):wb P w K tg (Qp K a) [it] it (λi h=>h.IsTupleIter it a i) where
 mem:=by simp
 obj:=λi h st b hb=>by
  have e:b=it:=by simpa using hb
  subst e;obtain⟨o,e,c,d⟩:=st;exact⟨o,e,λv z=>by rw[d]at z;cases z⟩
 keep:=λi h h' st k=>st.at λo e=>k it (by simp) o e
 item:=by intro X hP hw hK hc i R1 s σ H E I hf st hg;subst hP hw hK;obtain⟨xs,x,hq,hx⟩:=hg;obtain⟨its,rv,p,hz⟩:=I.tuple hq;obtain⟨u,hu,ru⟩:=rv.get hx;obtain⟨f0,f1,f2,f3,f4,f5⟩:=hf it (by simp);refine wpAny_pyNext_tuple_item st (show s.heap.IsTuple a its.toArray from p) (x:=u) (by simpa using hu) λh' st' sb=>?_;have I1:aT X R1 σ H {s with heap:=h'}:=I.turned (t':=s.toks) (λb o hb e=>(sb.2 b hb).trans e) f0 f1 f3 f4 f5;obtain⟨o,e,c,d⟩:=id st';exact⟨u,rfl,vL (s:={s with heap:=h'}) e c d (by decide) ⟨x,H,I1,ru,⟨rfl,λys hy=>by rw[I.tuple_inj hy hq];exact hx⟩,st',λb hb=>(hf b hb).1⟩⟩
 done:=by intro X hP hw hK hc i R1 s σ H E I hf st hg;subst hP hw hK;obtain⟨xs,hq,hx⟩:=hg;obtain⟨its,rv,p,hz⟩:=I.tuple hq;obtain⟨f0,f1,f2,f3,f4,f5⟩:=hf it (by simp);have hl:=rv.length;exact wpAny_pyNext_tuple_end (I.ok.hd hc) st (show s.heap.IsTuple a its.toArray from p) (by simp;omega) λh' eb=>⟨rfl,I.turned (t':=s.toks) (λb o hb e=>eb b o hb e) f0 f1 f3 f4 f5⟩
 self:=λ_ _ _ _ _ st h=>wpAny_pyIter_tupleiter st h
def wz{P:Ss}{w:World}{K:Frag}{tg:S8}(it:Z1)(lo:Int)(n:Nat):wb P w K tg (MO lo n) [it] it (λi h=>IsRangeIter h it (lo+(i:Nat)*1) ((n:Int) - (i:Nat)) 1) where
 mem:=by simp
 obj:=λi h st b hb=>by
  have e:b=it:=by simpa using hb
  subst e;exact⟨_,st,λv z=>by
   have z':Data.fields _=Data.cell v:=z;cases z'⟩
 keep:=λi h h' st k=>k it (by simp) _ st
 item:=by intro X hP hw hK hc i R1 s σ H E I hf st hg;subst hP hw hK;obtain⟨f0,f1,f2,f3,f4,f5⟩:=hf it (by simp);have W:=Walks.range (prog:=X.prog) (w:=X.w) (I.ok.hd hc) it lo 1 n;refine W.item i s _ _ hg st λv h' tk hv st' kk=>?_;obtain⟨t,rfl⟩:=hv;have I1:aT X R1 σ H {s with heap:=h',toks:=tk}:=I.turned (λb o hb e=>kk b o (by simpa using hb) e) f0 f1 f3 f4 f5;refine⟨_,rfl,vL (s:={s with heap:=h',toks:=tk}) (n:="range_iterator") st' rfl rfl (by decide) ⟨.int (lo+i),H,I1,⟨t,?_⟩,⟨rfl,rfl⟩,st',λb hb=>(hf b hb).1⟩⟩;rw[Int.mul_one]
 done:=by intro X hP hw hK hc i R1 s σ H E I hf st hg;subst hP hw hK;obtain⟨f0,f1,f2,f3,f4,f5⟩:=hf it (by simp);exact wpAny_pyNext_range_end (I.ok.hd hc) st (by have:n<=i:=hg;omega) λh' eb=>⟨rfl,I.turned (t':=s.toks) (λb o hb e=>eb b o hb e) f0 f1 f3 f4 f5⟩
 self:=λ_ _ _ _ _ st h=>wpAny_pyIter_rangeiter st h
section
def iS(K:Frag)(tl:TE):TI:=λσ H R=>tl σ H λx H1=>∃a,x=.ref a/\(∃xs,aV K H1 a xs)/\R (Km K a) H1
def LU(K:Frag)(tl:TE):TI:=λσ H R=>tl σ H λx H1=>∃a,x=.ref a/\(∃xs,dU K H1 a xs)/\R (Qp K a) H1
def EM(hl:PE X l tl):PI X tg l (iS X.K tl):=by
 intro R1 s σ H R I h;refine cK (hl R1 s σ H _ I h) λv s1 ⟨x,H1,I1,r1,q1⟩=>?_;obtain⟨a,e,⟨xs,hq⟩,q⟩:=q1;subst e;cases r1;obtain⟨its,rv,p,hz⟩:=I1.list hq;refine Tn p.isList ?_;refine⟨s1.heap.objs.size,[s1.heap.objs.size],_,_,H1,rfl,I1.kept λb o e=>Sj _ e,zV a _,⟨_,Sm _ rfl,rfl,rfl⟩,λb hb=>?_,q⟩;have e:b=s1.heap.objs.size:=by simpa using hb
 subst e;exact I1.fpOk (Yd _) (I1.hok.fresh (Yd _))
def Lc(hl:PE X l tl):PI X tg l (LU X.K tl):=by
 intro R1 s σ H R I h;refine cK (hl R1 s σ H _ I h) λv s1 ⟨x,H1,I1,r1,q1⟩=>?_;obtain⟨a,e,⟨xs,hq⟩,q⟩:=q1;subst e;cases r1;obtain⟨its,rv,p,hz⟩:=I1.tuple hq;refine wpAny_pyIter_tuple (show s1.heap.IsTuple a its.toArray from p) ?_;refine⟨s1.heap.objs.size,[s1.heap.objs.size],_,_,H1,rfl,I1.kept λb o e=>Sj _ e,wx a _,⟨_,Sm _ rfl,rfl,rfl⟩,λb hb=>?_,q⟩;have e:b=s1.heap.objs.size:=by simpa using hb
 subst e;exact I1.fpOk (Yd _) (I1.hok.fresh (Yd _))
def B9{R1:Sh}{σ:St}{H:Hp}{s:So}{R:It->Hp->Prop}{E:Sg}{lo hi:Int}{t u v:Tok}{tk:Nat}(I:aT X R1 σ H s)(h1: -(2 ^ 62)<=lo)(h2:lo<2 ^ 62)(h3: -(2 ^ 62)<=hi)(h4:hi<2 ^ 62)(q:R (MO lo (hi - lo).toNat) H):Sn (Su X.prog X.w) X.A (pyIter (.ref s.heap.objs.size)) (RN X R1 σ tg R) E {s with heap:=s.heap.push {cls:=.type "range",data:=.fields #[.int lo t,.int hi u,.int 1 v]},toks:=tk}:=by
 refine wpAny_pyIter_range (IsRange.new ..) (small_one h1 h2 h3 h4) ?_;have I1:aT X R1 σ H {s with heap:=s.heap.push {cls:=.type "range",data:=.fields #[.int lo t,.int hi u,.int 1 v]},toks:=tk}:=I.kept λb o e=>Sj _ e;refine⟨(s.heap.push {cls:=.type "range",data:=.fields #[.int lo t,.int hi u,.int 1 v]}).objs.size,[(s.heap.push {cls:=.type "range",data:=.fields #[.int lo t,.int hi u,.int 1 v]}).objs.size],_,_,H,rfl,
  I1.kept (t':=tk) λb o e=>Sj _ e,wz _ lo (hi - lo).toNat,?_,λb hb=>?_,q⟩
 .have e1:lo+((0:Nat):Int)*1=lo:=by simp
  have e2:(((hi - lo).toNat:Nat):Int) - ((0:Nat):Int)=Builtin.Range.rangeSize lo hi 1:=by rw[rangeSize_one];split<;>omega
  show IsRangeIter _ _ (lo+((0:Nat):Int)*1) ((((hi - lo).toNat:Nat):Int) - ((0:Nat):Int)) 1;rw[e1,e2];exact Sm _ rfl
 .have e:b=(s.heap.push {cls:=.type "range",data:=.fields #[.int lo t,.int hi u,.int 1 v]}).objs.size:=by simpa using hb
  subst e;exact I1.fpOk (Yd _) (I1.hok.fresh (Yd _))
def pJ(ta:TA):TI:=λσ H R=>ta σ H λvs H1=>∃j:Int,vs=[.int j]/\-(2 ^ 62)<=j/\j<2 ^ 62/\R (MO 0 j.toNat) H1
def Ar(hg:Gl X "range")(hm:X.mg "range"=none)(ha:PA X [a] ta)(hs:Sv [a] X.env=[(false,Tj a X.env)]:=by rfl):PI X tg (.Call (.Name "range" p) [a] [] pos) (pJ ta):=by
 intro R1 s σ H R I h;refine Call_ (lE I hg hm boot_range (PyProof.Rows.callWith_type1 (cK (ha pos R1 s σ H _ I h) λus s1 ⟨vs,H1,I1,r1,q1⟩=>?_) hs rfl));obtain⟨j,e,q1,q2,q⟩:=q1;subst e;cases r1 with
 |cons r rr=>
  cases rr;obtain⟨t,rfl⟩:=r;exact call_range_1 (B9 I1 (by omega) (by omega) q1 q2 (by simpa using q))
def tFor(wi:TI)(g:TG)(tb:TS):TS:=λD σ H=>wi σ H λJ H1=>∃W:Nat->Nat->St->Hp->Prop,(∃m,W 0 m σ H1)/\∀i m σ H,W i m σ H->
 (J.stop i H/\D.nx σ H)\/(J.go i H/\∃N:St->Hp->Prop,(∀σ' H',N σ' H'->∃m',m'<m/\W (i+1) m' σ' H')/\∀x H',J.yld i H x H'->g x σ H' λσ2 H2=>tb {D with nx:=N,ct:=N,bk:=D.nx} σ2 H2)
def jD(fp:List Z1)(h:SD):List (Z1×Obj):=fp.filterMap λb=>(h.get? b).map λo=>(b,o)
def iD(hb:b∈fp)(e:h.get? b=some o):(b,o)∈jD fp h:=WM.mpr ⟨b,hb,by rw[e];rfl⟩
def qQ(hp:p∈jD fp h):p.1∈fp/\h.get? p.1=some p.2:=by
 obtain⟨b,hb,e⟩:=WM.mp hp;cases q:h.get? b with
 |none=>rw[q]at e;cases e
 |some o=>
  rw[q]at e;have e':=Sd e;subst e';exact⟨hb,q⟩
def aT.pinned{R1:Sh}{σ:St}{H:Hp}{s:So}{fp:List Z1}(I:aT X R1 σ H s)(hf:∀b∈fp,j5 X R1 H b)(ho:∀b∈fp,∃o,s.heap.get? b=some o/\∀v,o.data≠.cell v):aT X (R1++jD fp s.heap) σ H s:=
 I.pins_of λp hp=>(WF.mp hp).elim (λz=>I.pin p (WL _ z)) λz=>by obtain⟨hb,e⟩:=qQ z;obtain⟨f0,f1,f2,_⟩:=hf p.1 hb;obtain⟨o,e',d⟩:=ho p.1 hb;rw[e]at e';cases e';exact⟨e,f0,f1,f2,d⟩
def aT.unpinned{R1 pl:Sh}{σ:St}{H:Hp}{s:So}(I:aT X (R1++pl) σ H s):aT X R1 σ H s:=I.pins_of λp hp=>I.pin p (WL _ (Xm _ hp))
def iC(hp:PassesOwn (Su X.prog X.w) X.A X.env X.xe)(hc:X.calm=true)(hi:PI X tg iter wi)(hg:PG X tg g)(hb:rH X body tb)(hs:∀x,T0 iter X.env x=pure x:=by intro _;rfl):PS X (.For tg iter body [] pos) (tFor wi g tb):=by
 intro R1 s σ H D I h;refine wpAny_For (cK (hi R1 s σ H _ I h) λv s1 h1=>cK h1 λitv s2 h2=>?_) hs;obtain⟨it,fp,tn,J,H2,e,I2,T,st2,f2,W,⟨m0,w0⟩,turn⟩:=h2;subst e;have stat:∀{H':Hp},(∀b∈fp,H' b=none)->∀b∈fp,j5 X R1 H' b:=λhn b hb=>⟨hn b hb,(f2 b hb).2⟩;refine codeAny_forLoop_any (λn s'=>∃i σ' H',aT X R1 σ' H' s'/\tn i s'.heap/\(∀b∈fp,H' b=none)/\W i n σ' H') ?_ m0 ⟨0,σ,H2,I2,st2,λb hb=>(f2 b hb).1,w0⟩;rintro n s3 ⟨i,σ3,H3,I3,st3,fr3,w3⟩
 rcases turn i n σ3 H3 w3 with⟨stop,qn⟩|⟨go,N,hN,step⟩
 .refine Tc hp (cK (T.done X rfl rfl rfl hc i R1 s3 σ3 H3 X.xe I3 (stat fr3) st3 stop) λr s4 ⟨hr,I4⟩=>?_);subst hr;exact UB ⟨σ3,H3,I4,qn⟩
 .refine Tc hp (cK (T.item X rfl rfl rfl hc i R1 s3 σ3 H3 X.xe I3 (stat fr3) st3 go) λr s4 ⟨u,hr,h4⟩=>?_);subst hr;refine Tc hp (cK h4 λ_ s5 ⟨x,H5,I5,r5,y5,st5,fr5⟩=>?_);have I5':=I5.pinned (stat fr5) (T.obj _ _ st5);refine Tc hp (cK (hg _ s5 σ3 H5 x u _ I5' r5 (step x H5 y5)) λ_ s6 ⟨σ6,H6,I6,q6⟩=>?_);refine Tc hp (cK (hb _ s6 σ6 H6 _ I6 q6) λf s7 q7=>?_);have again:∀{σ7:St}{H7:Hp},aT X (R1++jD fp s5.heap) σ7 H7 s7->N σ7 H7->∃m,m<n/\∃i σ' H',aT X R1 σ' H' s7/\tn i s7.heap/\(∀b∈fp,H' b=none)/\W i m σ' H':=λ{σ7 H7} I7 n7=>by obtain⟨m',hm,w7⟩:=hN σ7 H7 n7;refine⟨m',hm,i+1,σ7,H7,I7.unpinned,T.keep _ _ _ st5 λb hb o e=>(I7.pin (b,o) (WL _ (WL _ (iD hb e)))).1,λb hb=>?_,w7⟩;obtain⟨o,e,d⟩:=T.obj _ _ st5 b hb;exact(I7.pin (b,o) (WL _ (WL _ (iD hb e)))).2.1
  cases f with
  |next=>obtain⟨σ7,H7,I7,n7⟩:=q7;exact again I7 n7
  |cont=>obtain⟨σ7,H7,I7,n7⟩:=q7;exact again I7 n7
  |brk=>obtain⟨σ7,H7,I7,q7⟩:=q7;exact⟨σ7,H7,I7.unpinned,q7⟩
  |ret v=>obtain⟨x7,σ7,H7,I7,r7,q7⟩:=q7;exact⟨x7,σ7,H7,I7.unpinned,r7,q7⟩
end
def Dn{K:Frag}{a:Z1}{xs:List V}{g:TG}{tb:TS}{D:j6}{σ:St}{H:Hp}(Pv:Nat->St->Hp->Prop)(h0:Pv 0 σ H)(hl:∀i σ H,i<=xs.length->Pv i σ H->aV K H a xs)(hs:∀i x σ H,xs[i]? =some x->Pv i σ H->g x σ H λσ2 H2=>tb {D with nx:=Pv (i+1),ct:=Pv (i+1),bk:=D.nx} σ2 H2)(hd:∀σ H,Pv xs.length σ H->D.nx σ H):∃W:Nat->Nat->St->Hp->Prop,(∃m,W 0 m σ H)/\∀i m σ H,W i m σ H->((Km K a).stop i H/\D.nx σ H)\/((Km K a).go i H/\∃N:St->Hp->Prop,(∀σ' H',N σ' H'->∃m',m'<m/\W (i+1) m' σ' H')/\∀x H',(Km K a).yld i H x H'->g x σ H' λσ2 H2=>tb {D with nx:=N,ct:=N,bk:=D.nx} σ2 H2):=by
 refine⟨λi m σ H=>m=xs.length - i/\i<=xs.length/\Pv i σ H,⟨xs.length,by simp,Yh _,h0⟩,?_⟩;rintro i m σ H ⟨rfl,hi,p⟩;have q:=hl i σ H hi p
 by_cases hlt:i<xs.length
 .refine .inr ⟨⟨xs,xs[i],q,by simp[hlt]⟩,Pv (i+1),λσ' H' p'=>⟨xs.length - (i+1),by omega,rfl,hlt,p'⟩,λx H' y=>?_⟩;obtain⟨e,y⟩:=y;subst e;exact hs i x σ _ (y xs q) p
 .have e:i=xs.length:=by omega
  subst e;exact .inl ⟨⟨xs,q,Yd _⟩,hd σ H p⟩
def Fn{K:Frag}{a:Z1}{xs:List V}{g:TG}{tb:TS}{D:j6}{σ:St}{H:Hp}(Pv:Nat->St->Hp->Prop)(h0:Pv 0 σ H)(hl:∀i σ H,i<=xs.length->Pv i σ H->dU K H a xs)(hs:∀i x σ H,xs[i]? =some x->Pv i σ H->g x σ H λσ2 H2=>tb {D with nx:=Pv (i+1),ct:=Pv (i+1),bk:=D.nx} σ2 H2)(hd:∀σ H,Pv xs.length σ H->D.nx σ H):∃W:Nat->Nat->St->Hp->Prop,(∃m,W 0 m σ H)/\∀i m σ H,W i m σ H->((Qp K a).stop i H/\D.nx σ H)\/((Qp K a).go i H/\∃N:St->Hp->Prop,(∀σ' H',N σ' H'->∃m',m'<m/\W (i+1) m' σ' H')/\∀x H',(Qp K a).yld i H x H'->g x σ H' λσ2 H2=>tb {D with nx:=N,ct:=N,bk:=D.nx} σ2 H2):=by
 refine⟨λi m σ H=>m=xs.length - i/\i<=xs.length/\Pv i σ H,⟨xs.length,by simp,Yh _,h0⟩,?_⟩;rintro i m σ H ⟨rfl,hi,p⟩;have q:=hl i σ H hi p
 by_cases hlt:i<xs.length
 .refine .inr ⟨⟨xs,xs[i],q,by simp[hlt]⟩,Pv (i+1),λσ' H' p'=>⟨xs.length - (i+1),by omega,rfl,hlt,p'⟩,λx H' y=>?_⟩;obtain⟨e,y⟩:=y;subst e;exact hs i x σ _ (y xs q) p
 .have e:i=xs.length:=by omega
  subst e;exact .inl ⟨⟨xs,q,Yd _⟩,hd σ H p⟩
def rc{lo:Int}{n:Nat}{g:TG}{tb:TS}{D:j6}{σ:St}{H:Hp}(Pv:Nat->St->Hp->Prop)(h0:Pv 0 σ H)(hs:∀i σ H,i<n->Pv i σ H->g (.int (lo+i)) σ H λσ2 H2=>tb {D with nx:=Pv (i+1),ct:=Pv (i+1),bk:=D.nx} σ2 H2)(hd:∀σ H,Pv n σ H->D.nx σ H):∃W:Nat->Nat->St->Hp->Prop,(∃m,W 0 m σ H)/\∀i m σ H,W i m σ H->((MO lo n).stop i H/\D.nx σ H)\/((MO lo n).go i H/\∃N:St->Hp->Prop,(∀σ' H',N σ' H'->∃m',m'<m/\W (i+1) m' σ' H')/\∀x H',(MO lo n).yld i H x H'->g x σ H' λσ2 H2=>tb {D with nx:=N,ct:=N,bk:=D.nx} σ2 H2):=by
 refine⟨λi m σ H=>m=n - i/\i<=n/\Pv i σ H,⟨n,by simp,Yh _,h0⟩,?_⟩;rintro i m σ H ⟨rfl,hi,p⟩
 by_cases hlt:i<n
 .refine .inr ⟨hlt,Pv (i+1),λσ' H' p'=>⟨n - (i+1),by omega,rfl,hlt,p'⟩,λx H' y=>?_⟩;obtain⟨e,y⟩:=y;subst e y;exact hs i σ _ hlt p
 .have e:i=n:=by omega
  subst e;exact .inl ⟨Yd _,hd σ H p⟩
abbrev R2:=V->V->Hp->VK->Prop
def kS(X:Cx)(f:Z0->Z0->Sem Z0)(r:R2):Prop:=
 ∀(R1:Sh)(s:So)(σ:St)(H:Hp)(x y:V)(v u:Z0)(Q:VK),aT X R1 σ H s->bz x v->bz y u->r x y H Q->
  Sn (Su X.prog X.w) X.A (f v u) (EP X R1 σ Q) X.xe s
def RL(X:Cx)(f:Z0->Sem Z0)(r:V->Hp->VK->Prop):Prop:=
 ∀(R1:Sh)(s:So)(σ:St)(H:Hp)(x:V)(v:Z0)(Q:VK),aT X R1 σ H s->bz x v->r x H Q->
  Sn (Su X.prog X.w) X.A (f v) (EP X R1 σ Q) X.xe s
def bQ(X:Cx)(f:Z0)(r:List V->Hp->VK->Prop):Prop:=
 ∀(R1:Sh)(s:So)(σ:St)(H:Hp)(xs:List V)(us:List Z0)(Q:VK),aT X R1 σ H s->bZ xs us->r xs H Q->
  Sn (Su X.prog X.w) X.A (call f us) (EP X R1 σ Q) X.xe s
def KC(r:R2)(ta tb:TE):TE:=λσ H Q=>ta σ H λx H1=>tb σ H1 λy H2=>r x y H2 Q
def rI(C:Int->Int->Prop)(g:Int->Int->V):R2:=λx y H Q=>∃i j,x=.int i/\y=.int j/\C i j/\Q (g i j) H
def J4(g:Int->Int->V):R2:=λx y H Q=>∃i j,x=.int i/\y=.int j/\Q (g i j) H
def rU(g:Int->V):V->Hp->VK->Prop:=λx H Q=>∃i,x=.int i/\Q (g i) H
section
def Mm(ha:PE X a ta)(hb:PE X b tb){R1:Sh}{s:So}{σ:St}{H:Hp}{R:V->V->Hp->Prop}(I:aT X R1 σ H s)(h:ta σ H λx H1=>tb σ H1 λy H2=>R x y H2){Q:Sg}{f:Z0->Z0->Sem Z0}(hf:∀v u s2 x y H2,aT X R1 σ H2 s2->bz x v->bz y u->R x y H2->Sn (Su X.prog X.w) X.A (f v u) Q X.xe s2):Sn (Su X.prog X.w) X.A (Tj a X.env) (λv s₁=>Sn (Su X.prog X.w) X.A (Tj b X.env) (λu s₂=>Sn (Su X.prog X.w) X.A (f v u) Q X.xe s₂) X.xe s₁) X.xe s:=by refine cK (ha R1 s σ H _ I h) λv s1 ⟨x,H1,I1,r1,q1⟩=>?_;refine cK (hb R1 s1 σ H1 _ I1 q1) λu s2 ⟨y,H2,I2,r2,q2⟩=>?_;exact hf v u s2 x y H2 I2 r1 r2 q2
def J6(ho:kS X (Uc op) r)(ha:PE X a ta)(hb:PE X b tb):PE X (.BinOp a op b pos) (KC r ta tb):=by intro R1 s σ H Q I h;exact wpAny_BinOp (Mm ha hb I h λv u s2 x y H2 I2 rx ry q=>ho R1 s2 σ H2 x y v u Q I2 rx ry q)
def Qw{f:Z0->Z0->Sem Z0}{C:Int->Int->Prop}{g:Int->Int->Int}(rule:∀i j t u s Q E,C i j->Q (.int (g i j) s.toks) {s with toks:=s.toks+1}->Sn (Su X.prog X.w) X.A (f (.int i t) (.int j u)) Q E s):kS X f (rI C λi j=>.int (g i j)):=by intro R1 s σ H x y v u Q I rx ry h;obtain⟨i,j,rfl,rfl,hc,q⟩:=h;obtain⟨t,rfl⟩:=rx;obtain⟨t',rfl⟩:=ry;exact rule i j t t' s _ _ hc ⟨.int (g i j),H,I.tok _,⟨_,rfl⟩,q⟩
def Po{f:Z0->Z0->Sem Z0}{g:Int->Int->Int}(rule:∀i j t u s Q E,Q (.int (g i j) s.toks) {s with toks:=s.toks+1}->Sn (Su X.prog X.w) X.A (f (.int i t) (.int j u)) Q E s):kS X f (J4 λi j=>.int (g i j)):=by intro R1 s σ H x y v u Q I rx ry h;obtain⟨i,j,rfl,rfl,q⟩:=h;obtain⟨t,rfl⟩:=rx;obtain⟨t',rfl⟩:=ry;exact rule i j t t' s _ _ ⟨.int (g i j),H,I.tok _,⟨_,rfl⟩,q⟩
def E2{f:Z0->Z0->Sem Z0}{g:Int->Int->Bool}(rule:∀i j t u s Q E,Q (.bool (g i j)) s->Sn (Su X.prog X.w) X.A (f (.int i t) (.int j u)) Q E s):kS X f (J4 λi j=>.bl (g i j)):=by intro R1 s σ H x y v u Q I rx ry h;obtain⟨i,j,rfl,rfl,q⟩:=h;obtain⟨t,rfl⟩:=rx;obtain⟨t',rfl⟩:=ry;exact rule i j t t' s _ _ ⟨.bl (g i j),H,I,rfl,q⟩
def FR(i j:Int):Prop:=0<j/\j<1073741824
def MG(i j:Int):Prop:=0<=j/\j<=1000000/\i.natAbs<2 ^ 64
def Bl(i j:Int):Prop:=(-(2 ^ 64)<i/\i<2 ^ 64)\/(-(2 ^ 64)<j/\j<2 ^ 64)
def Bl.ok(h:Bl i j):IntMulOk i j:=by
 rcases h with⟨h1,h2⟩|⟨h1,h2⟩
 .exact .of_left (intBits_le_64 h1 h2)
 .exact .of_right (intBits_le_64 h1 h2)
def Lq:kS X (Uc .Add) (J4 λi j=>.int (i+j)):=Po λ_ _ _ _ _ _ _ q=>add_int q
def Lh:kS X (Uc .Sub) (J4 λi j=>.int (i - j)):=Po λ_ _ _ _ _ _ _ q=>sub_int q
def Lk:kS X (Uc .Mult) (rI Bl λi j=>.int (i*j)):=Qw λ_ _ _ _ _ _ _ hc q=>mul_int q hc.ok
def E1:kS X (Uc .FloorDiv) (rI FR λi j=>.int (i / j)):=Qw λi j _ _ _ _ _ hc q=>by have h1:(0:Int)<j:=hc.1;have h2:j<1073741824:=hc.2;exact floordiv_int (by omega) (by rw[Int.fdiv_eq_ediv_of_nonneg i (by omega)];exact q) (.inl (PyProof.noPylong_small (by omega)))
def Ll:kS X (Uc .Mod) (rI (λ_ j=>0<j) λi j=>.int (i % j)):=Qw λi j _ _ _ _ _ hc q=>by exact mod_int' (by omega) (by rw[Int.fmod_eq_emod_of_nonneg i (by omega)];exact q)
def Li:kS X (Uc .Pow) (rI MG λi j=>.int (i ^ j.toNat)):=Qw λ_ _ _ _ _ _ _ hc q=>pow_int_small hc.1 hc.2.1 hc.2.2 q
def unI{f:Z0->Sem Z0}{g:Int->Int}(rule:∀i t s Q E,Q (.int (g i) s.toks) {s with toks:=s.toks+1}->Sn (Su X.prog X.w) X.A (f (.int i t)) Q E s):RL X f (rU λi=>.int (g i)):=by intro R1 s σ H x v Q I rx h;obtain⟨i,rfl,q⟩:=h;obtain⟨t,rfl⟩:=rx;exact rule i t s _ _ ⟨.int (g i),H,I.tok _,⟨_,rfl⟩,q⟩
def Ky:RL X (unaryOp .USub) (rU λi=>.int (-i)):=unI λ_ _ _ _ _ q=>neg_int q
end
def scal:V->V->Bool
 | .non,.non=>true| .non,.int _=>true| .int _,.non=>true| .non,.bl _=>true| .bl _,.non=>true| .non,.str _=>true| .str _,.non=>true
 | .int _,.int _=>true| .bl _,.bl _=>true| .str _,.str _=>true| .byt _,.byt _=>true
 | .int _,.str _=>true| .str _,.int _=>true| .bl _,.str _=>true| .str _,.bl _=>true
 |_,_=>false
def rEq:R2:=λx y H Q=>scal x y=true/\Q (.bl (decide (x=y))) H
def rNe:R2:=λx y H Q=>scal x y=true/\Q (.bl (!decide (x=y))) H
def zA:decide (V.int i=V.int j)=(i == j):=by rw[YF];simp
def dec_bl:decide (V.bl i=V.bl j)=(i == j):=by rw[YF];simp
def zz:decide (V.str i=V.str j)=(i == j):=by rw[YF];simp
def zB:decide (V.byt i=V.byt j)=(i.toList == j.toList):=by rw[YF];cases i;cases j;simp
section
def fin_bl{R1:Sh}{σ:St}{H:Hp}{s:So}{Q:VK}{k k':Bool}(I:aT X R1 σ H s)(q:Q (.bl k) H)(e:k=k'):EP X R1 σ Q (.bool k') s:=by subst e;exact⟨.bl k,H,I,rfl,q⟩
def Pn:kS X (Tg .Eq) rEq:=by
 intro R1 s σ H x y v u Q I rx ry h;obtain⟨hs,q⟩:=h;cases x with
 |non=>
  cases rx;cases y with
  |non=>cases ry;exact PySem.EqNone.eq_none_none (fin_bl I q (by simp))
  |bl j=>cases ry;exact PySem.EqNone.eq_none_bool (fin_bl I q (by simp))
  |int j=>obtain⟨t',rfl⟩:=ry;exact PySem.EqNone.eq_none_int (fin_bl I q (by simp))
  |str j=>obtain⟨t',rfl⟩:=ry;exact PySem.EqNone.eq_none_str (fin_bl I q (by simp))
  |_=>exact Sc (show false=true from hs) YD
 |bl i=>
  cases rx;cases y with
  |non=>cases ry;exact PySem.EqNone.eq_bool_none (fin_bl I q (by simp))
  |bl j=>cases ry;exact eq_bool (fin_bl I q dec_bl)
  |str j=>obtain⟨t',rfl⟩:=ry;exact PySem.EqMixed.eq_bool_str (fin_bl I q (by simp))
  |_=>exact Sc (show false=true from hs) YD
 |int i=>
  obtain⟨t,rfl⟩:=rx;cases y with
  |non=>cases ry;exact PySem.EqNone.eq_int_none (fin_bl I q (by simp))
  |int j=>obtain⟨t',rfl⟩:=ry;exact eq_int (fin_bl I q zA)
  |str j=>obtain⟨t',rfl⟩:=ry;exact PySem.EqMixed.eq_int_str (fin_bl I q (by simp))
  |_=>exact Sc (show false=true from hs) YD
 |str i=>
  obtain⟨t,rfl⟩:=rx;cases y with
  |non=>cases ry;exact PySem.EqNone.eq_str_none (fin_bl I q (by simp))
  |bl j=>cases ry;exact PySem.EqMixed.eq_str_bool (fin_bl I q (by simp))
  |int j=>obtain⟨t',rfl⟩:=ry;exact PySem.EqMixed.eq_str_int (fin_bl I q (by simp))
  |str j=>obtain⟨t',rfl⟩:=ry;exact eq_str (fin_bl I q zz)
  |_=>exact Sc (show false=true from hs) YD
 |byt i=>
  obtain⟨t,rfl⟩:=rx;cases y with
  |byt j=>obtain⟨t',rfl⟩:=ry;exact PySem.W.eq_bytes (fin_bl I q zB)
  |_=>exact Sc (show false=true from hs) YD
 |_=>cases y<;>exact Sc (show false=true from hs) YD
def Pi:kS X (Tg .NotEq) rNe:=by
 intro R1 s σ H x y v u Q I rx ry h;obtain⟨hs,q⟩:=h;cases x with
 |non=>
  cases rx;cases y with
  |non=>cases ry;exact PySem.EqNone.ne_none_none (fin_bl I q (by simp))
  |bl j=>cases ry;exact PySem.EqNone.ne_none_bool (fin_bl I q (by simp))
  |int j=>obtain⟨t',rfl⟩:=ry;exact PySem.EqNone.ne_none_int (fin_bl I q (by simp))
  |str j=>obtain⟨t',rfl⟩:=ry;exact PySem.EqNone.ne_none_str (fin_bl I q (by simp))
  |_=>exact Sc (show false=true from hs) YD
 |bl i=>
  cases rx;cases y with
  |non=>cases ry;exact PySem.EqNone.ne_bool_none (fin_bl I q (by simp))
  |bl j=>cases ry;exact ne_bool (fin_bl I q (Se not dec_bl))
  |str j=>obtain⟨t',rfl⟩:=ry;exact PySem.EqMixed.ne_bool_str (fin_bl I q (by simp))
  |_=>exact Sc (show false=true from hs) YD
 |int i=>
  obtain⟨t,rfl⟩:=rx;cases y with
  |non=>cases ry;exact PySem.EqNone.ne_int_none (fin_bl I q (by simp))
  |int j=>obtain⟨t',rfl⟩:=ry;exact ne_int (fin_bl I q (Se not zA))
  |str j=>obtain⟨t',rfl⟩:=ry;exact PySem.EqMixed.ne_int_str (fin_bl I q (by simp))
  |_=>exact Sc (show false=true from hs) YD
 |str i=>
  obtain⟨t,rfl⟩:=rx;cases y with
  |non=>cases ry;exact PySem.EqNone.ne_str_none (fin_bl I q (by simp))
  |bl j=>cases ry;exact PySem.EqMixed.ne_str_bool (fin_bl I q (by simp))
  |int j=>obtain⟨t',rfl⟩:=ry;exact PySem.EqMixed.ne_str_int (fin_bl I q (by simp))
  |str j=>obtain⟨t',rfl⟩:=ry;exact ne_str (fin_bl I q (Se not zz))
  |_=>exact Sc (show false=true from hs) YD
 |byt i=>
  obtain⟨t,rfl⟩:=rx;cases y with
  |byt j=>obtain⟨t',rfl⟩:=ry;exact PySem.W.ne_bytes (fin_bl I q (Se not zB))
  |_=>exact Sc (show false=true from hs) YD
 |_=>cases y<;>exact Sc (show false=true from hs) YD
def Pj:kS X (Tg .Lt) (J4 λi j=>.bl (decide (i<j))):=E2 λ_ _ _ _ _ _ _ q=>lt_int q
def Pk:kS X (Tg .LtE) (J4 λi j=>.bl (decide (i<=j))):=E2 λ_ _ _ _ _ _ _ q=>le_int q
def Pl:kS X (Tg .Gt) (J4 λi j=>.bl (decide (j<i))):=E2 λ_ _ _ _ _ _ _ q=>gt_int q
def Pm:kS X (Tg .GtE) (J4 λi j=>.bl (decide (j<=i))):=E2 λ_ _ _ _ _ _ _ q=>ge_int q
def Au:kS X (Tg .Lt) (λx y H Q=>∃i j,x=.str i/\y=.str j/\Q (.bl (decide (i.cps.toList<j.cps.toList))) H):=by intro R1 s σ H x y v u Q I rx ry h;obtain⟨i,j,rfl,rfl,q⟩:=h;obtain⟨t,rfl⟩:=rx;obtain⟨t',rfl⟩:=ry;exact lt_str (fin_bl I q rfl)
def Ax:kS X (Tg .In) (λx y H Q=>∃i j,x=.str i/\y=.str j/\Q (.bl (!(SV j i 0 j.length 1).isEmpty)) H):=by intro R1 s σ H x y v u Q I rx ry h;obtain⟨i,j,rfl,rfl,q⟩:=h;obtain⟨t,rfl⟩:=rx;obtain⟨t',rfl⟩:=ry;exact in_str (fin_bl I q rfl)
def Lm:kS X (Tg .Is) (λx y H Q=>y=.non/\Q (.bl (decide (x=.non))) H):=by
 intro R1 s σ H x y v u Q I rx ry h;obtain⟨rfl,q⟩:=h;cases ry;refine is_none_gen (fin_bl I q ?_);cases x<;>first
  |(cases rx;rfl)
  |(obtain⟨t,rfl⟩:=rx;rfl)
def EY:kS X (Tg .IsNot) (λx y H Q=>y=.non/\Q (.bl (!decide (x=.non))) H):=by
 intro R1 s σ H x y v u Q I rx ry h;obtain⟨rfl,q⟩:=h;cases ry;refine isnot_none_gen (fin_bl I q ?_);cases x<;>first
  |(cases rx;rfl)
  |(obtain⟨t,rfl⟩:=rx;rfl)
def sS:kS X (Tg .NotIn) (λx y H Q=>∃i j,x=.str i/\y=.str j/\Q (.bl (!(!(SV j i 0 j.length 1).isEmpty))) H):=by intro R1 s σ H x y v u Q I rx ry h;obtain⟨i,j,rfl,rfl,q⟩:=h;obtain⟨t,rfl⟩:=rx;obtain⟨t',rfl⟩:=ry;exact notIn_str (fin_bl I q rfl)
def tL(b:S8)(h:op≠.In:=by decide)(h2:op≠.NotIn:=by decide):behindInMarks op b=false:=by
 have e1:(op == CmpOp.In)=false:=by cases op<;>first|rfl|exact Sc rfl h
 have e2:(op == CmpOp.NotIn)=false:=by cases op<;>first|rfl|exact Sc rfl h2
 cases b<;>simp[behindInMarks,e1,e2]
def ET(ho:kS X (Tg op) r)(ha:PE X a ta)(hb:PE X b tb)(hm:behindInMarks op b=false):PE X (.Compare a [op] [b] pos) (KC r ta tb):=by intro R1 s σ H Q I h;exact wpAny_Compare1 (Mm ha hb I h λv u s2 x y H2 I2 rx ry q=>ho R1 s2 σ H2 x y v u Q I2 rx ry q) hm
def mZ:(h9:Nat)<2 ^ 63:=by rw[Sw];decide
def wU:kS X (Uc .Add) (λx y H Q=>∃i j,x=.str i/\y=.str j/\i.length+j.length<=h9/\Q (.str (i++j)) H):=by intro R1 s σ H x y v u Q I rx ry h;obtain⟨i,j,rfl,rfl,hz,q⟩:=h;obtain⟨t,rfl⟩:=rx;obtain⟨t',rfl⟩:=ry;exact add_str (λt' tk=>⟨.str (i++j),H,I.tok _,⟨_,rfl⟩,q⟩) hz
def eZ(r:bZ [x] us):∃u,us=[u]/\bz x u:=by
 cases r with
 |cons r1 r2=>cases r2;exact⟨_,rfl,r1⟩
def x8(r:bZ [x,y] us):∃u w',us=[u,w']/\bz x u/\bz y w':=by
 cases r with
 |cons r1 r2=>
  cases r2 with
  |cons r3 r4=>cases r4;exact⟨_,_,rfl,r1,r3⟩
def A7(hc:X.calm=true):bQ X (.builtin "max") (λxs H Q=>∃i j,xs=[.int i,.int j]/\Q (.int (if j > i then j else i)) H):=by
 intro R1 s σ H xs us Q I r h;obtain⟨i,j,rfl,q⟩:=h;obtain⟨u,w',rfl,⟨t,rfl⟩,⟨t',rfl⟩⟩:=x8 r;refine max_two_ints (I.ok.hd hc) λh' tk k=>⟨_,H,I.kept k,?_,q⟩
 by_cases hj:j > i
 .rw[R9 hj,R9 hj];exact⟨_,rfl⟩
 .rw[R8 hj,R8 hj];exact⟨_,rfl⟩
def A5(hc:X.calm=true):bQ X (.builtin "min") (λxs H Q=>∃i j,xs=[.int i,.int j]/\Q (.int (if j<i then j else i)) H):=by
 intro R1 s σ H xs us Q I r h;obtain⟨i,j,rfl,q⟩:=h;obtain⟨u,w',rfl,⟨t,rfl⟩,⟨t',rfl⟩⟩:=x8 r;refine min_two_ints (I.ok.hd hc) λh' tk k=>⟨_,H,I.kept k,?_,q⟩
 by_cases hj:j<i
 .rw[R9 hj,R9 hj];exact⟨_,rfl⟩
 .rw[R8 hj,R8 hj];exact⟨_,rfl⟩
def A9:bQ X (.type "int") (λxs H Q=>(∃i,xs=[.int i]/\Q (.int i) H)\/∃k,xs=[.bl k]/\Q (.int (if k then 1 else 0)) H):=by
 intro R1 s σ H xs us Q I r h
 rcases h with⟨i,rfl,q⟩|⟨k,rfl,q⟩
 .obtain⟨u,rfl,t,rfl⟩:=eZ r;exact call_int_int ⟨.int i,H,I,⟨_,rfl⟩,q⟩
 .obtain⟨u,rfl,r1⟩:=eZ r;cases r1;exact call_int_bool ⟨.int (if k then 1 else 0),H,I.tok _,⟨_,rfl⟩,q⟩
def uh:bQ X (.type "str") (λxs H Q=>∃i,xs=[.int i]/\i.natAbs.log2<1920/\Q (.str (toString i)) H):=by intro R1 s σ H xs us Q I r h;obtain⟨i,rfl,hz,q⟩:=h;obtain⟨u,rfl,t,rfl⟩:=eZ r;exact PySem.P.str_of_int hz ⟨.str _,H,I.tok _,⟨_,rfl⟩,q⟩
end
structure Bi(h:SD)(x dx C:Z1)(mA:Sf):Prop where
 obj:h.get? x=some (Zq C dx)
 ns:h.Ns1 dx mA
 ne:dx≠x
def qU{h:SD}{mA:Sf}(n:h.Ns1 dx mA):∃od,h.get? dx=some od/\∀name,ZG name od=some (mA name):=by
 obtain⟨o,es,ep,ho,hd,hk,_,hm⟩:=n;refine⟨o,ho,λname=>?_⟩;have e:=hm name;unfold nsFind findBy at e;rw[<-Y2]at e;unfold ZG;rw[hd];dsimp only;split
 .rename_i y q;rw[q]at e;exact Se some e
 .rename_i q;rw[q]at e;have a:es.toList.any (·.refKey)=false:=by rw[Xz];intro y hy;obtain⟨z,t,hkey⟩:=hk y (Array.mem_toList_iff.mp hy);simp[DictEntry.refKey,hkey]
  have a':¬es.toList.any (·.refKey)=true:=by rw[a];exact YD
  rw[R8 a'];exact Se some e
def Bi.look(I:Bi h x dx C mA):∃od,PySem.W.InstAt h x (Zq C dx) C (some od)/\∀name,ZG name od=some (mA name):=
 let ⟨od,ho,hl⟩:=qU I.ns
 ⟨od,⟨I.obj,rfl,rfl,ho⟩,hl⟩
section
variable{prog:Ss}{w:World}{A:S5}{E:Sg}{s:So}{K:Frag}{x dx C f:Z1}{mA:Sf}{name:Str}{v:Z0}
def Fj(X:K.In s.heap)(I:Bi s.heap x dx C mA)(hg:Zv K C name=true)(hh:Zr K C=true)(ha:Zg K (.ref C) name=some none)(hv:mA name=some v)(hv':ZK v=true)(h:Q v {s with toks:=s.toks+1}):Sn (Su prog w) A (getAttr (.ref x) name expr) Q E s:=by obtain⟨od,J,hl⟩:=I.look;exact PySem.W.get_value X J (PySem.W.plainGet_of hg).1 (ZL hh ha rfl (by rw[hl,hv])) hv' h
def Et(X:K.In s.heap)(I:Bi s.heap x dx C mA)(hs:Zg K (.ref C) "__setattr__"=some (some (.builtin "object.__setattr__")))(hp:Zy K C=true)(ht:ZH K C name=some none)(hh:Zr K C=true)(hw:PySem.Within mA ns)(hsz:ns.length<=h9)(h:∀h',Bi h' x dx C (λy=>if y=name then some v else mA y)->Td dx s.heap h'->Q () {s with heap:=h',toks:=s.toks+2}):Sn (Su prog w) A (setAttr (.ref x) name v) Q E s:=by obtain⟨od,J,hl⟩:=I.look;refine PySem.W.set_plain X J hs (PySem.W.osa_open X J hp ht λb=>?_);obtain⟨cd,hc,hd'⟩:=PySem.W.any_some hh;have hx:=I.obj;refine Si (Sk (Si (Si (Vy hx (Si (PySem.W.Looks.here (PySem.W.looks_clsIn X hc) ?_))))));rw[hd'];refine Sk (Si (Sk (Si ?_)));refine wpAny_nsSet1 I.ns λh' hn2 hs2=>?_;obtain⟨oD,esD,epD,hoD,hdD,hcD⟩:=hn2.count (PySem.Within.cons name v hw);refine Si (wpAny_lookBehind hoD (by rw[hdD];exact pastItsLine_dict (Ye hcD (by rw[Wx];omega))) ?_);exact Sk (h _ ⟨(hs2.2 _ (Ne.symm I.ne)).trans I.obj,hn2,I.ne⟩ hs2)
def CS(X:K.In s.heap)(hm:Zz K C=true)(hi:Zg K (.ref C) "__init__"=some (some (.ref f)))(hf:PySem.W.typeIn K (.ref f)=some (.type "function"))(h:TN (Su prog w) (A.under (.builtin "type.__call__" ⟨.ref C::vs,kw⟩)) (.call (.ref f) ⟨.ref (s.heap.objs.size+1)::vs,kw⟩) (PySem.W.InitBack (s.heap.objs.size+1) R)
   {s with heap:=(s.heap.push Zo).push (Zq C s.heap.objs.size)}):TN (Su prog w) A (.call (.ref C) ⟨vs,kw⟩) R s:=by
 obtain⟨hh,g,d,t,os⟩:=s;exact PySem.W.make_core (PySem.W.makes_of X hm) (PySem.W.looks_findIn X hi) (λself=>PySem.W.bind_fn X self hf) (.inl rfl) h
end
def putF(f:Str)(v:V):List (Str×V)->List (Str×V)
 | []=>[(f,v)]
 |(g,x)::r=>if g=f then(g,v)::r else(g,x)::putF f v r
theorem aK(f g:Str)(v:V):∀fs:List (Str×V),(putF f v fs).lookup g=if g=f then some v else fs.lookup g
 | []=>by
   show List.lookup g [(f,v)]=_
   by_cases h:g=f
   .have hb:(g == f)=true:=beq_iff_eq.mpr h;simp only[List.lookup,hb,R9 h]
   .have hb:(g == f)=false:=beq_eq_false_iff_ne.mpr h;simp only[List.lookup,hb,R8 h]
 |(k,x)::r=>by
  have ih:=aK f g v r;rw[show putF f v ((k,x)::r)=(if k=f then(k,v)::r else(k,x)::putF f v r)from rfl]
  by_cases hk:k=f
  .rw[R9 hk]
   by_cases h:g=k
   .have hb:=beq_iff_eq.mpr h;simp only[List.lookup,hb,R9 (h.trans hk)]
   .have hb:=beq_eq_false_iff_ne.mpr h;simp only[List.lookup,hb,R8 (λe:g=f=>h (e.trans hk.symm))]
  .rw[R8 hk]
   by_cases h:g=k
   .have hb:=beq_iff_eq.mpr h;simp only[List.lookup,hb,R8 (λe:g=f=>hk (h.symm.trans e))]
   .have hb:=beq_eq_false_iff_ne.mpr h;simp only[List.lookup,hb];exact ih
theorem m8(f:Str)(v:V):∀fs:List (Str×V),f∈(putF f v fs).map (·.1)/\∀g,g∈fs.map (·.1)->g∈(putF f v fs).map (·.1)
 | []=>⟨by simp[putF],λg h=>by simp at h⟩
 |(k,x)::r=>by
  obtain⟨i1,i2⟩:=m8 f v r;rw[show putF f v ((k,x)::r)=(if k=f then(k,v)::r else(k,x)::putF f v r)from rfl]
  by_cases hk:k=f
  .rw[R9 hk];subst hk;exact⟨by simp,λg h=>by simpa using h⟩
  .rw[R8 hk];refine⟨?_,λg h=>?_⟩
   .rw[WI];exact Wy _ i1
   .rw[WI]at h ⊢
    rcases Wn.mp h with e|e
    .exact Wn.mpr (.inl e)
    .exact Wy _ (i2 g e)
theorem df(f:Str)(v:V):∀fs:List (Str×V),(putF f v fs).length<=fs.length+1
 | []=>by simp[putF]
 |(k,x)::r=>by
  have ih:=df f v r;rw[show putF f v ((k,x)::r)=(if k=f then(k,v)::r else(k,x)::putF f v r)from rfl]
  by_cases hk:k=f
  .rw[R9 hk,Wx,Wx];omega
  .rw[R8 hk,Wx,Wx];omega
def j4.some_of(r:j4 (some v) o):∃u,o=some u/\bz v u:=by
 cases o with
 |none=>exact(show False from r).elim
 |some u=>exact⟨u,rfl,r⟩
def qZ(r:bz v u):ZK u=true:=by
 cases v with
 |non=>cases(show u=SC from r);rfl
 |bl b=>cases(show u=VV b from r);rfl
 |int i=>obtain⟨t,e⟩:=(show∃t,u=UO i t from r);cases e;rfl
 |str x=>obtain⟨t,e⟩:=(show∃t,u=Uk x t from r);cases e;rfl
 |byt b=>obtain⟨t,e⟩:=(show∃t,u=Value.bytes b t from r);cases e;rfl
 |flt b=>obtain⟨t,e⟩:=(show∃t,u=Value.float b t from r);cases e;rfl
 |ref a=>cases(show u=Sx a from r);rfl
 |ty n=>cases(show u=UV n from r);rfl
 |tok x t=>cases(show u=Uk x t from r);rfl
section
def tT(hok:kT P w H h)(e:H a=some (.ins C dx fs)):∃mA,Bi h a dx C mA/\(∀f,j4 (fs.lookup f) (mA f))/\PySem.Within mA (fs.map (·.1))/\fs.length<=1000/\H dx=some (.own a):=by obtain⟨d,z,ne,ob,mA,n,r,q⟩:=(show cb P w H h a (.ins C dx fs)from hok a _ e);exact⟨mA,⟨ob,n,ne⟩,r,q,z,d⟩
end
structure x5(K:Frag)(C:Z1):Prop where
 pg:Zv K C Tx=true
 hd:Zr K C=true
 po:Zy K C=true
 sa:Zg K (.ref C) "__setattr__"=some (some (.builtin "object.__setattr__"))
def x5.get{K:Frag}{C:Z1}(c:x5 K C)(f:Str):Zv K C f=true:=c.pg
def dG(K:Frag)(C:Z1)(f:Str):Prop:=Zg K (.ref C) f=some none
def dG.taker{K:Frag}{C:Z1}{f:Str}(n:dG K C f):ZH K C f=some none:=by unfold ZH;rw[show Zg K (.ref C) f=some none from n];rfl
section
variable{X:Cx}{R1:Sh}{σ:St}{H:Hp}{s:So}{a C dx:Z1}{fs:List (Str×V)}{f:Str}{v:V}{A:S5}{E:Sg}
def xt(I:aT X R1 σ H s)(e:H a=some (.ins C dx fs))(c:x5 X.K C)(n:dG X.K C f)(l:fs.lookup f=some v)(h:∀u s',aT X R1 σ H s'->bz v u->Q u s'):Sn (Su X.prog X.w) A (getAttr (.ref a) f b) Q E s:=by obtain⟨mA,O,r,_,_,_⟩:=tT I.hok e;obtain⟨u,hu,ru⟩:=j4.some_of (by rw[<-l];exact r f);exact Fj I.kIn O (c.get f) c.hd n hu (qZ ru) (h u _ (I.tok _) ru)
def wH(I:aT X R1 σ H s)(e:H a=some (.ins C dx fs))(c:x5 X.K C)(n:dG X.K C f)(hl:fs.length<1000)(ry:bz y u)(h:∀s',aT X R1 σ (upd H a (.ins C dx (putF f y fs))) s'->Q () s'):Sn (Su X.prog X.w) A (setAttr (.ref a) f u) Q E s:=by
 obtain⟨mA,O,r,wi,_,ho⟩:=tT I.hok e;have hz:(fs.map (·.1)).length<=h9:=by rw[Wm,Sw];omega
 refine Et I.kIn O c.sa c.po n.taker c.hd wi hz λh' O' sb=>h _ ?_;have hd:∃o,h'.get? dx=some o:=let ⟨o,_,_,e',_⟩:=O'.ns;⟨o,e'⟩;refine I.write (x:=a) (e:=dx) (by rw[e];exact True.intro) (.inr ho) (λb q hb z=>(sb.2 b hb).trans z) hd ?_;refine⟨by rw[av O.ne];exact ho,?_,O.ne,O'.obj,_,O'.ns,λg=>?_,λg hg=>?_⟩
 .have:=df f y fs;omega
 .show j4 ((putF f y fs).lookup g) (if g=f then some u else mA g);rw[aK]
  by_cases q:g=f
  .rw[R9 q,R9 q];exact ry
  .rw[R8 q,R8 q];exact r g
 .by_cases q:g=f
  .rw[q];exact(m8 f y fs).1
  .refine(m8 f y fs).2 g (wi g λz=>hg ?_);show(if g=f then some u else mA g)=none;rw[R8 q];exact z
def aT.made(I:aT X R1 σ H s):aT X R1 σ (upd (upd H s.heap.objs.size (.own (s.heap.objs.size+1))) (s.heap.objs.size+1) (.ins C s.heap.objs.size [])) {s with heap:=(s.heap.push Zo).push (Zq C s.heap.objs.size)}:=by
 have e1:(s.heap.push Zo).get? s.heap.objs.size=some Zo:=Sm s.heap rfl;have e2:((s.heap.push Zo).push (Zq C s.heap.objs.size)).get? (s.heap.objs.size+1)=some (Zq C s.heap.objs.size):=by
  have:=Sm (s.heap.push Zo) (o:=Zq C s.heap.objs.size) rfl
  rwa[SR]at this
 have e3:(s.heap.push Zo).Ns s.heap.objs.size (λ_=>none):=⟨Zo,#[],_,e1,rfl,(λe he=>Sc he (by simp)),λ_=>rfl⟩;have I1:=I.laid (a:=s.heap.objs.size) (o:=.own (s.heap.objs.size+1)) (h':=s.heap.push Zo) (t':=s.toks) (λb u q=>Sj _ q) (Yd _) ⟨_,e1⟩;refine I1.laid (a:=s.heap.objs.size+1) (o:=.ins C s.heap.objs.size []) (t':=s.toks) (λb u q=>Sj _ q) (Ym (SR _ _)) ?_;have ne:s.heap.objs.size≠s.heap.objs.size+1:=Yg (Yr _);refine⟨by rw[av ne,aj],Yh _,ne,e2,λ_=>none,(Heap.Ns1.of_empty e3).at λo q=>Sj _ q,λ_=>True.intro,λy hy=>Sc rfl hy⟩
def zJ(hb:TD e f env (Tj e env)=Tj e env)(h:Sn (Su prog w) A (Tj e env) (λo s₁=>Sn (Su prog w) A (getAttr o f true) Q E s₁) E s):Sn (Su prog w) A (Tj (.Attribute e f pos) env) Q E s:=
 Attribute_any_ h (by rw[arm_eval_Attribute,hb])
end
def Ah(K:Frag)(ta tv:TE)(f:Str):TS:=λD σ H=>tv σ H λy H1=>ta σ H1 λx H2=>∃a C dx fs,x=.ref a/\H2 a=some (.ins C dx fs)/\x5 K C/\dG K C f/\fs.length<1000/\
 D.nx σ (upd H2 a (.ins C dx (putF f y fs)))
section
def Lb(ha:PE X o ta)(hv:PE X value tv)(hs:Uh value (some (.Attribute o f pos')) pos.line X.env=pure false):PS X (.Assign [.Attribute o f pos'] value pos) (Ah X.K ta tv f):=by intro R1 s σ H D I h;refine Ut (cK (hv R1 s σ H _ I h) λu s1 ⟨y,H1,I1,ry,q⟩=>cK (ha R1 s1 σ H1 _ I1 q) λov s2 ⟨x,H2,I2,rx,a,C,dx,fs,ex,ea,c,n,l,q2⟩=>?_) hs;subst ex;obtain rfl:ov=Sx a:=rx;exact wH I2 ea c n l ry λs3 I3=>⟨σ,_,I3,q2⟩
end
section
variable{X:Cx}{R1:Sh}{σ:St}{H:Hp}{s:So}{A:S5}{E:Sg}{Q:Sg}{c:Z0}{b:Bool}
inductive nv(K:Frag)(H:Hp):V->Z0->Prop where
 |non:nv K H .non (.type "NoneType")
 |bl (x:Bool):nv K H (.bl x) (.type "bool")
 |int (i:Int):nv K H (.int i) (.type "int")
 |str (x:Str):nv K H (.str x) (.type "str")
 |flt (x:UInt64):nv K H (.flt x) (.type "float")
 |lst {a:Z1} {xs:List V} (e:H a=some (.lst xs)):nv K H (.ref a) (.type "list")
 |frz {a:Z1} {o:Obj} {xs:List V} (e:H a=some (.frz o (.lst xs))):nv K H (.ref a) (.type "list")
 |tup {a:Z1} {xs:List V} (e:H a=some (.tup xs)):nv K H (.ref a) (.type "tuple")
 |dK {a:Z1} {kvs:List (Key×V)} (e:H a=some (.dK kvs)):nv K H (.ref a) (.type "dict")
 |dT {a:Z1} {kvs:List (List Key×V)} (e:H a=some (.dT kvs)):nv K H (.ref a) (.type "dict")
 |ins {a C dx:Z1} {fs:List (Str×V)} (e:H a=some (.ins C dx fs)) (cl:x5 K C) (ha:Zg K (.ref C) "__class__"=some (some (.builtin "object.__class__")))
   (hn:ZA K (.builtin "object.__class__") "__get__"=some (some (.builtin "getset_descriptor.__get__"))) (htk:ZM K (.builtin "object.__class__")=some true)
   (hm:Zm K C (.type "object")=some true):nv K H (.ref a) (.ref C)
def AJ(I:aT X R1 σ H s)(rx:bz x u)(ty:nv X.K H x t)(e:Zf X.K t c=some b)(h:∀tk,Q (.bool b) {s with toks:=tk}):Sn (Su X.prog X.w) A (call (.builtin "isinstance") [u,c]) Q E s:=by
 cases ty with
 |non=>cases(show u=SC from rx);exact Zi PySem.W.kitx_none I.kIn True.intro e (λz=>nomatch z) h
 |bl y=>cases(show u=VV y from rx);exact Zi PySem.W.kitx_bool I.kIn True.intro e (λz=>nomatch z) h
 |int i=>obtain⟨t,q⟩:=(show∃t,u=UO i t from rx);cases q;exact Zi PySem.W.kitx_int I.kIn True.intro e (λz=>nomatch z) h
 |str y=>obtain⟨t,q⟩:=(show∃t,u=Uk y t from rx);cases q;exact Zi PySem.W.kitx_str I.kIn True.intro e (λz=>nomatch z) h
 |flt y=>obtain⟨t,q⟩:=(show∃t,u=Value.float y t from rx);cases q;exact Zi PySem.W.kitx_float I.kIn True.intro e (λz=>nomatch z) h
 | @lst a xs ea=>
   cases(show u=Sx a from rx);obtain⟨_,_,n,_,h1⟩:=(show cb X.prog X.w H s.heap a (.lst xs)from I.hok a _ ea);exact Zi ZN I.kIn ⟨_,h1,rfl⟩ e (λz=>nomatch z) h
 | @frz a ob xs ea=>
   cases(show u=Sx a from rx);obtain⟨_,_,_,n,_,h1⟩:=(show cb X.prog X.w H s.heap a (.frz ob (.lst xs))from I.hok a _ ea);exact Zi ZN I.kIn ⟨_,h1,rfl⟩ e (λz=>nomatch z) h
 | @tup a xs ea=>
   cases(show u=Sx a from rx);obtain⟨_,_,_,p⟩:=(show cb X.prog X.w H s.heap a (.tup xs)from I.hok a _ ea);obtain⟨o,h1,h2,_⟩:=p;exact Zi PySem.W.kitx_tuple I.kIn ⟨o,h1,h2⟩ e (λz=>nomatch z) h
 | @dK a kvs ea=>
   cases(show u=Sx a from rx);obtain⟨_,_,vs,_,p⟩:=(show cb X.prog X.w H s.heap a (.dK kvs)from I.hok a _ ea);obtain⟨o,es,ep,h1,h2,_⟩:=p;exact Zi ZO I.kIn ⟨o,h1,h2.1⟩ e (λz=>nomatch z) h
 | @dT a kvs ea=>
   cases(show u=Sx a from rx);obtain⟨_,_,xs,_,o,es,ep,h1,h2,_⟩:=(show cb X.prog X.w H s.heap a (.dT kvs)from I.hok a _ ea);exact Zi ZO I.kIn ⟨o,h1,h2.1⟩ e (λz=>nomatch z) h
 | @ins a C dx fs ea cl ha hn htk hm=>
   cases(show u=Sx a from rx);obtain⟨mA,O,_⟩:=tT I.hok ea;obtain⟨od,J,_⟩:=O.look;exact Zi (PySem.W.kitx_own (cl.get _) cl.hd ha hn htk hm) I.kIn J e (λz=>nomatch z) h
end
structure eG(k:Nat)(A:S5):Prop where
 hd:A.handled=none
 dp:A.depth+3*k+5<UT
 un:A.units+16*k+200<Tz
def eG.mono(r:eG k A)(h:j<=k):eG j A:=⟨r.hd,by have:=r.dp;omega,by have:=r.un;omega⟩
theorem eG.deeper(r:eG (k+1) A)(env:Wd):eG k (A.deeper env):=
 ⟨r.hd,by have:=r.dp;show A.depth+1+3*k+5<_;omega,by have:=r.un;show A.units+3+16*k+200<_;omega⟩
def xk{A:S5}{C:Z1}{us:List Z0}{kw:List (Str×Z0)}:(A.under (.builtin "type.__call__" ⟨.ref C::us,kw⟩)).depth=A.depth+1:=by
 first|rfl|simp[V7,Code.weight,Code.isCreation,Code.isGuard,Code.isCaller,Code.frames,V6,guardIds]
def xj{A:S5}{C:Z1}{us:List Z0}{kw:List (Str×Z0)}:(A.under (.builtin "type.__call__" ⟨.ref C::us,kw⟩)).units=A.units+1:=by
 first|rfl|simp[V7,Code.cUnits,Code.frames,V6]
def eG.make(r:eG (k+1) A)(C:Z1)(us:List Z0)(kw:List (Str×Z0)):eG k (A.under (.builtin "type.__call__" ⟨.ref C::us,kw⟩)):=
 ⟨r.hd,by have:=r.dp;rw[xk];omega,by have:=r.un;rw[xj];omega⟩
theorem eG.depth(r:eG k A):A.depth<UT:=by have:=r.dp;omega
theorem eG.units(r:eG k A):A.units+64<Tz:=by have:=r.un;omega
def cw:TA:=λ_ H Q=>Q [] H
def bg(ta:TE)(tr:TA):TA:=λσ H Q=>ta σ H λx H1=>tr σ H1 λxs H2=>Q (x::xs) H2
section
def pan:PA X [] cw:=λ_ _ _ _ H Q I h=>Calls.spliced_nil ⟨[],H,I,.nil,h⟩
def pa_cons(ha:PE X e te)(hr:PA X es t)(hs:Sv (e::es) X.env=(false,Tj e X.env)::Sv es X.env:=by rfl):PA X (e::es) (bg te t):=by intro pos R1 s σ H Q I h;rw[hs];refine Calls.spliced_cons (cK (ha R1 s σ H _ I h) λu s1 ⟨x,H1,I1,r1,q1⟩=>?_);exact cK (hr pos R1 s1 σ H1 _ I1 q1) λus s2 ⟨xs,H2,I2,r2,q2⟩=>⟨x::xs,H2,I2,.cons r1 r2,q2⟩
def zX(t:TA):TE:=λσ H Q=>t σ H λxs H1=>xs.length<=h9/\∀p,H1 p=none->Q (.ref p) (upd H1 p (.tup xs))
def rR(t:TA):TE:=λσ H Q=>t σ H λxs H1=>xs.length<=h9/\∀p,H1 p=none->Q (.ref p) (upd H1 p (.lst xs))
def eM{x1}(h:PA X es t):PE X (.Tuple es x1 pos) (zX t):=by intro R1 s σ H Q I hq;refine wpAny_Tuple_spliced (cK (h pos R1 s σ H _ I hq) λus s1 ⟨xs,H1,I1,r,z,q⟩=>⟨by rw[<-r.length];exact z,?_⟩);have hf:=I1.hok.fresh (Yd _);refine⟨.ref s1.heap.objs.size,upd H1 s1.heap.objs.size (.tup xs),I1.laid (λb u e=>Sj _ e) (Yd _) ?_,rfl,q _ hf⟩;exact⟨z,us,r,⟨_,Sm _ rfl,rfl,_,rfl⟩⟩
def bG(h:PA X es t):PE X (.List es pos) (rR t):=by intro R1 s σ H Q I hq;refine wpAny_List_spliced (cK (h pos R1 s σ H _ I hq) λus s1 ⟨xs,H1,I1,r,z,q⟩=>⟨by rw[<-r.length];exact z,?_⟩);have hf:=I1.hok.fresh (Yd _);refine⟨.ref s1.heap.objs.size,upd H1 s1.heap.objs.size (.lst xs),I1.laid (λb u e=>Sj _ e) (Yd _) ?_,rfl,q _ hf⟩;exact⟨z,us,0,r,Sm _ rfl⟩
end
abbrev Sp:=List V->Hp->VK->XK->Prop
abbrev zN:=List Wd->Hp->So->XK->Z0->So->Prop
structure ux(P:Ss)(w:World)(K:Frag)(mg:Sf)(R4:SD)(A:S5)(R5:List Wd)(s:So)(H:Hp):Prop where
 frames:A.frames=some R5
 mod:Mod K mg R4
 bs:∀b o,R4.get? b=some o->s.heap.get? b=some o/\H b=none
 bsz:R4.objs.size<=s.heap.objs.size
 funs:s.heap.FunFrames R4 R5
 frf:∀b∈iI R5,H b=none
 hok:kT P w H s.heap
 bare:Ux s.gens
def CE(R5:List Wd)(P:Ss)(w:World)(H:Hp)(s:So)(Q:VK)(u:Z0)(s':So):Prop:=
 ∃v H',s'.os=s.os/\Ux s'.gens/\Un (iI R5) [] H H' s.heap s'.heap/\kT P w H' s'.heap/\bz v u/\Q v H'
def CR(CX:zN)(R5:List Wd)(P:Ss)(w:World)(H:Hp)(s:So)(Q:VK)(E:XK)(r:Result)(s':So):Prop:=
 match r with
 | .ok (.ret u)=>CE R5 P w H s Q u s'
 | .ok _=>False
 | .error e=>CX R5 H s E e s'
structure bM(P:Ss)(w:World)(K:Frag)(mg:Sf)(R4:SD)(CX:zN)(k:Nat)(f:Z1)(fd:SU)(ps:List Str)(sp:Sp):Prop where
 len:∀vs H Q E,sp vs H Q E->vs.length=ps.length
 run:∀A R5 s H args us vs Q E,eG k A->ux P w K mg R4 A R5 s H->VJ s fd args (ps.zip us)->bZ vs us->sp vs H Q E->
  TN (Su P w) A (.call (.ref f) args) (CR CX R5 P w H s Q E) s
def bM.imp{P:Ss}{w:World}{K:Frag}{mg:Sf}{R4:SD}{CX:zN}{k:Nat}{f:Z1}{fd:SU}{ps:List Str}{sp sp':Sp}(F:bM P w K mg R4 CX k f fd ps sp)(h:∀vs H Q E,sp' vs H Q E->sp vs H Q E):bM P w K mg R4 CX k f fd ps sp':=
 ⟨λvs H Q E q=>F.len vs H Q E (h _ _ _ _ q),λA R5 s H args us vs Q E hr he hb hv hs=>F.run A R5 s H args us vs Q E hr he hb hv (h _ _ _ _ hs)⟩
def ux.make{P:Ss}{w:World}{K:Frag}{mg:Sf}{R4:SD}{A:S5}{R5:List Wd}{s:So}{H:Hp}(e:ux P w K mg R4 A R5 s H)(C:Z1)(us:List Z0)(kw:List (Str×Z0)):ux P w K mg R4 (A.under (.builtin "type.__call__" ⟨.ref C::us,kw⟩)) R5 s H:=⟨by first|exact e.frames|(simpa[V7,Code.envs,V6,pushEnvs]using e.frames),e.mod,e.bs,e.bsz,e.funs,e.frf,e.hok,e.bare⟩
section
variable{X:Cx}{R1:Sh}{σ:St}{H:Hp}{s s':So}
def aT.env0(I:aT X R1 σ H s):ux X.prog X.w X.K X.mg X.R4 X.A X.stack s H:=
 ⟨I.ok.frames,I.ok.mod,I.bs,Ye I.ok.bsz I.sz,I.stack,I.stkFree,I.hok,I.bare⟩
def aT.after(I:aT X R1 σ H s)(h:CE X.stack X.prog X.w H s Q u s'):EP X R1 σ Q u s':=by obtain⟨v,H',os,bare,un,hok,r,q⟩:=h;obtain⟨hh,g,d,t,os'⟩:=s';obtain rfl:os'=s.os:=os;exact⟨v,H',I.call un hok bare (λb z=>Sc z (by simp)),r,q⟩
end
def BM(sp:Sp)(dvs:List V)(E:XK)(t:TA):TE:=λσ H Q=>t σ H λvs H1=>sp (vs++dvs) H1 Q E
def j1(K:Frag)(fd:SU)(ps:List Str)(ds:List Z0):Prop:=
 ∀s us,K.In s.heap->(us++ds).length=ps.length->VJ s fd ⟨us,[]⟩ (ps.zip (us++ds))
def j1.all{K:Frag}{fd:SU}{ps:List Str}(h:∀us:List Z0,us.length=ps.length->bindArgs fd ⟨us,[]⟩=pure (ps.zip us)):j1 K fd ps []:=λs us _ hl=>by rw[WN]at hl ⊢;exact .of_eq (h us hl)
def xX(CX:zN)(X:Cx)(E:XK):Prop:= ∀(R1:Sh)(σ:St)(H:Hp)(s:So)(e:Z0)(s':So),aT X R1 σ H s->CX X.stack H s E e s'->X.xe e s'
section
variable{X:Cx}{CX:zN}{k:Nat}{f C:Z1}{fd:SU}{ps:List Str}{sp:Sp}{dvs:List V}{ds:List Z0}{E:XK}{x m:Str}{p pos apos:VL}{e o:S8}{es:List S8}{t:TA}
def KQ{R1:Sh}{σ:St}{H:Hp}{s:So}{Q:VK}{us:List Z0}{vs:List V}(F:bM X.prog X.w X.K X.mg X.R4 CX k f fd ps sp)(hr:eG k X.A)(hb:j1 X.K fd ps ds)(hd:bZ dvs ds)(hx:xX CX X E)(I:aT X R1 σ H s)(r:bZ vs us)(h:sp (vs++dvs) H Q E):Sn (Su X.prog X.w) X.A (call (.ref f) us) (EP X R1 σ Q) X.xe s:=by
 have r2:=r.append hd;have hl:(us++ds).length=ps.length:=by rw[<-r2.length];exact F.len _ _ _ _ h
 refine Tr (S7 (F.run X.A X.stack s H ⟨us,[]⟩ (us++ds) (vs++dvs) Q E hr I.env0 (hb s us I.kIn hl) r2 h) λr s' hq=>?_);cases r with
 |error e=>exact hx R1 σ H s e s' I hq
 |ok fl=>
  cases fl with
  |ret u=>exact I.after hq
  |next=>exact False.elim hq
  |brk=>exact False.elim hq
  |cont=>exact False.elim hq
def EU(F:bM X.prog X.w X.K X.mg X.R4 CX k f fd ps sp)(hr:eG k X.A)(hg:Gl X x)(hm:X.mg x=some (.ref f))(hk:Zj X.K (.ref f)=true)(hb:j1 X.K fd ps ds)(hd:bZ dvs ds)(hx:xX CX X E)(ha:PA X (e::es) t)(hdb:(x == ("__debug__":Str))=false:=by decide)(he:Sv (e::es) X.env=(false,Tj e X.env)::Sv es X.env:=by rfl)(hpl:(Tl pos (Sv es X.env)).any (·.1)=false:=by rfl):PE X (.Call (.Name x p) (e::es) [] pos) (BM sp dvs E t):=by intro R1 s σ H Q I h;refine Te (ig I hg hm ?_ hdb);refine Zw I.ok.mod.kin hk (cK (ha pos R1 s σ H _ I h) λus s1 ⟨vs,H1,I1,r,q⟩=>⟨I1.kIn,?_⟩) he hpl;exact KQ F hr hb hd hx I1 r q
structure Mk(K:Frag)(C f:Z1):Prop where
 makes:Zz K C=true
 init:Zg K (.ref C) "__init__"=some (some (.ref f))
 fn:Zx K (.ref f)=true
 kp:Zj K (.ref C)=true
end
structure aN(N P:List Str)(sc:T8):Prop where
 kind:sc.kind=.function
 co:sc.isCoroutine=false
 gen:sc.isGenerator=false
 nd:N.Nodup
 pre:N.take P.length=P
 par:∀x∈P,sc.names.lookup x=some .local\/sc.names.lookup x=some .cell
 nofree:∀y∈sc.names,y.2≠.free
theorem rD{kindOf:Str->Option NameKind}{x:Str}:∀{binds:List (Str×Z0)}{m:Sf},(∀v,(x,v)∉binds)->bindL kindOf binds m x=m x
 | [],_,_=>rfl
 |(n,v)::r,m,h=>by
  unfold bindL;rw[rD λw hw=>h w (Wy _ hw)];split
  .have:x≠n:=by rintro rfl;exact h v Wv
   simp[this]
  .rfl
theorem rF{kindOf:Str->Option NameKind}{x:Str}:∀{binds:List (Str×Z0)}{m:Sf},(∀v,(x,v)∉binds)->bindC kindOf binds m x=m x
 | [],_,_=>rfl
 |(n,v)::r,m,h=>by
  unfold bindC;rw[rF λw hw=>h w (Wy _ hw)];split
  .rfl
  .have:x≠n:=by rintro rfl;exact h v Wv
   simp[this]
theorem rE{kindOf:Str->Option NameKind}{x:Str}{v:Z0}:∀{P:List Str}{vs:List Z0}{i:Nat}{m:Sf},P.Nodup->P[i]? =some x->vs[i]? =some v->kindOf x=some .local->bindL kindOf (P.zip vs) m x=some v
 | [],_,_,_,_,h,_,_=>by simp at h
 |_::_,[],_,_,_,_,h,_=>by simp at h
 |p::P,w::vs,0,m,nd,h1,h2,hk=>by simp at h1 h2;subst h1;subst h2;show bindL kindOf ((p,w)::P.zip vs) m p=_;unfold bindL;rw[rD λv hv=>(W2.mp nd).1 (Xo hv).1,R9 hk];simp
 |p::P,w::vs,i+1,m,nd,h1,h2,hk=>by unfold bindL;exact rE (W2.mp nd).2 (by simpa using h1) (by simpa using h2) hk
theorem rG{kindOf:Str->Option NameKind}{x:Str}{v:Z0}:∀{P:List Str}{vs:List Z0}{i:Nat}{m:Sf},P.Nodup->P[i]? =some x->vs[i]? =some v->kindOf x≠some .local->bindC kindOf (P.zip vs) m x=some v
 | [],_,_,_,_,h,_,_=>by simp at h
 |_::_,[],_,_,_,_,h,_=>by simp at h
 |p::P,w::vs,0,m,nd,h1,h2,hk=>by simp at h1 h2;subst h1;subst h2;show bindC kindOf ((p,w)::P.zip vs) m p=_;unfold bindC;rw[rF λv hv=>(W2.mp nd).1 (Xo hv).1,R8 hk];simp
 |p::P,w::vs,i+1,m,nd,h1,h2,hk=>by unfold bindC;exact rG (W2.mp nd).2 (by simpa using h1) (by simpa using h2) hk
def iM(N:List Str)(vs:List V):St:=vs.map some++List.replicate (N.length - vs.length) none
def iZ(CX:zN)(P:Ss)(w:World)(K:Frag)(mg:Sf)(R4:SD)(N:List Str)(qual:Str)(scope:T8)(f:Z1)(cd:Z0)(A:S5)(R5:List Wd)(s:So)(H:Hp)(E:XK):Cx where
 prog:=P
 w:=w
 K:=K
 mg:=mg
 R4:=R4
 A:=A.deeper (SN qual scope s.heap.objs.size f cd)
 N:=N
 s₀:=s
 H₀:=H
 env:=SN qual scope s.heap.objs.size f cd
 R5:=R5
 stack:=SN qual scope s.heap.objs.size f cd::R5
 ex:=[]
 calm:=true
 fn:=λ_=>true
 pn:=[]
 xe:=λe s'=>Sn (Su P w) (A.deeper (SN qual scope s.heap.objs.size f cd)) (UI (SN qual scope s.heap.objs.size f cd) e) (λ_ s''=>CX R5 H s E e s'') (λe' s''=>CX R5 H s E e' s'') s'
def v5{sc:T8}{n:Nat}{x:Str}(h:sc.names.lookup x=some .cell):∃c,(Wb n sc.names []).lookup x=some c:=by have q:=ZI sc.names n [] (.inl h);exact Y8.mp q
def qY{CX:zN}{P:Ss}{w:World}{K:Frag}{mg:Sf}{R4:SD}{N ps:List Str}{qual:Str}{scope:T8}{f:Z1}{cd:Z0}{A:S5}{R5:List Wd}{s s1:So}{H:Hp}{E:XK}{us:List Z0}{vs:List V}(S:aN N ps scope)(hd:A.handled=none)(e0:ux P w K mg R4 A R5 s H)(hl:vs.length=ps.length)(r:bZ vs us)(x:InCallC s s.heap.objs.size (bindL (SN qual scope s.heap.objs.size f cd).kindOf (ps.zip us) λ_=>none) (Wb (s.heap.objs.size+1) scope.names []) (bindC (SN qual scope s.heap.objs.size f cd).kindOf (ps.zip us) λ_=>none) s1):aT (iZ CX P w K mg R4 N qual scope f cd A R5 s H E) [] (iM N vs) H s1:=by
 have hpl:ps.length<=N.length:=by have:=Se List.length S.pre;rw[WJ]at this;omega
 obtain⟨h1,tk,rfl,hk⟩:=x.done;have noA:∀b:Z1,b∉(iZ CX P w K mg R4 N qual scope f cd A R5 s H E).ex:=λb z=>Sc (show b∈([]:List Z1)from z) (by simp);refine⟨⟨e0.mod,S.kind,rfl,rfl,Yd _,λy z c h1 h2=>?_,λy hy=>?_,λy c _ h=>?_,λ_=>hd,Around.frames_deeper e0.frames,.inr ⟨rfl,rfl⟩,λb z=>Sc z (noA b),e0.bs,e0.bsz,λb _ _=>noA b,λb z=>Sc z (noA b),e0.funs,e0.frf⟩,
  rfl,e0.bare,Un.kept hk,⟨_,x.toInCall.ns,λi y v h1 h2 h3=>?_⟩,λy c h=>⟨_,x.cell y c h⟩,e0.hok.fresh (Yd _),λy c h=>?_,λp hp=>Sc (show p∈([]:Sh)from hp) (by simp),e0.hok.kept hk,?_⟩
 .exact name_of_addr x.apart (PySem.mem_of_lookup h1) (PySem.mem_of_lookup h2)
 .have hy:scope.names.lookup y=some .cell\/scope.names.lookup y=some .free:=hy
  rcases hy with hy|hy
  .exact v5 hy
  .exact Sc rfl (S.nofree _ (PySem.mem_of_lookup hy))
 .exact Yq (x.above y c (PySem.mem_of_lookup h))
 .have hi:i<vs.length:=by
   unfold iM at h2
   by_cases hi:i<vs.length
   .exact hi
   .rw[Xb (by simpa using hi)]at h2;rw[XY]at h2;split at h2<;>cases h2
  have ha:vs[i]? =some v:=by
   unfold iM at h2;rw[W3 (by simpa using hi),Wr]at h2;cases e:vs[i]? with
   |none=>rw[e]at h2;cases h2
   |some a=>rw[e]at h2;cases h2;rfl
  obtain⟨u,hu,rv⟩:=r.get ha;have hp:ps[i]? =some y:=by rw[<-S.pre,List.getElem?_take_of_lt (by omega)];exact h1
  have ndP:ps.Nodup:=by rw[<-S.pre];exact S.nd.sublist (Xp _ _)
  refine⟨u,rv,?_⟩
  rcases S.par y (Ww hp)with k|k
  .exact .inl ⟨k,rE ndP hp hu k⟩
  .obtain⟨c,e⟩:=v5 (n:=s.heap.objs.size+1) k;refine .inr ⟨.inl k,c,e,?_⟩;have q:=x.cell y c e;rw[rG ndP hp hu (by show scope.names.lookup y≠_;rw[k];decide)]at q;exact q
 .exact e0.hok.fresh (Yq (x.above y c (PySem.mem_of_lookup h)))
 .unfold iM;show _=N.length;rw[Wq,Wm,List.length_replicate];omega
def Kd{CX:zN}{P:Ss}{w:World}{K:Frag}{mg:Sf}{R4:SD}{k:Nat}{f:Z1}{name qual:Str}{params:Arguments}{body:List SQ}{scope:T8}{dV kV doc pm cdv ct oc:Z0}{an od:Option Z1}{osl:Array (Option Z0)}{N ps:List Str}{sp:Sp}(lk:K.lookup f=some ⟨oc,od,.func (Zn name qual params body scope dV kV doc pm an cdv ct),osl⟩)(hcd:ZB K cdv qual=true)(S:aN N ps scope)(len:∀vs H Q E,sp vs H Q E->vs.length=ps.length)(hbody:∀A R5 s H vs Q E,eG k (A.deeper (SN qual scope s.heap.objs.size f cdv))->sp vs H Q E->
   ∃t,rH (iZ CX P w K mg R4 N qual scope f cdv A R5 s H E) body t/\t {nx:=λ_ H'=>Q .non H',rt:=Q} (iM N vs) H):bM P w K mg R4 CX (k+1) f (Zn name qual params body scope dV kV doc pm an cdv ct) ps sp:=by
 refine⟨len,λA R5 s H args us vs Q E hr e0 hb r hsp=>?_⟩;have hl:=len _ _ _ _ hsp;have KX:K.In s.heap:=e0.mod.kin.keeps λb o e=>(e0.bs b o e).1;have lim:s.heap.NoLimit:=e0.mod.nolimit.keeps λb o e=>(e0.bs b o e).1;have hkind:∀y∈ps.zip us,scope.names.lookup y.1=some .local\/(scope.names.lookup y.1=some .cell/\((Wb (s.heap.objs.size+1) scope.names []).lookup y.1).isSome=true):=λ⟨n,v⟩ hy=>by
  rcases S.par n (Xo hy).1 with q|q
  .exact .inl q
  .exact .inr ⟨q,ZI _ _ _ (.inl q)⟩
 refine Vu hr.depth (KX _ _ lk) rfl S.co S.gen rfl (ZP KX hcd) (hb _ _ _ _ ?_);refine UQ S.kind hkind λenv he s1 x=>?_;subst he;refine⟨lim.keeps x.toInCall.keep,codeAny_func ?_⟩;obtain⟨t,ht,hq⟩:=hbody A R5 s H vs Q E (hr.deeper _) hsp;have I:aT (iZ CX P w K mg R4 N qual scope f cdv A R5 s H E) [] (iM N vs) H s1:=qY S hr.hd e0 hl r x;refine SL (ht [] s1 (iM N vs) H _ I hq) (λfl s' hs=>?_) λe s' hs=>hs;have fin:∀{σ':St}{H':Hp}{v:V}{u:Z0},aT (iZ CX P w K mg R4 N qual scope f cdv A R5 s H E) [] σ' H' s'->bz v u->Q v H'->CE R5 P w H s Q u s':=
  λ{σ' H' v u} J rv q=>⟨v,H',J.os,J.bare,J.R4,J.hok,rv,q⟩
 cases fl with
 |ret u=>
  obtain⟨v,σ',H',J,rv,q⟩:=hs;exact fin J rv q
 |next=>
  obtain⟨σ',H',J,q⟩:=hs;exact fin (v:=V.non) (u:=SC) J rfl q
 |brk=>
  obtain⟨_,_,_,q⟩:=hs;exact False.elim q
 |cont=>
  obtain⟨_,_,_,q⟩:=hs;exact False.elim q
section
variable{X:Cx}{x:Str}{p pos:VL}{e:S8}{es:List S8}{t:TA}{id T:String}{r:List V->Hp->VK->Prop}
def tCB(r:List V->Hp->VK->Prop)(t:TA):TE:=λσ H Q=>t σ H λvs H1=>r vs H1 Q
def CG(hc:bQ X (.builtin id) r)(hg:Gl X x)(hm:X.mg x=none)(hv:Sy x=some (.builtin id))(ha:PA X (e::es) t)(hn:x≠"__name__":=by decide)(hdb:(x == ("__debug__":Str))=false:=by decide)(he:Sv (e::es) X.env=(false,Tj e X.env)::Sv es X.env:=by rfl)(hpl:(Tl pos (Sv es X.env)).any (·.1)=false:=by rfl):PE X (.Call (.Name x p) (e::es) [] pos) (tCB r t):=by intro R1 s σ H Q I h;refine Te (lE I hg hm hv ?_ hn hdb);exact PyProof.Rows.callWith_builtin1 (cK (ha pos R1 s σ H _ I h) λus s1 ⟨vs,H1,I1,r1,q1⟩=>hc R1 s1 σ H1 vs us Q I1 r1 q1) he hpl
def As(hc:bQ X (.type T) r)(hg:Gl X x)(hm:X.mg x=none)(hv:Sy x=some (.type T))(ha:PA X (e::es) t)(hn:x≠"__name__":=by decide)(hdb:(x == ("__debug__":Str))=false:=by decide)(he:Sv (e::es) X.env=(false,Tj e X.env)::Sv es X.env:=by rfl)(hpl:(Tl pos (Sv es X.env)).any (·.1)=false:=by rfl):PE X (.Call (.Name x p) (e::es) [] pos) (tCB r t):=by intro R1 s σ H Q I h;refine Te (lE I hg hm hv ?_ hn hdb);exact PyProof.Rows.callWith_type1 (cK (ha pos R1 s σ H _ I h) λus s1 ⟨vs,H1,I1,r1,q1⟩=>hc R1 s1 σ H1 vs us Q I1 r1 q1) he hpl
end
end L2
namespace HT
open PySem PyProof.Rows
section
def sIx(n d:Nat):Option Int->Nat
 |none=>d
 |some v=>if v<0 then(v+(n:Int)).toNat else min v.toNat n
def sIx_none(n d:Nat):sIx n d none=d:=rfl
def sIx_nat(n d k:Nat):sIx n d (some (k:Int))=min k n:=by show(if(k:Int)<0 then((k:Int)+(n:Int)).toNat else min (k:Int).toNat n)=min k n;rw[R8 (by omega),Yw]
def sIx_le(n d:Nat)(hd:d<=n)(o:Option Int):sIx n d o<=n:=by
 cases o with
 |none=>exact hd
 |some v=>
  show(if v<0 then(v+(n:Int)).toNat else min v.toNat n)<=n
  by_cases hv:v<0
  .rw[R9 hv];omega
  .rw[R8 hv];exact Nat.min_le_right _ _
def zE(v:Int)(n d:Nat):(if v<0 then max (v+(n:Int)) 0 else min v (n:Int))=((sIx n d (some v):Nat):Int):=by
 show(if v<0 then max (v+(n:Int)) 0 else min v (n:Int))=(((if v<0 then(v+(n:Int)).toNat else min v.toNat n):Nat):Int)
 by_cases hv:v<0
 .simp only[R9 hv];omega
 .simp only[R8 hv];omega
def xV(lo hi:Option Int)(n:Nat):T9 lo hi 1 (n:Int)=(((sIx n 0 lo:Nat):Int),((sIx n n hi:Nat):Int)):=by
 have h1:¬((1:Int)<0):=by omega
 unfold T9;simp only[h1,if_false];refine Prod.ext ?_ ?_
 .cases lo with
  |none=>rfl
  |some v=>exact zE v n 0
 .cases hi with
  |none=>rfl
  |some v=>exact zE v n n
def wP(i j:Nat):Tw (i:Int) (j:Int) 1=j - i:=by
 unfold Tw;have h1:(1:Int) > 0:=by omega
 simp only[h1,if_true,Int.ediv_one];split<;>omega
def oO(p:Va v o)(h:Q o s):Sn (Su prog w) A (Builtin.Slice.slicePartIndex v) Q E s:=by
 cases p with
 |none=>exact slicePart_none h
 |int i t=>exact slicePart_int h
def mQ{vl vu:Z0}{lo hi:Option Int}{n:Nat}{Q:Int×Int×Nat->So->Prop}(hs:s.heap.IsSliceOf sl vl vu .none)(pl:Va vl lo)(pu:Va vu hi)(h:Q (((sIx n 0 lo:Nat):Int),1,sIx n n hi - sIx n 0 lo) s):Sn (Su prog w) A (U0 (.ref sl) (pure (n:Int))) Q E s:=by
 obtain⟨os,hos,hcs,hds⟩:=id hs;unfold U0 Builtin.Slice.sliceFields;refine Si (Si (SH hos hds rfl (Si (SH hos hds rfl (Si (SH hos hds rfl (Sk ?_)))))));refine Si (slicePart_none ?_);rw[R8 (by decide)];refine Si (oO pl (Si (oO pu (Si (Sk ?_)))));show Sn _ _ (match T9 lo hi 1 (n:Int)with|(lo,hi)=>pure (lo,(1:Int),Tw lo hi 1)) _ _ s
 rw[xV lo hi n];show Sn _ _ (pure (((sIx n 0 lo:Nat):Int),(1:Int),Tw ((sIx n 0 lo:Nat):Int) ((sIx n n hi:Nat):Int) 1)) _ _ s;rw[wP];exact Sk h
def Cv(xs:Array Z0)(i k:Nat):((List.range k).filterMap λ(m:Nat)=>xs[((i:Int)+(m:Int)*1).toNat]?).toArray=((xs.toList.drop i).take k).toArray:=by
 have e:(λ(m:Nat)=>xs[((i:Int)+(m:Int)*1).toNat]?)=λm=>xs[i+m]? :=by
  funext m;have:((i:Int)+(m:Int)*1).toNat=i+m:=by omega
  rw[this]
 rw[e];have:=pick_run xs i k;rw[List.filterMap_map]at this;have e2:((λx=>xs[x]?)∘λx=>i+x)=λm=>xs[i+m]? :=rfl;rw[e2]at this;rw[this]
def getItem_tuple_cut{items:Array Z0}{vl vu:Z0}{lo hi:Option Int}{Q:Sg}(ht:IsTup s.heap t items)(hs:s.heap.IsSliceOf sl vl vu .none)(pl:Va vl lo)(pu:Va vu hi)(hw:¬(sIx items.size 0 lo=0/\sIx items.size items.size hi=items.size))(h:Q (.ref s.heap.objs.size) {s with heap:=s.heap.push {cls:=.type "tuple",data:=.seq ((items.toList.drop (sIx items.size 0 lo)).take (sIx items.size items.size hi - sIx items.size 0 lo)).toArray}})(hsz:items.size<=h9):Sn (Su prog w) A (Vk (.ref t) (.ref sl)) Q E s:=by
 have htake:sizeOk (.seq ((items.toList.drop (sIx items.size 0 lo)).take (sIx items.size items.size hi - sIx items.size 0 lo)).toArray):=by show((items.toList.drop (sIx items.size 0 lo)).take (sIx items.size items.size hi - sIx items.size 0 lo)).toArray.size<=h9;rw[Wt,WJ,WH,Y1];omega
 obtain⟨os,hos,hcs,hds⟩:=id hs;have hTs:s.TypeIs (.ref sl) "slice":=⟨os,hos,hcs⟩;unfold Vk
 try with_reducible refine SE ?_
 first|refine Si (Sk ?_)|skip
 refine Si (wpAny_sequenceKey ht.typeIs (by decide) ?_);refine Si (SB ht.typeIs PyProof.Rows.slot_tuple_getitem
  (SK PyProof.Rows.slot_tuple_getitem ht.typeIs entry_tuple_getitem ?_ (args_tuple_getitem _ _)))
 show Sn _ _ (Builtin.Tuple.tupleItemsOf (.ref t) >>= _) _ _ s;refine Si (tupleItemsOf_ ht ?_);refine Si (Um hTs ?_);rw[R9 (by decide)];refine Si (mQ hs pl pu ?_);have hno:¬((((sIx items.size 0 lo:Nat):Int) == 0&&(1:Int) == 1&&(sIx items.size items.size hi - sIx items.size 0 lo) == items.size)=true):=by intro q;rw[YC,YC]at q;have q1:((sIx items.size 0 lo:Nat):Int)=0:=eq_of_beq q.1.1;have q2:sIx items.size items.size hi - sIx items.size 0 lo=items.size:=eq_of_beq q.2;exact hw ⟨by omega,by omega⟩
 show Sn _ _ (if(((sIx items.size 0 lo:Nat):Int) == 0&&(1:Int) == 1&&(sIx items.size items.size hi - sIx items.size 0 lo) == items.size)=true then _ else _) _ _ s;rw[R8 hno,Cv]
 first
  |exact Si (Sz (Sk ⟨_,rfl,Sk h⟩) htake)
  |exact Si (Sz (Si (Sk (Sk ⟨_,rfl,Sk h⟩))) htake)
  |exact Si (Si (Sz (Sk (Sk ⟨_,rfl,Sk h⟩)) htake))
  |exact Si (Si (Sz (Sk ⟨_,rfl,Sk h⟩) htake))
end
end HT
namespace L2
open PySem PySem.Spec PyProof.Rows
abbrev TO:=St->Hp->(Option Int->Hp->Prop)->Prop
def PO(X:Cx)(e:Option S8)(t:TO):Prop:=
 ∀(R1:Sh)(s:So)(σ:St)(H:Hp)(Q:Option Int->Hp->Prop),aT X R1 σ H s->t σ H Q->
  Sn (Su X.prog X.w) X.A (evalPart e X.env) (λu s'=>∃o H',aT X R1 σ H' s'/\Va u o/\Q o H') X.xe s
def jy:TO:=λ_ H Q=>Q none H
def pH:∀{us:List Z0},bZ (ns.map V.int) us->IntsAre us ns:=by
 induction ns with
 |nil=>intro us r;rw[Xc]at r;cases r;exact .nil
 |cons n ns ih=>
  intro us r;rw[WI]at r;cases r with
  |cons r1 r2=>
   obtain⟨t,e⟩:=r1;subst e;exact .cons n t (ih r2)
section
variable{X:Cx}{e:S8}{te:TE}{lo hi:Option S8}{tl th:TO}{pos p2:VL}
def bH:PO X none jy:=by intro R1 s σ H Q I h;rw[evalPart_none];exact Sk ⟨none,H,I,.none,h⟩
def Bg(X:Cx)(r:V->Option Int->Option Int->Hp->VK->Prop):Prop:=
 ∀(R1:Sh)(s:So)(σ:St)(H:Hp)(x:V)(v vl vu:Z0)(lo hi:Option Int)(sl:Z1)(Q:VK),aT X R1 σ H s->bz x v->s.heap.IsSliceOf sl vl vu .none->Va vl lo->Va vu hi->r x lo hi H Q->
  ∃T id,Vi (.type T) "__getitem__"=pure (some (.builtin id))/\s.TypeIs v T/\Sn (Su X.prog X.w) X.A (Vk v (.ref sl)) (EP X R1 σ Q) X.xe s
def Bg.or(h:Bg X r)(h':Bg X r'):Bg X (λx lo hi H Q=>r x lo hi H Q\/r' x lo hi H Q):=by
 intro R1 s σ H x v vl vu lo hi sl Q I rx hs pl pu q
 rcases q with q|q
 .exact h R1 s σ H x v vl vu lo hi sl Q I rx hs pl pu q
 .exact h' R1 s σ H x v vl vu lo hi sl Q I rx hs pl pu q
def Ri(r:V->Option Int->Option Int->Hp->VK->Prop)(te:TE)(tl th:TO):TE:=λσ H Q=>te σ H λx H1=>tl σ H1 λl H2=>th σ H2 λu H3=>r x l u H3 Q
def vk(hr:Bg X r)(he:PE X e te)(hl:PO X lo tl)(hu:PO X hi th):PE X (.Subscript e (.Slice lo hi none p2) pos) (Ri r te tl th):=by intro R1 s σ H Q I h;refine Subscript_ (cK (he R1 s σ H _ I h) λv s1 ⟨x,H1,I1,r1,q1⟩=>?_);refine wpAny_Slice (cK (hl R1 s1 σ H1 _ I1 q1) λvl s2 ⟨l,H2,I2,pl,q2⟩=>cK (hu R1 s2 σ H2 _ I2 q2) λvu s3 ⟨u,H3,I3,pu,q3⟩=>?_);rw[evalPart_none];refine Sk ?_;have I4:aT X R1 σ H3 {s3 with heap:=s3.heap.push {cls:=.type "slice",data:=.fields #[vl,vu,.none]}}:=I3.kept (t':=s3.toks) λb ob q=>Sj _ q;obtain⟨T,id,hT,ht,hg⟩:=hr R1 {s3 with heap:=s3.heap.push {cls:=.type "slice",data:=.fields #[vl,vu,.none]}} σ H3 x v vl vu l u s3.heap.objs.size Q I4 r1 (Heap.IsSliceOf.new ..) pl pu q3;show Sn (Su X.prog X.w) X.A (VN e (.Slice lo hi none p2) v (.ref s3.heap.objs.size)) (EP X R1 σ Q) X.xe {s3 with heap:=s3.heap.push {cls:=.type "slice",data:=.fields #[vl,vu,.none]}};exact tail_any (ops:=[.ref s3.heap.objs.size,v]) ht hT hg (by with_unfolding_all rfl)
def cutV(xs:List V)(lo hi:Option Int):List V:=(xs.drop (HT.sIx xs.length 0 lo)).take (HT.sIx xs.length xs.length hi - HT.sIx xs.length 0 lo)
def nK(xs:List V)(lo hi:Option Int):(cutV xs lo hi).length<=xs.length:=by unfold cutV;rw[WJ,WH];omega
def K5(K:Frag):V->Option Int->Option Int->Hp->VK->Prop:=λx lo hi H Q=>∃a xs,x=.ref a/\dU K H a xs/\
 ¬(HT.sIx xs.length 0 lo=0/\HT.sIx xs.length xs.length hi=xs.length)/\∀p,H p=none->Q (.ref p) (upd H p (.tup (cutV xs lo hi)))
def KM:Bg X (K5 X.K):=by
 intro R1 s σ H x v vl vu lo hi sl Q I rx hs pl pu h;obtain⟨a,xs,rfl,hx,hw,q⟩:=h;cases rx;obtain⟨its,r,ht,hz⟩:=I.tuple hx;have hlen:its.toArray.size=xs.length:=by rw[Wt];exact r.length.symm
 refine⟨"tuple",_,PyProof.Rows.slot_tuple_getitem.lookup,ht.typeIs,?_⟩;refine HT.getItem_tuple_cut ht hs pl pu (by rw[hlen];exact hw) ?_ (by rw[hlen];exact hz);rw[hlen];refine⟨.ref s.heap.objs.size,_,I.laid (λb ob q=>Sj _ q) (Yd _) ?_,rfl,q _ (I.hok.fresh (Yd _))⟩;exact⟨Ye (nK xs lo hi) hz,_,(r.drop (HT.sIx xs.length 0 lo)).take (HT.sIx xs.length xs.length hi - HT.sIx xs.length 0 lo),IsTup.new _ _⟩
end
def ixN(n:Nat)(i:Int):Option Nat:=if 0<=i then(if i<n then some i.toNat else none)else if -(n:Int)<=i then some (i+n).toNat else none
def oh{α:Type}(xs:List α)(i:Int):Option α:=(ixN xs.length i).bind λj=>xs[j]?
def y8(h:ixN n i=some j):seqIndex? i n=some j/\j<n/\-(n:Int)<=i/\i<n:=by
 unfold ixN at h
 by_cases h0:0<=i
 .rw[R9 h0]at h
  by_cases h1:i<n
  .rw[R9 h1]at h;have e:=Sd h;exact⟨by rw[seqIndex_of h0 h1,e],by omega,by omega,h1⟩
  .rw[R8 h1]at h;cases h
 .rw[R8 h0]at h
  by_cases h1: -(n:Int)<=i
  .rw[R9 h1]at h;have e:=Sd h;exact⟨by rw[VY (by omega) h1,e],by omega,h1,by omega⟩
  .rw[R8 h1]at h;cases h
def uq{α:Type}{xs:List α}{i:Int}{v:α}(h:oh xs i=some v):∃j,seqIndex? i xs.length=some j/\xs[j]? =some v/\j<xs.length/\-(xs.length:Int)<=i/\i<xs.length:=by
 unfold oh at h;cases e:ixN xs.length i with
 |none=>rw[e]at h;cases h
 |some j=>
  rw[e]at h;obtain⟨h1,h2,h3,h4⟩:=y8 e;exact⟨j,h1,h,h2,h3,h4⟩
def bK{α:Type}{xs:List α}{j:Nat}{v:α}(h:xs[j]? =some v):oh xs (j:Int)=some v:=by
 have hj:j<xs.length:=(Wz.mp h).1;have e:ixN xs.length (j:Int)=some j:=by unfold ixN;rw[R9 (by omega),R9 (by omega)];simp
 unfold oh;rw[e];exact h
def uu(b:S8):Prop:= ∀o i,VA b false o i=operate [o,i] (Vk o i)
def zL(X:Cx)(r:R2):Prop:=
 ∀(value slice:S8)(R1:Sh)(s:So)(σ:St)(H:Hp)(x y:V)(v u:Z0)(Q:VK),aT X R1 σ H s->bz x v->bz y u->r x y H Q->
  VA slice false v u=operate [v,u] (Vk v u)->Sn (Su X.prog X.w) X.A (VN value slice v u) (EP X R1 σ Q) X.xe s
def Bp(X:Cx)(id:String)(r:V->List V->Hp->VK->Prop):Prop:=
 ∀(R1:Sh)(s:So)(σ:St)(H:Hp)(x:V)(xs:List V)(v:Z0)(us:List Z0)(Q:VK),aT X R1 σ H s->bz x v->bZ xs us->r x xs H Q->
  Sn (Su X.prog X.w) X.A (call (.builtin id) (v::us)) (EP X R1 σ Q) X.xe s
section
def zL.or(h:zL X r)(h':zL X r'):zL X (λx y H Q=>r x y H Q\/r' x y H Q):=by
 intro value slice R1 s σ H x y v u Q I rx ry q hs
 rcases q with q|q
 .exact h value slice R1 s σ H x y v u Q I rx ry q hs
 .exact h' value slice R1 s σ H x y v u Q I rx ry q hs
def Pf(hr:zL X r)(ha:PE X a ta)(hb:PE X b tb)(hs:uu b):PE X (.Subscript a b pos) (KC r ta tb):=by intro R1 s σ H Q I h;exact Subscript_ (Mm ha hb I h λv u s2 x y H2 I2 rx ry q=>hr a b R1 s2 σ H2 x y v u Q I2 rx ry q (hs _ _))
def Pd(K:Frag):R2:=λx y H Q=>∃p xs i v,x=.ref p/\y=.int i/\aV K H p xs/\oh xs i=some v/\Q v H
def Pb(K:Frag):R2:=λx y H Q=>∃p xs i v,x=.ref p/\y=.int i/\dU K H p xs/\oh xs i=some v/\Q v H
def Pc:R2:=λx y H Q=>∃z i c,x=.str z/\y=.int i/\z.length<=h9/\oh z.cps.toList i=some c/\Q (.str ⟨#[c]⟩) H
def Fa:zL X (Pd X.K):=by
 intro value slice R1 s σ H x y v u Q I rx ry h hs;obtain⟨p,xs,i,z,rfl,rfl,hq,he,q⟩:=h;cases rx;obtain⟨t,rfl⟩:=ry;obtain⟨its,r,pl,hz⟩:=I.list hq;obtain⟨j,h1,h2,h3,h4,h5⟩:=uq he;obtain⟨w,ew,rw'⟩:=r.get h2;have hl:=r.length;have hn:=mZ;have fin:EP X R1 σ Q w s:=⟨z,H,I,rw',q⟩
 by_cases h0:0<=i
 .have hj:i.toNat=j:=by rw[seqIndex_of h0 h5]at h1;exact Sd h1
  exact item_listR pl.isList h0 (by omega) (by rw[hj];simpa using ew) fin hs
 .have hj:(i+(its.toArray.size:Int)).toNat=j:=by rw[VY (by omega) h4]at h1;rw[Wt,<-hl];exact Sd h1
  exact Vj pl.isList.typeIs slot_list_getitem.lookup
   (wpAny_getItem_list_neg pl.isList (by omega) (by rw[Wt]<;>omega) (by omega) (by rw[hj];simpa using ew) ⟨rfl,fin⟩) hs
def LO:zL X (Pb X.K):=by
 intro value slice R1 s σ H x y v u Q I rx ry h hs;obtain⟨p,xs,i,z,rfl,rfl,hq,he,q⟩:=h;cases rx;obtain⟨t,rfl⟩:=ry;obtain⟨its,r,pl,hz⟩:=I.tuple hq;obtain⟨j,h1,h2,h3,h4,h5⟩:=uq he;obtain⟨w,ew,rw'⟩:=r.get h2;have hl:=r.length;have hn:=mZ;have fin:EP X R1 σ Q w s:=⟨z,H,I,rw',q⟩;exact Vj pl.typeIs slot_tuple_getitem.lookup
  (getItem_tuple pl (by omega) (by omega) (by rw[Wt,<-hl];exact h1) (by simpa using ew) ⟨rfl,fin⟩) hs
def LP:zL X Pc:=by
 intro value slice R1 s σ H x y v u Q I rx ry h hs;obtain⟨z,i,c,rfl,rfl,hz,he,q⟩:=h;obtain⟨t,rfl⟩:=rx;obtain⟨t',rfl⟩:=ry;obtain⟨j,h1,h2,h3,h4,h5⟩:=uq he;have hl:z.cps.toList.length=z.length:=by simp[Str.length]
 rw[hl]at h1 h4 h5;have hn:=mZ;exact tail_any (Uv s z t) slot_str_getitem.lookup (getItem_str (c:=c) (by
  have e1:decide (i< -(2 ^ 63:Int))=false:=R7 (by omega);have e2:decide (i≥2 ^ 63)=false:=R7 (by omega);rw[e1,e2,YL]) (by rw[h1];simpa using h2) ⟨.str ⟨#[c]⟩,H,I.tok _,⟨_,rfl⟩,q⟩) hs
def rIx(K:Frag):R2:=λx y H Q=>Pd K x y H Q\/Pb K x y H Q\/Pc x y H Q
def LQ:zL X (rIx X.K):=Fa.or (LO.or LP)
def xh(its:List Z0)(n j:Nat)(u:Z0):Tu (·.setIfInBounds j u) {cls:=.type "list",data:=.seq its.toArray n}={cls:=.type "list",data:=.seq (its.set j u).toArray n}:=by simp[Tu]
theorem aT.lst{R1:Sh}{σ:St}{H:Hp}{s:So}{p:Z1}{xs:List V}(I:aT X R1 σ H s)(h:H p=some (.lst xs)):∃its n,bZ xs its/\s.heap.get? p=some {cls:=.type "list",data:=.seq its.toArray n}/\xs.length<=h9:=by obtain⟨z,its,n,r,e⟩:=I.hok p _ h;exact⟨its,n,r,e,z⟩
def aT.lstUpd{R1:Sh}{σ:St}{H:Hp}{s:So}{p:Z1}{xs ys:List V}{its its':List Z0}{n n':Nat}{f:Obj->Obj}(I:aT X R1 σ H s)(h:H p=some (.lst xs))(ho:s.heap.get? p=some {cls:=.type "list",data:=.seq its.toArray n})(hf:f {cls:=.type "list",data:=.seq its.toArray n}={cls:=.type "list",data:=.seq its'.toArray n'})(r:bZ ys its')(hz:ys.length<=h9)(t:Nat):aT X R1 σ (upd H p (.lst ys)) {s with heap:=s.heap.update p f,toks:=t}:=by
 have e:(s.heap.update p f).get? p=some {cls:=.type "list",data:=.seq its'.toArray n'}:=by rw[SJ f ho (by rw[hf]<;>rfl),hf]
 refine I.write (by rw[h];trivial) (.inl rfl) (λb u hb q=>(SA _ _ (Ne.symm hb)).trans q) ⟨_,e⟩ ?_;exact⟨hz,its',n',r,e⟩
def J3:V->V->V->Hp->(Hp->Prop)->Prop:=λo i v H Q=>∃p xs k j,o=.ref p/\i=.int k/\H p=some (.lst xs)/\ixN xs.length k=some j/\Q (upd H p (.lst (xs.set j v)))
def B3:Qm X J3:=by
 intro R1 s σ H o i v ov iv u Q I ro ri rv h;obtain⟨p,xs,k,j,rfl,rfl,hp,hj,q⟩:=h;cases ro;obtain⟨t,rfl⟩:=ri;obtain⟨its,n,r,ho,hz⟩:=I.lst hp;obtain⟨h1,h2,h3,h4⟩:=y8 hj;have hl:=r.length;have hn:=mZ;have I':aT X R1 σ (upd H p (.lst (xs.set j v))) {s with heap:=s.heap.update p (Tu (·.setIfInBounds j u))}:=
  I.lstUpd hp ho (xh its n j u) (r.set rv j) (by rw[List.length_set];exact hz) s.toks
 by_cases h0:0<=k
 .have hk:k.toNat=j:=by rw[seqIndex_of h0 h4]at h1;exact Sd h1
  exact PySem.W.ki_setAt ho h0 (by omega) (by rw[Wt,<-hl];exact h4) (by rw[hk];exact⟨_,I',q⟩)
 .have hk:(k+(its.toArray.size:Int)).toNat=j:=by rw[VY (by omega) h3]at h1;rw[Wt,<-hl];exact Sd h1
  exact PySem.W.ki_setBack ho (by omega) (by rw[Wt,<-hl];exact h3) (by omega) (by rw[hk];exact⟨_,I',q⟩)
def rW(lo hi:Option Int)(n:Nat):(TJ lo hi none n).1=((HT.sIx n 0 lo:Nat):Int)/\(TJ lo hi none n).2.1=((HT.sIx n n hi:Nat):Int)/\(TJ lo hi none n).2.2=1:=by
 refine⟨?_,?_,rfl⟩
 .cases lo with
  |none=>simp[TJ,HT.sIx]
  |some i=>
   simp only[TJ,HT.sIx,Y9,show(1:Int) > 0 by decide,if_true]
   by_cases h:i<0
   .simp only[h,if_true]<;>omega
   .simp only[h,if_false]<;>omega
 .cases hi with
  |none=>simp[TJ,HT.sIx]
  |some i=>
   simp only[TJ,HT.sIx,Y9,show(1:Int) > 0 by decide,if_true]
   by_cases h:i<0
   .simp only[h,if_true]<;>omega
   .simp only[h,if_false]<;>omega
def qe(its:List Z0)(lo hi:Option Int):slicePick its.toArray lo hi none=((its.drop (HT.sIx its.length 0 lo)).take (HT.sIx its.length its.length hi - HT.sIx its.length 0 lo)).toArray:=by obtain⟨h1,h2,h3⟩:=rW lo hi its.toArray.size;unfold slicePick;rw[h1,h2,h3];simp only[sliceRange_one,pick_run,Wt]<;>rfl
def Ru(K:Frag):V->Option Int->Option Int->Hp->VK->Prop:=λx lo hi H Q=>∃a xs,x=.ref a/\aV K H a xs/\∀p,H p=none->Q (.ref p) (upd H p (.lst (cutV xs lo hi)))
def Es:Bg X (Ru X.K):=by intro R1 s σ H x v vl vu lo hi sl Q I rx hs pl pu h;obtain⟨a,xs,rfl,hx,q⟩:=h;cases rx;obtain⟨its,r,ht,hz⟩:=I.list hx;have hlen:=r.length;refine⟨"list",_,slot_list_getitem.lookup,ht.isList.typeIs,?_⟩;refine wpAny_getItem_list_slice ht.isList hs pl pu .none (by simp) ?_ (by rw[Wt]<;>omega);rw[qe,<-hlen];refine⟨.ref s.heap.objs.size,_,I.laid (λb ob q=>Sj _ q) (Yd _) ?_,rfl,q _ (I.hok.fresh (Yd _))⟩;exact⟨Ye (nK xs lo hi) hz,_,0,(r.drop (HT.sIx xs.length 0 lo)).take (HT.sIx xs.length xs.length hi - HT.sIx xs.length 0 lo),Sm _ rfl⟩
def flatV:V->Bool
 | .non=>true
 | .bl _=>true
 | .int _=>true
 | .str _=>true
 |_=>false
def eqV:V->V->Bool
 | .non,.non=>true
 | .bl a,.bl b=>a == b
 | .bl a,.int b=>(if a then 1 else 0) == b
 | .int a,.bl b=>a == (if b then 1 else 0)
 | .int a,.int b=>a == b
 | .str a,.str b=>a == b
 |_,_=>false
def DD(ry:bz y u)(rx:bz x v)(fy:flatV y=true)(fx:flatV x=true):VW A s u v (eqV y x):=by
 cases y with
 |non=>
  cases ry;cases x with
  |non=>cases rx;exact SeqAt.EqAt.same _
  |bl b=>cases rx;exact SeqAt.EqAt.none_bool b
  |int b=>obtain⟨t,rfl⟩:=rx;exact SeqAt.EqAt.none_int b t
  |str b=>obtain⟨t,rfl⟩:=rx;exact SeqAt.EqAt.none_str b t
  |_=>exact Sc (show false=true from fx) YD
 |bl a=>
  cases ry;cases x with
  |non=>cases rx;exact SeqAt.EqAt.bool_none a
  |bl b=>cases rx;exact SeqAt.EqAt.bool_bool a b
  |int b=>obtain⟨t,rfl⟩:=rx;exact SeqAt.EqAt.bool_int a b t
  |str b=>obtain⟨t,rfl⟩:=rx;exact SeqAt.EqAt.bool_str a b t
  |_=>exact Sc (show false=true from fx) YD
 |int a=>
  obtain⟨t',rfl⟩:=ry;cases x with
  |non=>cases rx;exact SeqAt.EqAt.int_none a t'
  |bl b=>cases rx;exact SeqAt.EqAt.int_bool a t' b
  |int b=>obtain⟨t,rfl⟩:=rx;exact SeqAt.EqAt.int_int a t' b t
  |str b=>obtain⟨t,rfl⟩:=rx;exact SeqAt.EqAt.int_str a t' b t
  |_=>exact Sc (show false=true from fx) YD
 |str a=>
  obtain⟨t',rfl⟩:=ry;cases x with
  |non=>cases rx;exact SeqAt.EqAt.str_none a t'
  |bl b=>cases rx;exact SeqAt.EqAt.str_bool a t' b
  |int b=>obtain⟨t,rfl⟩:=rx;exact SeqAt.EqAt.str_int a t' b t
  |str b=>obtain⟨t,rfl⟩:=rx;exact SeqAt.EqAt.str_str a t' b t
  |_=>exact Sc (show false=true from fx) YD
 |_=>exact Sc (show false=true from fy) YD
def vQ(x:V)(u:Z0):Bool:=match u with
 | .none=>eqV .non x
 | .bool b=>eqV (.bl b) x
 | .int i _=>eqV (.int i) x
 | .str z _=>eqV (.str z) x
 |_=>false
def xB(r:bz y u)(f:flatV y=true):vQ x u=eqV y x:=by
 cases y with
 |non=>cases r;rfl
 |bl b=>cases r;rfl
 |int i=>obtain⟨t,rfl⟩:=r;rfl
 |str z=>obtain⟨t,rfl⟩:=r;rfl
 |_=>exact Sc (show false=true from f) YD
theorem mI:∀{xs:List V}{us:List Z0},bZ xs us->xs.all flatV=true->us.any (vQ x)=xs.any λy=>eqV y x
 |_,_,.nil,_=>rfl
 |y::xs,u::us,.cons r t,f=>by rw[WE,YC]at f;rw[WS,WS,xB r f.1,mI t f.2]
theorem jo(rx:bz x v)(fx:flatV x=true):∀{xs:List V}{us:List Z0},bZ xs us->xs.all flatV=true->∀u∈us,VW A s u v (vQ x u)
 |_,_,.nil,_=>λu hu=>by cases hu
 |y::xs,u::us,.cons r t,f=>λu' hu=>by
  rw[WE,YC]at f
  rcases Wn.mp hu with rfl|hu
  .rw[xB r f.1];exact DD r rx f.1 fx
  .exact jo rx fx t f.2 u' hu
def Ka(x:V)(xs:List V):Bool:=xs.any λy=>eqV y x
def yE(K:Frag)(neg:Bool):R2:=λx y H Q=>∃p xs,y=.ref p/\(aV K H p xs\/dU K H p xs)/\flatV x=true/\xs.all flatV=true/\Q (.bl (if neg then !Ka x xs else Ka x xs)) H
def Ay:kS X (Tg .In) (yE X.K false):=by
 intro R1 s σ H x y v u Q I rx ry h;obtain⟨p,xs,rfl,hq,fx,fs,q⟩:=h;cases ry
 rcases hq with hq|hq
 .obtain⟨its,r,pl,hz⟩:=I.list hq;refine SeqAt.in_listAt (vQ x) pl.isList (λw hw=>jo rx fx r fs w (by simpa using hw)) ⟨.bl _,H,I,rfl,?_⟩;rw[show its.toArray.any (vQ x)=its.any (vQ x) by simp,mI r fs];exact q
 .obtain⟨its,r,pl,hz⟩:=I.tuple hq;refine SeqAt.in_tupleAt (vQ x) pl (λw hw=>jo rx fx r fs w (by simpa using hw)) ⟨.bl _,H,I,rfl,?_⟩;rw[show its.toArray.any (vQ x)=its.any (vQ x) by simp,mI r fs];exact q
def sT:kS X (Tg .NotIn) (yE X.K true):=by
 intro R1 s σ H x y v u Q I rx ry h;obtain⟨p,xs,rfl,hq,fx,fs,q⟩:=h;cases ry
 rcases hq with hq|hq
 .obtain⟨its,r,pl,hz⟩:=I.list hq;refine SeqAt.notIn_listAt (vQ x) pl.isList (λw hw=>jo rx fx r fs w (by simpa using hw)) ⟨.bl _,H,I,rfl,?_⟩;rw[show its.toArray.any (vQ x)=its.any (vQ x) by simp,mI r fs];exact q
 .obtain⟨its,r,pl,hz⟩:=I.tuple hq;refine SeqAt.notIn_tupleAt (vQ x) pl (λw hw=>jo rx fx r fs w (by simpa using hw)) ⟨.bl _,H,I,rfl,?_⟩;rw[show its.toArray.any (vQ x)=its.any (vQ x) by simp,mI r fs];exact q
def uk:bQ X (.builtin "len") (λxs H Q=>∃p ys,xs=[.ref p]/\(aV X.K H p ys\/dU X.K H p ys)/\Q (.int ys.length) H):=by
 intro R1 s σ H xs us Q I r h;obtain⟨p,ys,rfl,hq,q⟩:=h;obtain⟨u,rfl,rx⟩:=eZ r;cases rx;have hn:=mZ
 rcases hq with hq|hq
 .obtain⟨its,r',pl,hz⟩:=I.list hq;have hlen:=r'.length;exact Calls.call_len_list pl.isList (by simp only[Wt]<;>omega) ⟨.int ys.length,H,I.tok _,⟨s.toks+1,by rw[Wt,hlen]⟩,q⟩
 .obtain⟨its,r',pl,hz⟩:=I.tuple hq;have hlen:=r'.length;exact len_tuple pl (by simp only[Wt]<;>omega) ⟨.int ys.length,H,I.tok _,⟨s.toks+1,by rw[Wt,hlen]⟩,q⟩
def uj:bQ X (.builtin "len") (λxs H Q=>∃z,xs=[.str z]/\z.length<=h9/\Q (.int z.length) H):=by intro R1 s σ H xs us Q I r h;obtain⟨z,rfl,hz,q⟩:=h;obtain⟨u,rfl,t,rfl⟩:=eZ r;have hn:=mZ;exact len_str (by omega) ⟨.int z.length,H,I.tok _,⟨_,rfl⟩,q⟩
def bQ.or(h:bQ X f r)(h':bQ X f r'):bQ X f (λxs H Q=>r xs H Q\/r' xs H Q):=by
 intro R1 s σ H xs us Q I rs q
 rcases q with q|q
 .exact h R1 s σ H xs us Q I rs q
 .exact h' R1 s σ H xs us Q I rs q
def ui:bQ X (.type "list") (λxs H Q=>∃p ys,xs=[.ref p]/\(aV X.K H p ys\/dU X.K H p ys)/\∀l,H l=none->Q (.ref l) (upd H l (.lst ys))):=by
 intro R1 s σ H xs us Q I r h;obtain⟨p,ys,rfl,hq,q⟩:=h;obtain⟨u,rfl,rx⟩:=eZ r;cases rx;have fin:∀(its:List Z0),bZ ys its->ys.length<=h9->∀(h':SD)(c':Nat),(∀b o',s.heap.get? b=some o'->h'.get? b=some o')->
   h'.get? s.heap.objs.size=some {cls:=.type "list",dict:=none,data:=.seq its.toArray c',slots:= #[]}->EP X R1 σ Q (.ref s.heap.objs.size) {s with heap:=h'}:=λits r' hz h' c' kp e=>
  ⟨.ref s.heap.objs.size,_,I.laid kp (Yd _) (show cb X.prog X.w _ h' _ (.lst ys)from⟨hz,its,c',r',e⟩),rfl,q _ (I.hok.fresh (Yd _))⟩
 rcases hq with hq|hq
 .obtain⟨its,r',pl,hz⟩:=I.list hq;have hlen:=r'.length;obtain⟨o,ho,hc,n,hd⟩:=pl.isList;exact call_list_seq p (.inl rfl) ho hc hd (λh' c' kp e=>fin its r' hz h' c' kp e) (by simp only[Wt]<;>omega)
 .obtain⟨its,r',pl,hz⟩:=I.tuple hq;have hlen:=r'.length;obtain⟨o,ho,hc,n,hd⟩:=pl;exact call_list_seq p (.inr rfl) ho hc hd (λh' c' kp e=>fin its r' hz h' c' kp e) (by simp only[Wt]<;>omega)
def Qu(K:Frag)(T:String)(x:V)(H:Hp):Prop:=match x with
 | .str _=>T="str"
 | .int _=>T="int"
 | .ref p=>(T="list"/\∃xs,aV K H p xs)\/(T="tuple"/\∃o,K.lookup p=some o/\o.cls=.type "tuple"/\o.dict=none)\/
   (T="dict"/\((∃kvs,H p=some (.dK kvs))\/∃kvs,H p=some (.dT kvs)))\/(T="set"/\∃S n,H p=some (.set S n))
 |_=>False
def ww{R1:Sh}{σ:St}{H:Hp}{s:So}{T:String}{x:V}{v:Z0}(I:aT X R1 σ H s)(r:bz x v)(ty:Qu X.K T x H):s.TypeIs v T/\∀a,v=.ref a->∃ob,s.heap.get? a=some ob/\ob.dict=none:=by
 cases x with
 |str z=>
  obtain⟨t,rfl⟩:=r;cases(show T="str"from ty);exact⟨Uv s z t,λ_ e=>nomatch e⟩
 |int i=>
  obtain⟨t,rfl⟩:=r;cases(show T="int"from ty);exact⟨typeIs_int s i t,λ_ e=>nomatch e⟩
 |ref p=>
  cases r
  rcases ty with⟨rfl,xs,hq⟩|⟨rfl,o,hk,hc,hd⟩|⟨rfl,hk⟩|⟨rfl,S,n,hk⟩
  .obtain⟨its,_,pl,_⟩:=I.list hq;refine⟨pl.isList.typeIs,λa e=>?_⟩;cases e;obtain⟨o,n,e,c,hd,_⟩:=pl;exact⟨o,e,hd⟩
  .refine⟨⟨o,I.kIn p o hk,hc⟩,λa e=>?_⟩;cases e;exact⟨o,I.kIn _ o hk,hd⟩
  .have z:∃o,s.heap.get? p=some o/\o.ExactDict:=by
    rcases hk with⟨kvs,hk⟩|⟨kvs,hk⟩
    .obtain⟨_,_,_,_,o,_,_,e,ex,_⟩:=I.hok p _ hk;exact⟨o,e,ex⟩
    .obtain⟨_,_,_,_,o,_,_,e,ex,_⟩:=I.hok p _ hk;exact⟨o,e,ex⟩
   obtain⟨o,e,ex⟩:=z;refine⟨⟨o,e,ex.1⟩,λa e2=>?_⟩;cases e2;exact⟨o,e,ex.2.1⟩
  .obtain⟨o,_,_,_,e,ex,_⟩:=I.hok p _ hk;refine⟨⟨o,e,ex.1⟩,λa e2=>?_⟩;cases e2;exact⟨o,e,ex.2.1⟩
 |_=>exact False.elim ty
end
def MtM(X:Cx)(id:String)(r:V->List V->Hp->VK->Prop):Prop:=
 ∀(R1:Sh)(s:So)(σ:St)(H:Hp)(x:V)(xs:List V)(v:Z0)(us:List Z0)(Q:VK),aT X R1 σ H s->bz x v->bZ xs us->r x xs H Q->
  Sn (Su X.prog X.w) X.A (call (.builtin id) (v::us)) (EP X R1 σ Q) X.xe s
def bZ.one:∀{x:V}{us:List Z0},bZ [x] us->∃u,us=[u]/\bz x u
 |_,_,.cons r .nil=>⟨_,rfl,r⟩
def bZ.two:∀{x y:V}{us:List Z0},bZ [x,y] us->∃u v,us=[u,v]/\bz x u/\bz y v
 |_,_,_,.cons r (.cons q .nil)=>⟨_,_,rfl,r,q⟩
section
variable{X:Cx}{R1:Sh}{σ:St}{H:Hp}{s:So}{l b:Z1}{xs ys zs:List V}
def aT.lset{its its':List Z0}{n:Nat}{f:Array Z0->Array Z0}{t':Nat}(I:aT X R1 σ H s)(hH:H l=some (.lst xs))(e:s.heap.get? l=some {cls:=.type "list",data:=.seq its.toArray n})(hf:f its.toArray=its'.toArray)(hv:bZ ys its')(hz:ys.length<=h9):aT X R1 σ (upd H l (.lst ys)) {s with heap:=s.heap.update l (Tu f),toks:=t'}:=by have q:=PySem.IsL.update e f;rw[hf]at q;refine I.write (by rw[hH];exact trivial) (.inl rfl) (λb' u hb hu=>(SA s.heap (Tu f) (Ne.symm hb)).trans hu) ⟨_,q⟩ ?_;exact⟨hz,its',_,hv,q⟩
def aT.lnew(I:aT X R1 σ H s)(hv:bZ ys its)(hz:ys.length<=h9):aT X R1 σ (upd H s.heap.objs.size (.lst ys)) {s with heap:=s.heap.push {cls:=.type "list",data:=.seq its.toArray},toks:=t'}:=
 I.laid (λ_ _ q=>Sj _ q) (Yd _) ⟨hz,its,0,hv,Sm _ rfl⟩
theorem aT.fresh(I:aT X R1 σ H s):H s.heap.objs.size=none:=I.hok.fresh (Yd _)
def aT.lstM(I:aT X R1 σ H s)(hH:H l=some (.lst xs)):xs.length<=h9/\∃its n,bZ xs its/\xs.length=its.length/\s.heap.get? l=some {cls:=.type "list",data:=.seq its.toArray n}:=by obtain⟨z,its,n,r,e⟩:=I.hok l _ hH;exact⟨z,its,n,r,r.length,e⟩
def vx(h:n<=h9):Vb n=false:=by unfold Vb;exact R7 (by omega)
end
section
def EH:V->List V->Hp->VK->Prop:=λx vs H Q=>∃l xs y,x=.ref l/\vs=[y]/\H l=some (.lst xs)/\xs.length<h9/\Q .non (upd H l (.lst (xs++[y])))
def Az:MtM X "list.append" EH:=by intro R1 s σ H x vs v us Q I rx rv h;obtain⟨l,xs,y,rfl,rfl,hH,hz,q⟩:=h;cases rx;obtain⟨u,rfl,ru⟩:=rv.one;obtain⟨z,its,n,r,hl,e⟩:=I.lstM hH;refine UU F.slot_list_append ⟨_,e,rfl⟩ F.entry_list_append (F.args_list_append_2 _ _) (PySem.list_append l its.toArray n u (by rw[Wt];omega)) ⟨e,?_⟩;refine⟨.non,_,I.lset hH e (by simp) (r.append (.cons ru .nil)) ?_,rfl,q⟩;rw[Wq,XA];omega
def K7:R2:=λx y H Q=>∃l b xs zs,x=.ref l/\y=.ref b/\H l=some (.lst xs)/\H b=some (.lst zs)/\xs.length+zs.length<=h9/\∀p,H p=none->Q (.ref p) (upd H p (.lst (xs++zs)))
def Lo:kS X (Uc .Add) K7:=by
 intro R1 s σ H x y v u Q I rx ry h;obtain⟨l,b,xs,zs,rfl,rfl,hH,hB,hz,q⟩:=h;cases rx;cases ry;obtain⟨z,its,n,r,hl,e⟩:=I.lstM hH;obtain⟨z2,its2,n2,r2,hl2,e2⟩:=I.lstM hB;refine PySem.P.add_list e e2 ?_ (by rw[Wt,Wt];omega);have ea:its.toArray++its2.toArray=(its++its2).toArray:=by simp
 rw[ea];exact⟨.ref _,_,I.lnew (r.append r2) (by rw[Wq];omega),rfl,q _ I.fresh⟩
end
section
def xP{a c n:Nat}(hac:a<=c)(hc:c<=n):TJ (some (a:Int)) (some (c:Int)) none n=((a:Int),(c:Int),1):=by
 simp only[TJ,Y9];have h1:¬((a:Int)<0):=by omega
 have h2:¬((c:Int)<0):=by omega
 simp only[h1,h2,if_false,show(1:Int) > 0 by decide,if_true];congr 1
 .omega
 .congr 1;omega
set_option maxRecDepth 100000 in
def Eb{items new:Array Z0}{n n2:Nat}{vl vu:Z0}{a c:Nat}(e:s.heap.get? l=some {cls:=.type "list",data:=.seq items n})(e2:s.heap.get? b=some {cls:=.type "list",data:=.seq new n2})(hne:l≠b)(hs:s.heap.IsSliceOf sl vl vu .none)(pl:Va vl (some (a:Int)))(pu:Va vu (some (c:Int)))(hac:a<=c)(hc:c<=items.size)(hsz:items.size+new.size<=h9)(h:Q () {s with heap:=s.heap.update l (Tu λxs=>xs.extract 0 a++new++xs.extract c xs.size)}):Sn (Su prog w) A (We (.ref l) (.ref sl) (.ref b)) Q E s:=by
 have hl:s.heap.IsList l items:=PySem.IsL.isList e;have hb:s.heap.IsList b new:=PySem.IsL.isList e2;obtain⟨os,hos,hcs,hds⟩:=id hs;have hTs:s.TypeIs (.ref sl) "slice":=⟨os,hos,hcs⟩;have hstep:¬((rawPart none == T3 0)=true):=YD;have hsame:TF (.ref l) (.ref b)=false:=by unfold TF;exact beq_eq_false_iff_ne.mpr hne
 have hmax:(max (a:Int) (c:Int)).toNat=c:=by omega
 have hz':((λxs:Array Z0=>xs.extract 0 a++new++xs.extract c xs.size) items).size<=h9+1:=by simp only[Y3,Array.size_extract];omega
 unfold We
 try with_reducible refine SE ?_
 first|refine Si (Sk ?_)|skip
 refine Si (wpAny_sequenceKey hl.typeIs (by decide) ?_);refine Si (SB (name:=TB "__setitem__") hl.typeIs slot_list_setitem
  (SK slot_list_setitem hl.typeIs entry_list_setitem ?_ (args_list_setitem _ _ _)))
 show Sn _ _ (UK (.ref sl) >>= _) _ _ s;refine Si ?_;unfold UK;refine Si (UA hTs slice_no_index ?_);simp only[Option.isNone_none,if_true];refine Sk ?_;show Sn _ _ (typeOf (.ref sl) >>= _) _ _ s;refine Si (Um hTs ?_)
 first
  |rw[R8 (by decide)]
  |refine PySem.W.KFB.if_not (by decide) ?_
 rw[listSliceParts_eq];refine Si (Si (SH hos hds (x:=.none) rfl (Si (Vz .none ?_))));rw[R8 hstep];refine Si (SH hos hds (x:=vl) rfl (Si (Vz pl ?_)));refine Si (SH hos hds (x:=vu) rfl (Si (Vz pu (Sk ?_))))
 first
  |simp only[hsame,YG,if_false]
  |refine PySem.W.KFB.if_not hsame ?_
  |(dsimp only
    rw[R8 (by rw[hsame];exact YD)])
 refine Si (m:=U1 (.ref b) "must assign iterable to extended slice") ?_;unfold U1;refine Si (Um hb.typeIs ?_)
 first
  |refine PySem.W.KFB.if_so (by decide) ?_
  |rw[R9 (by decide)]
  |simp only[beq_self_eq_true,Bool.true_or,if_true]
 unfold Builtin.List.listItems;refine Si (SY e2 rfl (Sk ?_));refine Si (Si (SY e rfl (Sk ?_)));refine Si (T2 ((sliceIndices_raw (some (a:Int)) (some (c:Int)) none items.size (by simp)).trans (Se (pure:Int×Int×Int->Sem (Int×Int×Int)) (xP hac hc))) ?_);show Sn _ _ (if((1:Int) == 1)=true then _ else _) _ _ s;rw[R9 (by decide)];refine Si (TL ?_)
 first
  |simp only[vx hsz,YG,if_false]
  |refine PySem.W.KFB.if_not (vx hsz) ?_
 first|refine Si (Sk ?_)|skip
 show Sn _ _ (updateSeq l (λxs=>xs.extract 0 ((a:Int)).toNat++new++xs.extract (max (a:Int) (c:Int)).toNat xs.size) >>= _) _ _ s;rw[hmax,Yw];refine Si (Vp (hz:=Ye (Nat.le_add_right _ _) hsz) (_hz':=hz') e rfl ?_);refine Si (wpAny_letGo ?_)
 first
  |exact Si (Sk (Sk ⟨.none,rfl,Sk h⟩))
  |exact Sk ⟨.none,rfl,Sk h⟩
end
section
variable{κ:Type}[DecidableEq κ]
def valV(kvs:List (κ×V))(k:κ):Option V:=(kvs.find? λkv=>decide (kv.1=k)).map (·.2)
def mS(kvs:List (κ×V))(k:κ)(v:V):List (κ×V):=
 if(kvs.any λkv=>decide (kv.1=k))=true then kvs.map (λkv=>if kv.1=k then(kv.1,v)else kv)else kvs++[(k,v)]
def j8{p:κ×V}{r:List (κ×V)}{k:κ}(e:p.1=k):valV (p::r) k=some p.2:=by simp[valV,WT,e]
def jc{p:κ×V}{r:List (κ×V)}{k:κ}(e:¬p.1=k):valV (p::r) k=valV r k:=by simp[valV,WT,e]
theorem oy(k:κ):∀kvs:List (κ×V),(kvs.any λkv=>decide (kv.1=k))=(valV kvs k).isSome
 | []=>rfl
 |p::r=>by
  rw[WS]
  by_cases e:p.1=k
  .simp only[j8 e,R6 e,Bool.true_or,Option.isSome_some]
  .rw[jc e,R7 e,YM];exact oy k r
def nG(kvs:List (κ×V))(k:κ)(v:V):(mS kvs k v).length<=kvs.length+1:=by
 unfold mS;split
 .rw[Wm];omega
 .rw[Wq,Wx,W5];omega
def Cq{kvs:List (κ×V)}{k:κ}(v:V)(h:valV kvs k=none):mS kvs k v=kvs++[(k,v)]:=by unfold mS;rw[oy,h];exact R8 (by decide)
def j4.isSome_eq(r:j4 o u):o.isSome=u.isSome:=by
 cases o with
 |none=>cases u with
  |none=>rfl
  |some _=>exact(show False from r).elim
 |some _=>cases u with
  |none=>exact(show False from r).elim
  |some _=>rfl
theorem j4.getD(r:j4 o u)(rd:bz d d'):bz (o.getD d) (u.getD d'):=by
 cases o with
 |none=>cases u with
  |none=>exact rd
  |some _=>exact(show False from r).elim
 |some _=>cases u with
  |none=>exact(show False from r).elim
  |some _=>exact r
def KV.val{kvs:List (κ×V)}{vs:List (κ×Z0)}(r:KV kvs vs)(k:κ):j4 (valV kvs k) (VX vs k):=by
 unfold KV at r
 induction r with
 |nil=>exact True.intro
 | @cons p q ps qs h t ih=>
   obtain⟨h1,h2⟩:=h
   by_cases e:p.1=k
   .have e':=h1.symm.trans e;have b:VX (q::qs) k=some q.2:=by simp[VX,WT,e']
    rw[j8 e,b];exact h2
   .have e':¬q.1=k:=λz=>e (h1.trans z);have b:VX (q::qs) k=VX qs k:=by simp[VX,WT,e']
    rw[jc e,b];exact ih
theorem KV.any{kvs:List (κ×V)}{vs:List (κ×Z0)}(r:KV kvs vs)(k:κ):(kvs.any λkv=>decide (kv.1=k))=vs.any λkv=>decide (kv.1=k):=by
 unfold KV at r
 induction r with
 |nil=>rfl
 |cons h t ih=>rw[WS,WS,ih,h.1]
def KV.repl{kvs:List (κ×V)}{vs:List (κ×Z0)}(r:KV kvs vs)(k:κ){y:V}{u:Z0}(ry:bz y u):KV (kvs.map λkv=>if kv.1=k then(kv.1,y)else kv) (vs.map λkv=>if kv.1=k then(kv.1,u)else kv):=by
 unfold KV at r ⊢
 induction r with
 |nil=>exact .nil
 | @cons p q ps qs h t ih=>
   rw[WI,WI];refine .cons ?_ ih;obtain⟨h1,h2⟩:=h
   by_cases e:p.1=k
   .rw[R9 e,R9 (h1.symm.trans e)];exact⟨h1,ry⟩
   .rw[R8 e,R8 (λz=>e (h1.trans z))];exact⟨h1,h2⟩
def KV.put{kvs:List (κ×V)}{vs:List (κ×Z0)}(r:KV kvs vs)(k:κ){y:V}{u:Z0}(ry:bz y u):KV (mS kvs k y) (stored vs k u):=by
 unfold mS stored;rw[r.any k]
 by_cases e:(vs.any λkv=>decide (kv.1=k))=true
 .rw[R9 e,R9 e];exact r.repl k ry
 .rw[R8 e,R8 e];exact Paired.snoc r ⟨rfl,ry⟩
theorem KV.length{kvs:List (κ×V)}{vs:List (κ×Z0)}(r:KV kvs vs):kvs.length=vs.length:=VQ r
end
def vH(r:bz (kV k) u):(cU P w).is k u=true:=by
 cases k with
 |inl i=>obtain⟨t,e⟩:=(show∃t,u=UO i t from r);subst e;exact vA P w i t
 |inr x=>obtain⟨t,e⟩:=(show∃t,u=Uk x t from r);subst e;exact kj P w x t
theorem qX:∀{ks:List Key}{us:List Z0},bZ (ks.map kV) us->ItemsAre (cU P w) ks us
 | [],_,r=>by rw[Xc]at r;cases r;exact .nil
 |k::ks,_,r=>by
  rw[WI]at r;cases r with
  |cons h t=>exact .cons (vH h) (qX t)
abbrev KT(H:Hp):List (List Key×V)->List (List Key×Z1×Z0)->Prop:=Vl λp q=>p.1=q.1/\H q.2.1=some (.tup (p.1.map kV))/\bz p.2 q.2.2
def KT.val(r:KT H kvs xs)(k:List Key):j4 (valV kvs k) ((Wi xs k).map (·.2)):=by
 induction r with
 |nil=>exact True.intro
 | @cons p q ps qs h t ih=>
   obtain⟨h1,_,h2⟩:=h
   by_cases e:p.1=k
   .have e':=h1.symm.trans e;have b:Wi (q::qs) k=some q.2:=by simp[Wi,WT,e']
    rw[j8 e,b];exact h2
   .have e':¬q.1=k:=λz=>e (h1.trans z);have b:Wi (q::qs) k=Wi qs k:=by simp[Wi,WT,e']
    rw[jc e,b];exact ih
def KT.repl(r:KT H kvs xs)(k:List Key)(ry:bz y u):KT H (kvs.map λkv=>if kv.1=k then(kv.1,y)else kv) (xs.map (putAt k u)):=by
 induction r with
 |nil=>exact .nil
 | @cons p q ps qs h t ih=>
   rw[WI,WI];refine .cons ?_ ih;obtain⟨h1,h2,h3⟩:=h;unfold putAt
   by_cases e:p.1=k
   .rw[R9 e,R9 (h1.symm.trans e)];exact⟨h1,h2,ry⟩
   .rw[R8 e,R8 (λz=>e (h1.trans z))];exact⟨h1,h2,h3⟩
def KT.put(r:KT H kvs xs)(k:List Key)(hb:H b=some (.tup (k.map kV)))(ry:bz y u):KT H (mS kvs k y) (storedH xs k b u):=by
 have e:(kvs.any λkv=>decide (kv.1=k))=(Wi xs k).isSome:=by rw[oy,(r.val k).isSome_eq,Option.isSome_map]
 unfold mS storedH;rw[e]
 by_cases q:(Wi xs k).isSome=true
 .rw[R9 q,R9 q];exact r.repl k ry
 .rw[R8 q,R8 q];exact Paired.snoc r ⟨rfl,hb,ry⟩
def KT.keeps(r:KT H kvs xs)(ht:∀b ys,H b=some (.tup ys)->H' b=some (.tup ys)):KT H' kvs xs:=
 Paired.mapP r λ_ _ z=>⟨z.1,ht _ _ z.2.1,z.2.2⟩
section
def J1(ok:kT P w H h)(e:Rd H a u):cb P w H h a u:=e.ok ok
def DG(ok:kT P w H h)(e:Rd H a (.dK kvs)):kvs.length<=h9/\(a == Ts)=false/\∃vs,KV kvs vs/\h.DictOf (cU P w) a vs:=
 show cb P w H h a (.dK kvs)from J1 ok e
def P7(ok:kT P w H h)(e:H a=some (.dK kvs)):kvs.length<=h9/\(a == Ts)=false/\∃vs,KV kvs vs/\h.DictOf (cU P w) a vs:=DG ok (.inl e)
def xp(ok:kT P w H h)(e:H a=some (.tup (ks.map kV))):(VG (cU P w)).is h ks a:=by obtain⟨_,its,r,o,h1,h2,n,h3⟩:=(show cb P w H h a (.tup (ks.map kV))from ok a _ e);exact⟨o,its.toArray,n,h1,h2,h3,by simpa using qX r⟩
def DE(ok:kT P w H h)(e:Rd H a (.dT kvs)):kvs.length<=h9/\(a == Ts)=false/\∃xs,KT H kvs xs/\h.DictOfH (VG (cU P w)) a xs:=by
 obtain⟨z,y,xs,r,o,es,ep,h1,h2,h3,h4,h5⟩:=(show cb P w H h a (.dT kvs)from J1 ok e);refine⟨z,y,xs,r,o,es,ep,h1,h2,h3,h4,λx hx=>?_,h5⟩;have all:∀{l:List (List Key×V)}{m:List (List Key×Z1×Z0)},KT H l m->∀x∈m,(VG (cU P w)).is h x.1 x.2.1:=by
  intro l m q
  induction q with
  |nil=>intro x hx;exact nomatch hx
  | @cons p q ps qs hq t ih=>
    intro x hx
    rcases Wn.mp hx with e|hx
    .subst e;exact xp ok (by rw[<-hq.1];exact hq.2.1)
    .exact ih x hx
 exact all r x hx
def P6(ok:kT P w H h)(e:H a=some (.dT kvs)):kvs.length<=h9/\(a == Ts)=false/\∃xs,KT H kvs xs/\h.DictOfH (VG (cU P w)) a xs:=DE ok (.inl e)
end
def xZ(H:Hp)(a:Z1)(y:V)(r:Option V):Prop:=
 (∃kvs k,Rd H a (.dK kvs)/\y=kV k/\r=valV kvs k)\/∃kvs k b,Rd H a (.dT kvs)/\y=.ref b/\H b=some (.tup (k.map kV))/\r=valV kvs k
def Bk(H:Hp)(a:Z1)(y v:V)(H':Hp):Prop:=
 (∃kvs k,H a=some (.dK kvs)/\y=kV k/\kvs.length<h9/\H'=upd H a (.dK (mS kvs k v)))\/
 ∃kvs k b,H a=some (.dT kvs)/\y=.ref b/\H b=some (.tup (k.map kV))/\kvs.length<h9/\H'=upd H a (.dT (mS kvs k v))
def xZ.k{H:Hp}{a:Z1}{kvs:List (Key×V)}{k:Key}(e:H a=some (.dK kvs)):xZ H a (kV k) (valV kvs k):=.inl ⟨kvs,k,.inl e,rfl,rfl⟩
def Bk.k{H:Hp}{a:Z1}{kvs:List (Key×V)}{k:Key}{v:V}(e:H a=some (.dK kvs))(hl:kvs.length<h9):Bk H a (kV k) v (upd H a (.dK (mS kvs k v))):=.inl ⟨kvs,k,e,rfl,hl,rfl⟩
section
variable{X:Cx}{R1:Sh}{σ:St}{H:Hp}{s:So}{a:Z1}{y v:V}{u r:Z0}{A:S5}{E:Sg}
def aT.big(I:aT X R1 σ H s):Ts<s.heap.objs.size:=by have h:=(I.mod.glob.keeps I.bk).lt;exact Yo (by decide) h
def AX(hu:A.units+1<Tz)(I:aT X R1 σ H s)(g:xZ H a y (some v))(ry:bz y u)(h:∀w' s',aT X R1 σ H s'->bz v w'->Q w' s'):Sn (Su X.prog X.w) A (Vk (.ref a) u) Q E s:=by
 rcases g with⟨kvs,k,e,ey,l⟩|⟨kvs,k,b,e,ey,eb,l⟩
 .subst ey;obtain⟨z,hd,vs,rel,dd⟩:=DG I.hok e;obtain⟨w',hw,rw'⟩:=j4.some_of (by rw[l];exact rel.val k);exact wpAny_getItem_of (vH ry) dd.mapOf hw (h w' _ (I.tok _) rw')
 .subst ey;cases(show u=Sx b from ry);obtain⟨z,hd,xs,rel,dd⟩:=DE I.hok e;obtain⟨w',hw,rw'⟩:=j4.some_of (by rw[l];exact rel.val k);obtain⟨p,hp,hp2⟩:=Y7.mp hw;refine wpAny_getItem_heap (tupleKind_room_in1 hu) (xp I.hok eb) dd hp ?_;rw[hp2];exact h w' _ (I.tok _) rw'
def zC(I:aT X R1 σ H s)(mu:Qn (H a))(hs:Td a s.heap h')(he:∃q,h'.get? a=some q)(new:cb X.prog X.w (upd H a ob) h' a ob):aT X R1 σ (upd H a ob) {s with heap:=h',toks:=t'}:=
 I.write mu (.inl rfl) (λb q hb z=>(hs.2 b hb).trans z) he new
def dk_new(z:kvs.length<=h9)(hd:(a == Ts)=false)(rel:KV kvs vs)(dd:h'.DictOf (cU P w) a vs):cb P w H' h' a (.dK kvs):=⟨z,hd,vs,rel,dd⟩
def AW(hu:A.units+1<Tz)(I:aT X R1 σ H s)(g:Bk H a y v H')(ry:bz y u)(rv:bz v r)(h:∀s',aT X R1 σ H' s'->Q () s'):Sn (Su X.prog X.w) A (We (.ref a) u r) Q E s:=by
 rcases g with⟨kvs,k,e,ey,l,eH⟩|⟨kvs,k,b,e,ey,eb,l,eH⟩
 .subst ey eH;obtain⟨z,hd,vs,rel,dd⟩:=P7 I.hok e;have hz:vs.length<=h9:=by rw[<-rel.length];exact z
  have hl:(mS kvs k v).length<=h9:=by have:=nG kvs k v;omega
  refine wpAny_setItem_pairs (hsz:=hz) (vH ry) dd λh' dd' hs=>h _ ?_;have he:∃q,h'.get? a=some q:=let ⟨q,_,_,hq,_⟩:=dd';⟨q,hq⟩;exact zC I (by rw[e];exact True.intro) hs he (dk_new hl hd (rel.put k rv) dd')
 .subst ey eH;cases(show u=Sx b from ry);obtain⟨z,hd,xs,rel,dd⟩:=P6 I.hok e;have hz:xs.length<=h9:=by rw[<-VQ rel];exact z
  have hl:(mS kvs k v).length<=h9:=by have:=nG kvs k v;omega
  refine wpAny_setItem_heap (tupleKind_room_in1 hu) (xp I.hok eb) dd λh' dd' hs=>h _ ?_;obtain⟨q,es,ep,hq,h2,h3,h4,_,h5⟩:=dd';refine zC I (by rw[e];exact True.intro) hs ⟨q,hq⟩ ⟨hl,hd,_,(rel.put k eb rv).keeps λc ys ec=>?_,q,es,ep,hq,h2,h3,h4,h5⟩;rw[av (Pp ec e (λz=>nomatch z))];exact ec
end
def FO(i:S8):Prop:= ∀ov iv,VA i false ov iv=operate [ov,iv] (Vk ov iv)
def yf{E:Sg}{s:So}{T id:String}{Q:Sg}(hl:Vi (.type T) "__getitem__"=pure (some (.builtin id)))(hs:FO slice)(h:Sn (Su prog w) A (Tj value env) (λo s₁=>Sn (Su prog w) A (Tj slice env) (λi s₂=>s₂.TypeIs o T/\Sn (Su prog w) A (Vk o i) Q E s₂) E s₁) E s):Sn (Su prog w) A (Tj (.Subscript value slice pos) env) Q E s:=by
 refine Subscript_ (SL h (λo s₁ h₁=>SL h₁ (λi s₂ h₂=>?_) λ_ _ x=>x) λ_ _ x=>x);obtain⟨hT,h₂⟩:=h₂;unfold VN;refine Si ?_;rw[getitemInPython_of_ne hT.not_modules];refine Si (UA hT hl ?_);have fin:Sn (Su prog w) A (VA slice false o i) (λr s₃=>Sn (Su prog w) A (letTemporaryGo value o r >>= λ_=>pure r) Q E s₃) E s₂:=by rw[hs o i];exact wpAny_operating (SL h₂ (λr s₃ h₃=>Si (wpAny_letTemporaryGo (Sk h₃))) λ_ _ x=>x)
 first
  |exact Sk (Si fin)
  |exact Si (Sk (Si fin))
  |exact Si fin
def vT{X:Cx}{R1:Sh}{σ:St}{H:Hp}{s:So}{a:Z1}{y:V}{o:Option V}(I:aT X R1 σ H s)(g:xZ H a y o):s.TypeIs (.ref a) "dict":=by
 rcases g with⟨kvs,k,e,_,_⟩|⟨kvs,k,b,e,_,_,_⟩
 .obtain⟨_,_,vs,_,dd⟩:=DG I.hok e;exact dd.typeIs
 .obtain⟨_,_,xs,_,dd⟩:=DE I.hok e;exact dd.typeIs
def BL(td ty:TE):TE:=λσ H Q=>td σ H λx H1=>ty σ H1 λy H2=>∃a v,x=.ref a/\xZ H2 a y (some v)/\Q v H2
def yD(td ty tv:TE):TS:=λD σ H=>tv σ H λv H1=>td σ H1 λx H2=>ty σ H2 λy H3=>∃a H4,x=.ref a/\Bk H3 a y v H4/\D.nx σ H4
section
def ER(hu:X.A.units+1<Tz)(ho:PE X o td)(hi:PE X i ty)(hs:FO i):PE X (.Subscript o i pos) (BL td ty):=by intro R1 s σ H Q I h;refine yf PySem.F.slot_dict_getitem.lookup hs (cK (ho R1 s σ H _ I h) λu s1 ⟨x,H1,I1,rx,q1⟩=>cK (hi R1 s1 σ H1 _ I1 q1) λiv s2 ⟨y,H2,I2,ry,a,v,ex,g,q2⟩=>?_);subst ex;obtain rfl:u=Sx a:=rx;exact⟨vT I2 g,AX hu I2 g ry λw' s3 I3 rw'=>⟨v,H2,I3,rw',q2⟩⟩
def EL(hu:X.A.units+1<Tz)(ho:PE X o td)(hi:PE X i ty)(hv:PE X value tv)(hs:Uh value (some (.Subscript o i pos')) pos.line X.env=pure false):PS X (.Assign [.Subscript o i pos'] value pos) (yD td ty tv):=by intro R1 s σ H D I h;refine wpAny_Assign_Subscript (cK (hv R1 s σ H _ I h) λr s1 ⟨v,H1,I1,rv,q1⟩=>cK (ho R1 s1 σ H1 _ I1 q1) λu s2 ⟨x,H2,I2,rx,q2⟩=>cK (hi R1 s2 σ H2 _ I2 q2) λiv s3 ⟨y,H3,I3,ry,a,H4,ex,g,q3⟩=>?_) hs;subst ex;obtain rfl:u=Sx a:=rx;exact AW hu I3 g ry rv λs4 I4=>⟨σ,H4,I4,q3⟩
end
def DH(h:SD)(hb:Ts<h.objs.size):cb P w H (h.push {cls:=.type "dict",data:=.dict #[]}) h.objs.size (.dK []):=
 ⟨Yh _,beq_eq_false_iff_ne.mpr (Ne.symm (Yg hb)),[],.nil,Heap.DictOf.new h⟩
def KG:TE:=λ_ H Q=>∀p,H p=none->Q (.ref p) (upd H p (.dK []))
section
def CF:PE X (.Dict [] [] pos) KG:=λR1 s σ H Q I h=>
 wpAny_Dict_empty ⟨.ref s.heap.objs.size,_,I.laid (λ_ _ q=>Sj _ q) (Yd _) (DH s.heap I.big),rfl,h _ (I.hok.fresh (Yd _))⟩
end
end L2
namespace Att
open PySem PySem.W PySem.Calls PyProof.Rows
def oa:∀ns vs,WellAll P h vs (ns.map WData.int)->IntsAre vs ns:=by
 intro ns
 induction ns with
 |nil=>
  intro vs w;rw[Xc]at w;cases w;exact .nil
 |cons n ns ih=>
  intro vs w;rw[WI]at w;cases w with
  |cons a b=>
   cases a;exact .cons _ _ (ih _ b)
def Ag{l:OpenLaw}{n:Nat}(hn:l.most=some n){P:UD}{h:SD}{args:List WData}{vals:List Z0}(hpre:l.row.toRowW.claim.pre args=true)(hwl:WellAll P h vals args):∃a vs ns,vals=[Sx a]/\args=[WData.list (ns.map WData.int)]/\h.get? a=some {cls:=.type "list",data:=.seq vs.toArray}/\IntsAre vs ns/\ns.length<=n:=by
 have hsh:=(pre_splitW hpre).1;have hc:l.pre.holds [] {args:=args}=true:=(pre_splitW hpre).2;obtain⟨d,r,rfl,h1,h2⟩:=hasAllW_cons hsh;obtain rfl:=hasAllW_nil h2;obtain⟨xs,rfl,h3⟩:=hasW_list h1;obtain⟨ns,rfl⟩:=items_int h3;have hlen:ns.length<=n:=by
  unfold OpenLaw.pre at hc;have h4:(WTm.not (.lt (.lit (.int (n:Int))) (.len (.arg 0)))).holds [] {args:=[.list (ns.map .int)]}=true:=by have h4:=(holds_andW hc).1;rw[hn]at h4;exact h4
  have h5:=condW_of h4 (w_not (w_lt w_lit (w_len_list (w_arg rfl))));rw[Wm]at h5;refine Nat.le_of_not_lt λq=>?_;have q':(n:Int)<((ns.length:Nat):Int):=by omega
  first
   |(rw[R6 q']at h5;exact Sc h5 (by decide))
   |(simp at h5;omega)
 cases hwl with
 |cons w1 w2=>
  cases w2;cases w1 with
  |list ho hall=>exact⟨_,_,ns,rfl,rfl,ho,oa ns _ hall,hlen⟩
def Ap(l:OpenLaw)(args:List WData):l.row.toRowW.claim.post args (.bool true) args=true:=
 postW_of
  (show WShape.has [] (.bool true) .bool=true by first|rfl|decide|simp[WShape.has,WShape.arms,WShape.armsAll])
  (show(WTm.eq .res (.lit (.bool true))).value [] {args:=args,res:=some (.bool true),after:=args}=some (.bool (true == true))from w_eq_bool (w_res rfl) w_lit) rfl
def attach_call{l:OpenLaw}{n:Nat}{q:Ss}{loose:List Str}{XP:(Sf)->SD->Prop}{YP:World->SD->Prop}{d:DefRec}(hn:l.most=some n)(hdf:d.params.defaults=[])(call:∀w s₀ s₁ mg mb fa o pm cd doc a vs ns,
   Ground q loose [] XP w s₀ mg mb s₁.heap->YP w s₁.heap->
   s₁.heap.get? fa=some o->o.data=.func (docDef d.name d.params d.body d.scope pm cd doc)->s₁.heap.CodeRec cd d.name->mg d.name=some (.ref fa)->
   s₁.heap.get? a=some {cls:=.type "list",data:=.seq vs.toArray}->IntsAre vs ns->ns.length<=n->s₁.gens= #[]->
   TN (Su l.prog w) VI (.call (.ref fa) ⟨[.ref a],[]⟩) (λr s'=>r=.ok (.ret (.bool true))/\OldK s₁.heap s'.heap/\s'.os=s₁.os/\Ux s'.gens) s₁):WalkO q loose XP YP l.row.toRowW d [] (λf vs=>PySem.call f vs):=by
 intro w s₀ s₁ mg mb G Y fa o pm cd doc dV kV ho hd hcd hD hmg hg args vals as hpre hlay hrd hwl hlo;obtain rfl:dV=.none:=Dflts.none hD hdf;obtain rfl:kV=.none:=Dflts.noKw hD;obtain⟨a,vs,ns,rfl,rfl,hobj,hints,hlen⟩:=Ag hn hpre hwl;refine enter_call (S7 (call w s₀ s₁ mg mb fa o pm cd doc a vs ns G Y ho (fd_plain hd) hcd hmg hobj hints hlen hg) λr s' hq=>?_);obtain⟨rfl,h2,h3,h4⟩:=hq;exact⟨.inl ⟨.bool true,.bool true,[],rfl,λ_=>rfl,.bool true,Ap l _,λ_=>⟨List.Pairwise.nil,λ_ hm=>(nomatch hm)⟩⟩,h2,h3,h4⟩
end Att
namespace L2
open PySem PySem.Spec PyProof.Rows
theorem kC:∀{vs:List Z0}{ns:List Int},IntsAre vs ns->bZ (ns.map V.int) vs
 |_,_,.nil=>.nil
 |_,_,.cons n t h=>.cons ⟨t,rfl⟩ (kC h)
def Mz(H:Hp):Prop:= ∀b,H b=none\/∃o xs,H b=some (.frz o (.lst xs))
def CV{P:Ss}{w:World}{K:Frag}{mg mb:Sf}{CX:zN}{k:Nat}{fa a:Z1}{fd:SU}{x:Str}{sp:Sp}{s₁:So}{vs:List Z0}{ns:List Int}(KX:K.In s₁.heap)(hns:s₁.heap.Ns Sr mg)(hb:s₁.heap.Ns builtinsNs mb)(hbb:∀x:Str,x≠"__name__"->mb x=Sy x)(hlim:s₁.heap.NoLimit)(hg:s₁.gens= #[])(ha:s₁.heap.get? a=some {cls:=.type "list",data:=.seq vs.toArray})(hi:IntsAre vs ns)(hl:ns.length<=h9)(hr:eG k VI)(F:∀R4:SD,K.In R4->R4.Ns Sr mg->bM P w K mg R4 CX k fa fd [x] sp)(hbind:∀s u,VJ s fd ⟨[u],[]⟩ [(x,u)])(hsp:∀H:Hp,Mz H->aV K H a (ns.map V.int)->sp [.ref a] H (λv _=>v=.bl true) λ_ _ _=>False)(hCX:∀H e s',CX [] H s₁ (λ_ _ _=>False) e s'->False):TN (Su P w) VI (.call (.ref fa) ⟨[.ref a],[]⟩) (λr s'=>r=.ok (.ret (.bool true))/\OldK s₁.heap s'.heap/\s'.os=s₁.os/\Ux s'.gens) s₁:=by
 have rv:=kC hi;have lenV:=hi.length;have core:∀H:Hp,Mz H->aV K H a (ns.map V.int)->kT P w H s₁.heap->(∀b,H b≠none->b=a)->(H a≠none->K.lookup a=none)->
   TN (Su P w) VI (.call (.ref fa) ⟨[.ref a],[]⟩) (λr s'=>r=.ok (.ret (.bool true))/\OldK s₁.heap s'.heap/\s'.os=s₁.os/\Ux s'.gens) s₁:=by
  intro H hO hS hok hA hK;have base_of:∀{b:Z1}{o:Obj},s₁.heap.get? b=some o->H b=none->(tU s₁.heap H).get? b=some o:=λe n=>Db e n;have noA:∀{b:Z1}{o:Obj}{es:Array DictEntry}{ep:Nat},s₁.heap.get? b=some o->o.data=.dict es ep->H b=none:=λ{b o es ep} e d=>by
   cases q:H b with
   |none=>rfl
   |some u=>
    have e':=hA b (by rw[q];simp);subst e';rw[ha]at e;cases e;have d':=d;cases d'
  have nsK:∀{b:Z1}{m:Sf},s₁.heap.Ns b m->(tU s₁.heap H).Ns b m:=λ{b m} ⟨o,es,ep,e,d,r⟩=>⟨o,es,ep,base_of e (noA e d),d,r⟩;have hKb:K.In (tU s₁.heap H):=λb o e=>base_of (KX b o e) (by
   cases q:H b with
   |none=>rfl
   |some u=>
    have e':=hA b (by rw[q];simp);subst e';rw[hK (by rw[q];simp)]at e;cases e)
  have hM:Mod K mg (tU s₁.heap H):=⟨hKb,nsK hns,⟨mb,nsK hb,hbb⟩,let ⟨mc,h1,h2⟩:=hlim;⟨mc,nsK h1,h2⟩⟩;have e0:ux P w K mg (tU s₁.heap H) VI [] s₁ H:=⟨rfl,hM,λb o e=>E4 e,Ym (AO _ _),trivial,λb hb=>Sc (show b∈([]:List Z1)from hb) (by simp),hok,.of_eq hg⟩;refine S7 ((F _ hKb (nsK hns)).run VI [] s₁ H ⟨[.ref a],[]⟩ [.ref a] [.ref a] _ _ hr e0 (hbind s₁ (.ref a)) (.cons rfl .nil) (hsp H hO hS)) λr s' h=>?_;cases r with
  |error e=>exact(hCX H e s' h).elim
  |ok fl=>
   cases fl with
   |next=>exact False.elim h
   |brk=>exact False.elim h
   |cont=>exact False.elim h
   |ret u=>
    obtain⟨v,H',os,bare,un,hok',r',q⟩:=h;have q':=q;subst q';obtain rfl:u=VV true:=r';refine⟨rfl,OldK.of_keep λb o e=>?_,os,bare⟩;cases q:H b with
    |none=>exact un.keep b o e q (by intro z;exact Sc (show b∈([]:List Z1)from z) (by simp)) (by simp)
    |some u=>
     rcases hO b with z|⟨ob,xs,z⟩
     .rw[q]at z;cases z
     .have z2:=un.frzs b ob _ z;obtain⟨e1,_⟩:=hok b _ z;obtain⟨e2,_⟩:=hok' b _ z2;rw[e]at e1;cases e1;exact e2
 cases hk:K.lookup a with
 |some o=>
  have e:=KX a o hk;rw[ha]at e;cases e;refine core (λ_=>none) (λ_=>.inl rfl) (.inr ⟨_,vs.toArray,_,hk,rfl,rfl,rfl,by rw[Wt,lenV];exact hl,by simpa using jv.ints rv⟩) (λb u z=>by have z':=z;cases z') (λb z=>Sc rfl z) λz=>Sc rfl z
 |none=>
  refine core (λb=>if b=a then some (.frz {cls:=.type "list",data:=.seq vs.toArray} (.lst (ns.map V.int)))else none) (λb=>?_) (.inl (.inr ⟨{cls:=.type "list",data:=.seq vs.toArray},R9 rfl⟩)) (λb u z=>?_) (λb z=>?_) λ_=>hk
  .by_cases hb:b=a
   .exact .inr ⟨_,_,R9 hb⟩
   .exact .inl (R8 hb)
  .by_cases hb:b=a
   .have z':=(R9 hb).symm.trans z;cases z';subst hb;exact⟨ha,by rw[Wm];exact hl,vs,_,rv,ha⟩
   .have z':=(R8 hb).symm.trans z;cases z'
  .by_cases hb:b=a
   .exact hb
   .exact Sc (R8 hb) z
def Eg{l:PySem.W.OpenLaw}{n k:Nat}{q:Ss}{loose:List Str}{XP:(Sf)->SD->Prop}{YP:World->SD->Prop}{d:DefRec}{K:UD->Frag}{CX:World->zN}{sp:World->Sp}{x:Str}(hn:l.most=some n)(hn2:n<=h9)(hdf:d.params.defaults=[])(hr:eG k VI)(hY:∀(w:World)(h:SD),YP w h->(K w.params).In h)(F:∀(w:World)(mg:Sf)(fa:Z1)(h:SD),(K w.params).In h->h.Ns Sr mg->mg d.name=some (.ref fa)->
   ∃fd:SU,(∀(s:So)(u:Z0),VJ s fd ⟨[u],[]⟩ [(x,u)])/\
    ∀R4:SD,(K w.params).In R4->R4.Ns Sr mg->bM l.prog w (K w.params) mg R4 (CX w) k fa fd [x] (sp w)) (hsp:∀(w:World)(H:Hp)(a:Z1)(ns:List Int),ns.length<=n->Mz H->aV (K w.params) H a (ns.map V.int)->sp w [.ref a] H (λv _=>v=.bl true) λ_ _ _=>False) (hCX:∀(w:World)(H:Hp)(s:So)(e:Z0)(s':So),CX w [] H s (λ_ _ _=>False) e s'->False):PySem.W.WalkO q loose XP YP l.row.toRowW d [] (λf vs=>PySem.call f vs):=by
 refine Att.attach_call hn hdf λw s₀ s₁ mg mb fa o pm cd doc a vs ns G Y ho hd hcd hmg hobj hints hlen hg=>?_;have KX:=hY w _ Y;obtain⟨fd,hb,hF⟩:=F w mg fa _ KX G.T.g hmg;exact CV KX G.T.g G.T.b G.T.builtins G.T.nolimit hg hobj hints (Ye hlen hn2) hr hF hb (λH hO hS=>hsp w H a ns hlen hO hS) λH e s'=>hCX w H s₁ e s'
abbrev fM:zN:=λ_ _ _ _ _ _=>False
abbrev E0:XK:=λ_ _ _=>False
def Pg:xX fM X E0:=λ_ _ _ _ _ _ _ h=>h.elim
structure fg(K:Frag)(x qual:Str)(st:SQ)(f:Z1)(fd:SU):Prop where
 ex:∃oc od kV doc pm an cdv ct osl,
  fd=Zn x qual (ij st) (eY st) (ao st) .none kV doc pm an cdv ct/\K.lookup f=some ⟨oc,od,.func fd,osl⟩/\ZB K cdv qual=true
 kp:Zj K (.ref f)=true
section
variable{P:Ss}{w:World}{K:Frag}{mg:Sf}{R4:SD}
def fg.ok{x qual:Str}{st:SQ}{f:Z1}{fd:SU}{N ps:List Str}{k:Nat}{sp:Sp}(F:fg K x qual st f fd)(S:aN N ps (ao st))(len:∀vs H Q E,sp vs H Q E->vs.length=ps.length)(hbody:∀cdv A R5 s H vs Q E,eG k (A.deeper (SN qual (ao st) s.heap.objs.size f cdv))->sp vs H Q E->
   ∃t,rH (iZ fM P w K mg R4 N qual (ao st) f cdv A R5 s H E).nox (eY st) t/\t {nx:=λ_ H'=>Q .non H',rt:=Q} (iM N vs) H):bM P w K mg R4 fM (k+1) f fd ps sp:=by
 obtain⟨oc,od,kV,doc,pm,an,cdv,ct,osl,rfl,lk,hcd⟩:=F.ex;refine Kd lk hcd S len λA R5 s H vs Q E hr hsp=>?_;obtain⟨t,h,q⟩:=hbody cdv A R5 s H vs Q E hr hsp;exact⟨t,h.nox,q⟩
def fg.ok2{x qual:Str}{st:SQ}{f:Z1}{fd:SU}{N ps:List Str}{k:Nat}{sp:Sp}(F:fg K x qual st f fd)(S:aN N ps (ao st))(hbody:∀cdv A R5 s H vs Q E,eG k (A.deeper (SN qual (ao st) s.heap.objs.size f cdv))->(A.deeper (SN qual (ao st) s.heap.objs.size f cdv)).units+20<Tz->sp vs H Q E->
   ∃t,rH (iZ fM P w K mg R4 N qual (ao st) f cdv A R5 s H E).nox (eY st) t/\t {nx:=λ_ H'=>Q .non H',rt:=Q} (iM N vs) H) (len:∀vs H Q E,sp vs H Q E->vs.length=ps.length:=by intro _ _ _ _ h;(repeat rcases h with⟨_,h⟩);all_goals (subst_vars;rfl)):bM P w K mg R4 fM (k+1) f fd ps sp:=F.ok S len λc A o s H v Q E r h=>hbody c A o s H v Q E r (by have:=r.units;omega) h
def fg.binds{x qual:Str}{st:SQ}{f:Z1}{fd:SU}{ps:List Str}(F:fg K x qual st f fd)(h:∀kV doc pm an cdv ct us,us.length=ps.length->bindArgs (Zn x qual (ij st) (eY st) (ao st) .none kV doc pm an cdv ct) ⟨us,[]⟩=pure (ps.zip us)):j1 K fd ps []:=by obtain⟨oc,od,kV,doc,pm,an,cdv,ct,osl,rfl,lk,hcd⟩:=F.ex;exact .all (h kV doc pm an cdv ct)
def xu{x qual:Str}{st:SQ}{f:Z1}{oc:Z0}{od an:Option Z1}{osl:Array (Option Z0)}{kV doc pm cdv ct:Z0}(l:K.lookup f=some ⟨oc,od,.func (Zn x qual (ij st) (eY st) (ao st) .none kV doc pm an cdv ct),osl⟩)(c:ZB K cdv qual=true)(k:Zj K (.ref f)=true):fg K x qual st f (Zn x qual (ij st) (eY st) (ao st) .none kV doc pm an cdv ct):=⟨⟨oc,od,kV,doc,pm,an,cdv,ct,osl,rfl,l,c⟩,k⟩
end
section
variable{X:Cx}
def pv(i:Nat){x:Str}{pos:VL}(hN:X.N[i]? =some x:=by rfl)(hv:Kk X.env.scope x:=by first|exact Or.inl rfl|exact Or.inr (Or.inl rfl)|exact Or.inr (Or.inr rfl))(hd:(x == ("__debug__":Str))=false:=by decide)(hcd:(x == ("__classdict__":Str))=false:=by decide):PE X (.Name x pos) (OR i):=CC hN hv hd hcd
end
def km{A B:Prop}(h:B):if false=true then A else B:=by rw[R8 YD];exact h
def jG{A B:Prop}(h:A):if true=true then A else B:=by rw[R9 rfl];exact h
def ak(H H':Hp):Prop:= ∀b o,H b=some o->H' b=some o
def ak.refl(H:Hp):ak H H:=λ_ _ h=>h
def ak.trans(a:ak H H1)(b:ak H1 H2):ak H H2:=λc o h=>b c o (a c o h)
def ak.free(e:ak H H')(h:H' l=Option.none):H l=Option.none:=by
 cases q:H l with
 |none=>rfl
 |some o=>
  rw[e l o q]at h;cases h
def ak.seq{K:Frag}{H H':Hp}{a:Z1}{xs:List V}(e:ak H H')(h:aV K H a xs):aV K H' a xs:=by
 rcases h with(h|⟨o,h⟩)|h
 .exact .inl (.inl (e _ _ h))
 .exact .inl (.inr ⟨o,e _ _ h⟩)
 .exact .inr h
def mE(env:Wd):List (Str×NameKind)->List (Str×Z1)->List (Str×Z1)
 | [],cs=>cs
 |(n,k)::r,cs=>mE env r (if k == .free then(match env.cells.lookup n with|some a=>(n,a)::cs|none=>cs)else cs)
theorem ja(env:Wd):∀l cs,(∀x∈l,x.2=.free->∃c,env.cells.lookup x.1=some c)->(forIn l cs λ(x:Str×NameKind) r=>if(x.2 == Ud)=true then do let a<-cellOf env x.1;pure (ForInStep.yield ((x.1,a)::r))else pure (ForInStep.yield r):Sem (List (Str×Z1)))=pure (mE env l cs)
 | [],cs,_=>rfl
 |(n,k)::r,cs,h=>by
  have hr:∀x∈r,x.2=.free->∃c,env.cells.lookup x.1=some c:=λx hx=>h x (Wy _ hx);rw[Xq,mE]
  by_cases hk:(k == Ud)=true
  .obtain⟨c,hc⟩:=h (n,k) Wv (by simpa using hk);have hc':=hc;have e:cellOf env n=pure c:=by unfold cellOf;rw[hc']
   simp only[hk,if_true,e,pure_bind,hc'];exact ja env r _ hr
  .simp only[hk,if_false,pure_bind];exact ja env r _ hr
def li(h:∀x∈scope.names,x.2=.free->∃c,env.cells.lookup x.1=some c):closureFor scope env=pure (mE env scope.names []):=by have e:=ja env scope.names [] h;unfold closureFor;rw[bind_pure];exact e
theorem v4(env:Wd):∀l cs x c,cs.lookup x=some c->env.cells.lookup x=some c->(mE env l cs).lookup x=some c
 | [],_,_,_,h,_=>h
 |(n,k)::r,cs,x,c,h,e=>by
  rw[mE];refine v4 env r _ x c ?_ e;split
  .cases q:env.cells.lookup n with
   |none=>exact h
   |some a=>
    rw[WU];cases hx:x == n with
    |false=>exact h
    |true=>
     have:x=n:=by simpa using hx
     subst this;rw[q]at e;exact e
  .exact h
theorem pS(env:Wd):∀l cs x c,(∀y d,cs.lookup y=some d->env.cells.lookup y=some d)->(mE env l cs).lookup x=some c->env.cells.lookup x=some c
 | [],cs,x,c,h,e=>h x c e
 |(n,k)::r,cs,x,c,h,e=>by
  rw[mE]at e;refine pS env r _ x c ?_ e;intro y d q;split at q
  .cases z:env.cells.lookup n with
   |none=>rw[z]at q;exact h y d q
   |some a=>
    rw[z]at q;have q2:=q;rw[WU]at q2;cases hx:y == n with
    |false=>rw[hx]at q2;exact h y d q2
    |true=>
     rw[hx]at q2;have hyn:y=n:=by simpa using hx
     rw[hyn,z];exact q2
  .exact h y d q
theorem pT(env:Wd):∀l cs x c,(x,Ud)∈l->env.cells.lookup x=some c->(mE env l cs).lookup x=some c
 | [],_,_,_,h,_=>by simp at h
 |(n,k)::r,cs,x,c,h,e=>by
  rw[mE]
  rcases Wn.mp h with h|h
  .have h1:=(Se Prod.fst h).symm;have h2:k=Ud:=(Se Prod.snd h).symm;subst h1 h2;refine v4 env r _ n c ?_ e;rw[e];rw[R9 (by decide),WU];simp
  .exact pT env r _ x c h e
def md(scope:T8)(env:Wd)(x:Str):(VZ scope env).names.lookup x=(scope.names.lookup x).map λk=>if(k == .free&&env.scope.kind == .function&&env.kindOf x == some .cell)=true then VR else k:=by
 show(scope.names.map λ(p:Str×NameKind)=>if(p.2 == .free&&env.scope.kind == .function&&env.kindOf p.1 == some .cell)=true then(p.1,VR)else(p.1,p.2)).lookup x=_
 induction scope.names with
 |nil=>rfl
 |cons p r ih=>
  obtain⟨n,k⟩:=p;rw[WI];cases hx:x == n with
  |false=>
   have e1:List.lookup x ((n,k)::r)=List.lookup x r:=by rw[WU,hx]
   rw[e1];split<;>(rw[WU,hx];exact ih)
  |true=>
   have:x=n:=by simpa using hx
   subst this;have e1:List.lookup x ((x,k)::r)=some k:=by rw[WU,hx]
   rw[e1];split
   .rename_i hc;rw[WU,hx];show some VR=some (if _ then _ else _);rw[R9 hc]
   .rename_i hc;rw[WU,hx];show some k=some (if _ then _ else _);rw[R8 hc]
structure dS(X:Cx)(N:List Str)(src:List (Option Nat))(scope:T8):Prop where
 kind:scope.kind=.function
 nocell:∀y∈scope.names,y.2≠.cell
 names:∀y∈scope.names,y.2=.local->scope.names.lookup y.1=some .local
 fre:∀y∈scope.names,y.2=.free->X.env.kindOf y.1=some .cell\/X.env.kindOf y.1=some .free
 len:src.length=N.length
 nd:N.Nodup
 src:∀(j i:Nat)(x:Str),N[j]? =some x->src[j]? =some (some i)->X.N[i]? =some x/\scope.names.lookup x=some .free
def xE(dsc:T8)(XN N:List Str)(src:List (Option Nat))(scope:T8):Bool:=
 decide (scope.kind=.function)&&scope.names.all (λy=>decide (y.2≠.cell))&&scope.names.all (λy=> !decide (y.2=.local)||decide (scope.names.lookup y.1=some .local))&&
 scope.names.all (λy=> !decide (y.2=.free)||decide (dsc.names.lookup y.1=some .cell)||decide (dsc.names.lookup y.1=some .free))&&decide (src.length=N.length)&&decide N.Nodup&&
 (N.zip src).all λp=>match p.2 with
  |none=>true
  |some i=>decide (XN[i]? =some p.1)&&decide (scope.names.lookup p.1=some .free)
def dS.of{X:Cx}{XN N:List Str}{src:List (Option Nat)}(he:X.env.scope=dsc)(hN:X.N=XN)(h:xE dsc XN N src scope=true):dS X N src scope:=by
 subst he hN;unfold xE at h;simp only[YC,decide_eq_true_eq,WC,YN,YH,decide_eq_false_iff_not]at h;obtain⟨⟨⟨⟨⟨⟨h1,h2⟩,h3⟩,h4⟩,h5⟩,h6⟩,h7⟩:=h;refine⟨h1,h2,λy hy e=>?_,λy hy e=>?_,h5,h6,λj i x e1 e2=>?_⟩
 .rcases h3 y hy with q|q
  .exact Sc e q
  .exact q
 .rcases h4 y hy with(q|q)|q
  .exact Sc e q
  .exact .inl q
  .exact .inr q
 .have hm:(x,some i)∈N.zip src:=by
   have:(N.zip src)[j]? =some (x,some i):=by rw[XZ];exact⟨e1,e2⟩
   exact Ww this
  have q:=h7 _ hm;simpa using q
def cxC(X:Cx)(scope:T8)(N:List Str)(s:So)(H:Hp)(ex:List Z1):Cx:=
 {X with
  N:=N
  s₀:=s
  H₀:=H
  env:=compEnvC scope (mE X.env scope.names []) s.heap.objs.size X.env
  R5:=X.stack
  ex:=ex
  fn:=λ_=>false
  pn:=[]
  xe:=λ_ _=>False}
def gK(src:List (Option Nat))(σ:St):St:=src.map λo=>match o with|none=>none|some i=>(σ[i]?).join
section
variable{X:Cx}{R1:Sh}{σ:St}{H:Hp}{s:So}{N:List Str}{src:List (Option Nat)}{scope:T8}{ex:List Z1}
theorem dS.cells(S:dS X N src scope)(ok:X.Ok):∀x∈scope.names,x.2=.free->∃c,X.env.cells.lookup x.1=some c:=λx hx e=>ok.has _ (S.fre x hx e)
def aT.enterC(I:aT X R1 σ H s)(S:dS X N src scope)(hf:∀b∈ex,j5 X R1 H b)(hlt:∀b∈ex,b<s.heap.objs.size)(hns:h1.Ns s.heap.objs.size m)(hk:∀b o,s.heap.get? b=some o->h1.get? b=some o):aT (cxC X scope N s H ex) [] (gK src σ) H {s with heap:=h1,toks:=tk}:=by
 have sub:∀x c,(mE X.env scope.names []).lookup x=some c->X.env.cells.lookup x=some c:=λx c e=>pS X.env _ _ x c (λy d z=>by simp at z) e;refine⟨⟨I.ok.mod,S.kind,I.ok.glob,I.ok.blt,Yd _,λx y c e1 e2=>I.ok.inj x y c (sub x c e1) (sub y c e2),λx hx=>?_,λx c z=>Sc z (by simp[cxC]),I.ok.hd,I.ok.frames,.inl rfl,λb hb=>?_,I.bs,Ye I.ok.bsz I.sz,λb o e hb=>?_,λb hb hz=>?_,I.stack,I.stkFree⟩,
  rfl,I.bare,Un.kept hk,⟨m,hns,λj x v e1 e2 e3=>?_⟩,λx c e=>?_,I.hok.fresh (Yd _),λx c e=>I.freeC x c (sub x c e),λp hp=>Sc (show p∈([]:Sh)from hp) (by simp),I.hok.kept hk,?_⟩
 .have hx:(VZ scope X.env).names.lookup x=some .cell\/(VZ scope X.env).names.lookup x=some .free:=hx;have hm:(x,Ud)∈scope.names:=by
   rw[md]at hx;cases q:scope.names.lookup x with
   |none=>rw[q]at hx;simp at hx
   |some k=>
    have hm:=PySem.mem_of_lookup q;cases k with
    |free=>exact hm
    |cell=>exact Sc rfl (S.nocell _ hm)
    |_=>rw[q]at hx;simp at hx
  obtain⟨c,hc⟩:=S.cells I.ok _ hm rfl;exact⟨c,pT X.env _ _ x c hm hc⟩
 .obtain⟨f0,f1,f2,f3,f4,f5⟩:=hf b hb;exact⟨Yg (hlt b hb),λx c e=>f4 x c (sub x c e)⟩
 .obtain⟨f0,f1,f2,f3,f4,f5⟩:=hf b hb
  rcases f3 with z|z
  .exact I.ok.noex b o e z
  .exact Sc (Yi (Sl (I.ok.bs b o e).1) z) (Yk _)
 .obtain⟨f0,f1,f2,f3,f4,f5⟩:=hf b hb
  rcases Wn.mp (I.stkSub b hz)with z|z
  .exact f1 z
  .exact f2 z
 .have e2:=e2;unfold gK at e2;rw[Wr]at e2;cases q:src[j]? with
  |none=>rw[q]at e2;simp at e2
  |some o=>
   rw[q]at e2;cases o with
   |none=>simp at e2
   |some i=>
    have e2:(σ[i]?).join=some v:=by simpa using e2
    have e2:σ[i]? =some (some v):=by
     cases z:σ[i]? with
     |none=>rw[z]at e2;simp at e2
     |some w=>rw[z]at e2;simp at e2;rw[e2]
    obtain⟨hX,hfr⟩:=S.src j i x e1 q;have hm:=PySem.mem_of_lookup hfr;have hk2:=S.fre _ hm rfl;obtain⟨mX,hnX,hl⟩:=I.loc;have hvis:Kk X.env.scope x:=.inr hk2;obtain⟨u,r,l⟩:=hl i x v hX e2 hvis;refine⟨u,r,?_⟩
    rcases l with⟨l1,_⟩|⟨_,c,hc,hcell⟩
    .rcases hk2 with z|z
     .have:X.env.kindOf x=some .cell:=z;rw[l1]at this;cases this
     .have:X.env.kindOf x=some .free:=z;rw[l1]at this;cases this
    .refine .inr ⟨?_,c,pT X.env _ _ x c hm hc,?_⟩
     .show(VZ scope X.env).names.lookup x=some .cell\/(VZ scope X.env).names.lookup x=some .free;rw[md,hfr]
      by_cases hcc:(Ud == .free&&X.env.scope.kind == .function&&X.env.kindOf x == some .cell)=true
      .left
       show some (if _ then _ else _)=_;rw[R9 hcc]
      .right
       show some (if _ then _ else _)=_;rw[R8 hcc]
     .exact hcell.keeps hk
 .obtain⟨v,z⟩:=I.cell x c (sub x c e);exact⟨v,z.keeps hk⟩
 .unfold gK;rw[Wm];exact S.len
end
def we(X:Cx)(ifs:List S8)(t:TT):Prop:=
 ∀(R1:Sh)(s:So)(σ:St)(H:Hp)(Q:Bool->Hp->Prop),aT X R1 σ H s->t σ H Q->
  Sn (Su X.prog X.w) X.A (forIn ifs true λc r=>if r=true then do let ok<-isTrue c X.env (Tj c X.env);pure (ForInStep.yield ok)else pure (ForInStep.yield r)) (TP X R1 σ Q) X.xe s
def gJ:TT:=λ_ H Q=>Q true H
def bI:we X [] gJ:=λ_ _ _ H _ I h=>wpAny_tests_nil ⟨H,I,h⟩
def ki(h:PT X c t):we X [c] t:=λR1 s σ H Q I hw=>wpAny_tests_one (h R1 s σ H Q I hw)
def gq(g:TG)(tt:TT)(te:TE)(src:List (Option Nat))(σ:St)(Q:VK)(J:It)(H1:Hp):Prop:=
 ∃W:Nat->Nat->List V->St->Hp->Prop,(∃m,W 0 m [] (gK src σ) H1)/\∀i m ys σ' H',W i m ys σ' H'->
  (J.stop i H'/\∀p,H' p=none->Q (.ref p) (upd H' p (.lst ys)))\/
  (J.go i H'/\ys.length<h9/\∀x H2,J.yld i H' x H2->g x σ' H2 λσ3 H3=>tt σ3 H3 λb H4=>
   if b=true then te σ3 H4 λv H5=>∃m',m'<m/\W (i+1) m' (ys++[v]) σ3 H5 else∃m',m'<m/\W (i+1) m' ys σ3 H4)
def tComp(wi:TI)(g:TG)(tt:TT)(te:TE)(src:List (Option Nat)):TE:=λσ H Q=>wi σ H (gq g tt te src σ Q)
def zM(X:Cx)(R1:Sh)(σ:St)(Q:VK)(acc:Z0)(C:Z1)(r:Result)(s':So):Prop:=
 (∃f,r=.ok f)/\∃D H',acc=.ref D/\aT X R1 σ H' s'/\(∃m,s'.heap.Ns C m)/\j5 X R1 H' C/\Q (.ref D) H'
def uf(I:Nat->So->Prop)(turn:∀n s,I n s->Sn (Su prog w) A (TM it) (λr s₁=>match r with
   |none=>R (.ok .next) s₁
   |some v=>Sn (Su prog w) A (Ue target it v) (λ_ s₂=>Sn (Su prog w) A (VD target env v) (λ_ s₃=>
     Sn (Su prog w) A (forIn ifs true λc r=>if r=true then do let ok<-isTrue c env (Tj c env);pure (ForInStep.yield ok)else pure (ForInStep.yield r)) (λok s₄=>
      if ok=true then Sn (Su prog w) A (Tj elt env) (λx s₅=>Sn (Su prog w) A (call (.builtin "list.append") [acc,x]) (λ_ s₆=>∃m,m<n/\I m s₆) (λ_ _=>False) s₅) (λ_ _=>False) s₄
      else∃m,m<n/\I m s₄) (λ_ _=>False) s₃) (λ_ _=>False) s₂) (λ_ _=>False) s₁) (λ_ _=>False) s) (n:Nat) (h:I n s):TN (Su prog w) A (.compLoop (.ListComp elt [⟨target,iter,ifs,0⟩] scope pos) 0 it acc env) R s:=by
 refine codeAny_loop rfl I (λn s hI=>?_) n h;refine wpAny_noted ?_;rw[compTurn_list];refine Si (Ub (Si (SL (turn n s hI) (λr s₁ h₁=>?_) λ_ _ f=>f.elim)));cases r with
 |none=>exact Sk h₁
 |some v=>
  refine Si (SL h₁ (λ_ s₂ h₂=>?_) λ_ _ f=>f.elim);refine Si (SL h₂ (λ_ s₃ h₃=>Si (SL h₃ (λok s₄ h₄=>?_) λ_ _ f=>f.elim)) λ_ _ f=>f.elim);cases ok with
  |false=>exact Sk ⟨rfl,h₄⟩
  |true=>
   exact Si (Si (SL h₄ (λx s₅ h₅=>Si (SL h₅ (λ_ s₆ h₆=>Sk (Sk ⟨rfl,h₆⟩)) λ_ _ f=>f.elim)) λ_ _ f=>f.elim))
abbrev kP(us:List Z0)(k:Nat):Obj:={cls:=.type "list",data:=.seq us.toArray k}
section
def vX(hc:X.calm=true)(S:dS X N src scope)(hg:∀s H ex,PG (cxC X scope N s H ex) tg g)(ht:∀s H ex,we (cxC X scope N s H ex) ifs tt)(he:∀s H ex,PE (cxC X scope N s H ex) elt te)(h:RN X R1 σ tg (gq g tt te src σ Q) itv s2):Sn (Su X.prog X.w) X.A (newList []) (λacc s₃=>Sn (Su X.prog X.w) X.A (newFunctionEnv scope X.env.globals (mE X.env scope.names []) [] X.env.qual none .none (some X.env)) (λcenv s₄=>
   TN (Su X.prog X.w) X.A (.compStart (.ListComp elt [⟨tg,iter,ifs,0⟩] scope pos) 0 itv acc {cenv with scope:=VZ scope X.env}) (zM X R1 σ Q acc cenv.locals) s₄) E s₃) E s2:=by
 obtain⟨it,fp,tn,J,H1,e,I2,T,st2,f2,W,⟨m0,w0⟩,turn⟩:=h;subst e;refine Sz (wpAny_newFunctionEnv S.nocell (by intro y hy;simp at hy) (λh₁ hns₁ hsb₁=>?_) S.kind);dsimp only at hns₁ hsb₁ ⊢;generalize hH2:s2.heap.push {cls:=.type "list",dict:=none,data:=.seq ([]:List Z0).toArray}=H2 at hns₁ hsb₁ ⊢;have hC:H2.objs.size=s2.heap.objs.size+1:=by rw[<-hH2,SR]
 have push:∀b o,s2.heap.get? b=some o->H2.get? b=some o:=λb o e=>hH2▸Sj _ e;have hD2:H2.get? s2.heap.objs.size=some (kP [] 0):=hH2▸Sm _ rfl;have hk:∀b o,H2.get? b=some o->h₁.get? b=some o:=λb o e=>hsb₁.extBut b o (Yg (Sl e)) (Sj _ e);generalize hD:s2.heap.objs.size=D at*;have I3:aT X R1 σ H1 {s2 with heap:=H2}:=I2.kept (t':=s2.toks) push;have fD:j5 X R1 H1 D:=I2.fpOk (Ym hD) (I2.hok.fresh (Ym hD));have fpl:∀b∈fp,b<D:=λb hb=>by obtain⟨o,e,_⟩:=T.obj _ _ st2 b hb;rw[<-hD];exact Sl e
 have fex:∀b∈D::fp,j5 X R1 H1 b:=λb hb=>by
  rcases Wn.mp hb with z|z
  .rw[z];exact fD
  .exact f2 b z
 have lex:∀b∈D::fp,b<({s2 with heap:=H2}:So).heap.objs.size:=λb hb=>by
  show b<H2.objs.size
  rcases Wn.mp hb with z|z
  .rw[z,hC];exact Yr _
  .rw[hC];exact Yp (fpl b z)
 have I4:=I3.enterC (N:=N) S fex lex (h1:=h₁) (tk:=s2.toks+([]:List (Str×Z0)).length) hns₁ hk;generalize hY:cxC X scope N {s2 with heap:=H2} H1 (D::fp)=Y at*;have yP:Y.prog=X.prog:=by rw[<-hY];rfl
 have yw:Y.w=X.w:=by rw[<-hY];rfl
 have yA:Y.A=X.A:=by rw[<-hY];rfl
 have yC:Y.env.locals=H2.objs.size:=by rw[<-hY];rfl
 have yK:Y.K=X.K:=by rw[<-hY];rfl
 have yc:Y.calm=true:=by rw[<-hY];exact hc
 have yfs:Y.fs=iI X.stack:=by rw[<-hY];rfl
 have yex:Y.ex=D::fp:=by rw[<-hY];rfl
 have ypn:Y.pn=[]:=by rw[<-hY];rfl
 have yxe:Y.xe=λ_ _=>False:=by rw[<-hY];rfl
 have ycl:∀x c,Y.env.cells.lookup x=some c->X.env.cells.lookup x=some c:=by rw[<-hY];exact λx c e=>pS X.env _ _ x c (λy d z=>by simp at z) e
 have ye:Y.env=compEnvC scope (mE X.env scope.names []) H2.objs.size X.env:=by rw[<-hY];rfl
 have ys0:Y.s₀={s2 with heap:=H2}:=by rw[<-hY];rfl
 have yH0:Y.H₀=H1:=by rw[<-hY];rfl
 have hgY:PG Y tg g:=by rw[<-hY];exact hg _ _ _
 have htY:we Y ifs tt:=by rw[<-hY];exact ht _ _ _
 have heY:PE Y elt te:=by rw[<-hY];exact he _ _ _
 have nfs:∀b∈D::fp,b∉Y.fs:=λb hb z=>by
  rw[yfs]at z;obtain⟨f0,f1,f2',_⟩:=fex b hb
  rcases Wn.mp (I2.stkSub b z)with q|q
  .exact f1 q
  .exact f2' q
 have ncl:∀b∈D::fp,∀x c,Y.env.cells.lookup x=some c->c≠b:=λb hb x c e=>(fex b hb).2.2.2.2.1 x c (ycl x c e);have nC:∀b∈D::fp,b≠Y.env.locals:=λb hb=>by rw[yC];exact Yg (lex b hb)
 have stat:∀{H':Hp}{us:List Z0}{k:Nat},(∀b∈fp,H' b=none)->∀b∈fp,j5 Y [(D,kP us k)] H' b:=λ{H' us k} hn b hb=>
  ⟨hn b hb,nC b (Wy _ hb),nfs b (Wy _ hb),.inl (by rw[yex];exact Wy _ hb),ncl b (Wy _ hb),λp hp=>by
   rw[ypn]at hp;have hp1:p=(D,kP us k):=by simpa using hp
   rw[hp1];exact Yl (fpl b hb)⟩
 have pinD:∀{σ':St}{H':Hp}{s':So}{pl:Sh}{us:List Z0}{k:Nat},aT Y pl σ' H' s'->s'.heap.get? D=some (kP us k)->H' D=none->aT Y [(D,kP us k)] σ' H' s':=λ{σ' H' s' pl us k} I' e n=>
  I'.pins_of λp hp=>by
   have hp1:p=(D,kP us k):=by simpa using hp
   subst hp1;exact⟨e,n,nC D Wv,nfs D Wv,λv z=>by cases z⟩
 have I4':aT Y [(D,kP [] 0)] (gK src σ) H1 {s2 with heap:=h₁,toks:=s2.toks+([]:List (Str×Z0)).length}:=pinD I4 (hk _ _ hD2) fD.1;have loop:TN (Su X.prog X.w) X.A (.compLoop (.ListComp elt [⟨tg,iter,ifs,0⟩] scope pos) 0 (.ref it) (.ref D) Y.env) (zM X R1 σ Q (.ref D) H2.objs.size) {s2 with heap:=h₁,toks:=s2.toks+([]:List (Str×Z0)).length}:=by
  refine uf (λn s'=>∃i ys us k σ' H',aT Y [(D,kP us k)] σ' H' s'/\tn i s'.heap/\(∀b∈fp,H' b=none)/\bZ ys us/\ys.length<=h9/\W i n ys σ' H') ?_ m0
   ⟨0,[],[],0,_,H1,I4',T.keep _ _ _ st2 λb hb o e=>hk _ _ (push b o e),λb hb=>(f2 b hb).1,.nil,Yh _,w0⟩
  rintro n s3 ⟨i,ys,us,k,σ3,H3,I3',st3,fr3,rv,hz,w3⟩
  rcases turn i n ys σ3 H3 w3 with⟨stop,q⟩|⟨go,hlen,step⟩
  .have hd:=T.done Y yP yw yK yc i _ s3 σ3 H3 (λ_ _=>False) I3' (stat fr3) st3 stop;rw[yA]at hd;refine cK hd λr s4 ⟨hr,I4⟩=>?_;subst hr;obtain⟨eD,nD,_⟩:=I4.pin (D,kP us k) (by simp);have eD:s4.heap.get? D=some (kP us k):=eD;have nD:H3 D=none:=nD;have R4:Un (iI X.stack) (D::fp) H1 H3 H2 s4.heap:=by have b:=I4.R4;rw[yex,yH0,ys0,yfs]at b;exact b
   have hnD:∀b o,s2.heap.get? b=some o->b≠D:=λb o e=>by rw[<-hD];exact Yg (Sl e)
   have nx:∀b o,s2.heap.get? b=some o->b∉fp->b∉D::fp:=λb o e hb z=>(Wn.mp z).elim (hnD b o e) hb;have un:Un (iI X.stack) fp H1 (upd H3 D (.lst ys)) s2.heap s4.heap:=
    ⟨λb o e n hb hx=>R4.keep b o (push b o e) n hb (nx b o e hx),λb o e n hb hx=>R4.slot b o (push b o e) n hb (nx b o e hx),λb o e n hx=>by rw[av (hnD b o e)];exact R4.free b o (push b o e) n (nx b o e hx),
     λb o e hx=>R4.there b o (push b o e) (nx b o e hx),λb xs e=>by rw[av (ay e fD.1)];exact R4.tups b xs e,λb o u e=>by rw[av (ay e fD.1)];exact R4.frzs b o u e,
     λb ps e=>by rw[av (ay e fD.1)];exact R4.tbls b ps e⟩
   have hok:kT X.prog X.w (upd H3 D (.lst ys)) s4.heap:=λb u e=>by
    by_cases hb:b=D
    .subst hb;rw[aj]at e;cases e;exact⟨hz,us,k,rv,eD⟩
    .rw[av hb]at e;have x:=I4.hok b u e;rw[yP,yw]at x;exact x.stay (λc v _ z=>z) (λc z=>by rw[av (ay z nD)];exact z) λc xs z=>by rw[av (ay z nD)];exact z
   have ho:s4.os=s2.os:=by rw[I4.os,ys0]
   have J':aT X R1 σ (upd H3 D (.lst ys)) s4:=I2.call' (ch:=fp) ho un hok I4.bare λb hb=>⟨(f2 b hb).2.2.2.1,(f2 b hb).2.1,(f2 b hb).2.2.2.2.1,(f2 b hb).2.2.2.2.2⟩;refine⟨⟨_,rfl⟩,D,_,rfl,J',?_,?_,q D nD⟩
   .obtain⟨m,hm,_⟩:=I4.loc;rw[yC]at hm;exact⟨m,hm⟩
   .refine I2.fpOk (by rw[hC,hD];exact Yj _) ?_;rw[av (by rw[hC];exact Ys D)];have z:=I4.free;rw[yC]at z;exact z
  .have hd:=T.item Y yP yw yK yc i _ s3 σ3 H3 (λ_ _=>False) I3' (stat fr3) st3 go;rw[yA]at hd;refine cK hd λr s4 ⟨u,hr,h4⟩=>?_;subst hr;refine cK h4 λ_ s5 ⟨x,H5,I5,r5,y5,st5,fr5⟩=>?_;have I5':=I5.pinned (stat fr5) (T.obj _ _ st5);have hg':=hgY _ s5 σ3 H5 x u _ I5' r5 (step x H5 y5);rw[yP,yw,yA,yxe]at hg';refine cK hg' λ_ s6 ⟨σ6,H6,I6,q6⟩=>?_;have ht':=htY _ s6 σ6 H6 _ I6 q6;rw[yP,yw,yA,yxe]at ht';refine cK ht' λok s7 ⟨H7,I7,q7⟩=>?_;have again:∀{σ8:St}{H8:Hp}{s8:So}{ys':List V}{us':List Z0}{k' m':Nat},aT Y ([(D,kP us' k')]++jD fp s5.heap) σ8 H8 s8->bZ ys' us'->ys'.length<=h9->m'<n->W (i+1) m' ys' σ8 H8->
     ∃m,m<n/\∃i ys us k σ' H',aT Y [(D,kP us k)] σ' H' s8/\tn i s8.heap/\(∀b∈fp,H' b=none)/\bZ ys us/\ys.length<=h9/\W i m ys σ' H':=λ{σ8 H8 s8 ys' us' k' m'} I8 rv' hz' hm w8=>by
    refine⟨m',hm,i+1,ys',us',k',σ8,H8,I8.unpinned,T.keep _ _ _ st5 λb hb o e=>(I8.pin (b,o) (WL _ (WL _ (iD hb e)))).1,λb hb=>?_,rv',hz',w8⟩;obtain⟨o,e,d⟩:=T.obj _ _ st5 b hb;exact(I8.pin (b,o) (WL _ (WL _ (iD hb e)))).2.1
   cases ok with
   |false=>
    obtain⟨m',hm,w8⟩:=q7;exact again I7 rv hz hm w8
   |true=>
    rw[R9 rfl];have he':=heY _ s7 σ6 H7 _ I7 q7;rw[yP,yw,yA,yxe]at he';refine cK he' λu8 s8 ⟨v,H8,I8,r8,m',hm,w8⟩=>?_;obtain⟨eD,nD,_⟩:=I8.pin (D,kP us k) (by simp);have eD:s8.heap.get? D=some (kP us k):=eD;have nD:H8 D=none:=nD;have hl:=rv.length;refine UU F.slot_list_append ⟨_,eD,rfl⟩ F.entry_list_append (F.args_list_append_2 _ _) (PySem.list_append D us.toArray k u8 (by rw[Wt];omega)) ⟨eD,?_⟩;have q:=PySem.IsL.update eD (λa=>a.push u8);have eu:us.toArray.push u8=(us++[u8]).toArray:=by simp
    rw[eu]at q;obtain⟨k',q⟩:∃k',(s8.heap.update D (Tu λa=>a.push u8)).get? D=some (kP (us++[u8]) k'):=⟨_,q⟩;have I8':aT Y (jD fp s5.heap) σ6 H8 s8:=I8.pins_of λp hp=>I8.pin p (WL _ (WL _ hp));have I9:aT Y (jD fp s5.heap) σ6 H8 {s8 with heap:=s8.heap.update D (Tu λa=>a.push u8)}:=I8'.turned (it:=D) (t':=s8.toks) (λb o hb e=>(SA s8.heap _ (Ne.symm hb)).trans e) nD (nC D Wv)
     (.inl (by rw[yex];exact Wv)) (ncl D Wv) λp hp=>by
      rw[ypn]at hp;have hp:p∈jD fp s5.heap:=by simpa using hp
      exact Yg (fpl _ (qQ hp).1)
    refine again (us':=us++[u8]) (ys':=ys++[v]) (m':=m') (k':=k') (I9.pins_of λp hp=>?_) (rv.append (.cons r8 .nil)) (by rw[Wq,XA];omega) hm w8
    rcases WF.mp hp with z|z
    .have hp1:p=(D,kP (us++[u8]) k'):=by simpa using z
     subst hp1;exact⟨q,nD,nC D Wv,nfs D Wv,λv z=>by cases z⟩
    .exact I9.pin p (WL _ z)
 rw[ye]at loop;exact codeAny_compStart_list loop (T.self _ 0 _ _ _ (T.keep _ _ _ st2 λb hb o e=>hk _ _ (push b o e)) loop)
def ES(hc:X.calm=true)(S:dS X N src scope)(hi:PI X tg iter wi)(hg:∀s H ex,PG (cxC X scope N s H ex) tg g)(ht:∀s H ex,we (cxC X scope N s H ex) ifs tt)(he:∀s H ex,PE (cxC X scope N s H ex) elt te)(hs:∀x,T0 iter X.env x=pure x:=by intro _;rfl):PE X (.ListComp elt [⟨tg,iter,ifs,0⟩] scope pos) (tComp wi g tt te src):=by intro R1 s σ H Q I h;rw[eval_ListComp];refine U8 rfl hs (li (S.cells I.ok)) S.kind S.names (cK (hi R1 s σ H _ I h) λv s1 h1=>cK h1 λit s2 h2=>?_);refine cK (vX hc S hg ht he h2) λacc s3 h3=>cK h3 λcenv s4 h4=>S7 h4 λr s' hr=>?_;obtain⟨⟨f,rfl⟩,D,H',rfl,J,⟨m,hm⟩,hf,q⟩:=hr;refine⟨m,hm,λh' sb=>?_⟩;exact⟨.ref D,H',J.turned (λb o hb e=>(sb.2 b hb).trans e) hf.1 hf.2.1 hf.2.2.2.1 hf.2.2.2.2.1 hf.2.2.2.2.2,rfl,q⟩
def ie(hc:X.calm=true)(S:dS X N src scope)(hi:PI X tg iter wi)(hg:∀s H ex,PG (cxC X scope N s H ex) tg g)(ht:∀s H ex,we (cxC X scope N s H ex) ifs tt)(he:∀s H ex,PE (cxC X scope N s H ex) elt te)(hN:X.N.Nodup)(hy:X.N[i]? =some y)(hx:Kl X.env.scope y)(hsw:Uh (.ListComp elt [⟨tg,iter,ifs,0⟩] scope pos) (some (.Name y py)) spos.line X.env=pure true)(hf:X.fn y=true\/X.env.scope.names.lookup y=some .local)(hs:∀x,T0 iter X.env x=pure x:=by intro _;rfl):PS X (.Assign [.Name y py] (.ListComp elt [⟨tg,iter,ifs,0⟩] scope pos) spos) (tAsg (tComp wi g tt te src) (gName i)):=by
 intro R1 s σ H D I h;rw[exec_Assign_Name_used _ _ _ _ hsw];refine Si (Ub (Si ?_));show Sn _ X.A (do let _<-comprehension (.ListComp elt [⟨tg,iter,ifs,0⟩] scope pos) scope X.env _ (newList []) false (Tj iter X.env) (some (VD (.Name y py) X.env))) _ _ s;refine Si (SL (U8 (use:=some (VD (.Name y py) X.env)) (Q:=λ_ s'=>SP X R1 D .next s') rfl hs (li (S.cells I.ok)) S.kind S.names (cK (hi R1 s σ H _ I h) λv s1 h1=>cK h1 λit s2 h2=>?_)) (λ_ s' hq=>Sk (Sk hq)) λ_ _ e=>e);refine cK (vX hc S hg ht he h2) λacc s3 h3=>cK h3 λcenv s4 h4=>S7 h4 λr s' hr=>?_;obtain⟨⟨f,rfl⟩,D',H',rfl,J,⟨m,hm⟩,hfp,q⟩:=hr;show Sn _ X.A (VD (.Name y py) X.env (.ref D')) _ _ _;refine wpAny_assign_Name (qG J hN hy hx (v:=.ref D') rfl (λs5 I5 ⟨a,sb,ha⟩=>?_) hf);have hne:cenv.locals≠a:=by
  rcases ha with z|z
  .rw[z];exact hfp.2.1
  .exact Ne.symm (hfp.2.2.2.2.1 y a z)
 refine⟨m,hm.sameBut sb hne,λh' sb'=>?_⟩;exact⟨_,H',I5.turned (t':=s5.toks) (λb o hb e=>(sb'.2 b hb).trans e) hfp.1 hfp.2.1 hfp.2.2.2.1 hfp.2.2.2.2.1 hfp.2.2.2.2.2,q⟩
end
section
def PE.imp(h:PE X e t)(i:∀σ H Q,t' σ H Q->t σ H Q):PE X e t':=λR1 s σ H Q I q=>h R1 s σ H Q I (i σ H Q q)
def bQ.imp(h:bQ X f r)(i:∀xs H Q,r' xs H Q->r xs H Q):bQ X f r':=λR1 s σ H xs us Q I r q=>h R1 s σ H xs us Q I r (i xs H Q q)
def Bp.imp{id:String}(h:Bp X id r)(i:∀x xs H Q,r' x xs H Q->r x xs H Q):Bp X id r':=λR1 s σ H x xs v us Q I rx r q=>h R1 s σ H x xs v us Q I rx r (i x xs H Q q)
abbrev Str.tl(x:Str):List Nat:=x.cps.toList
def str_ext{x y:Str}(h:x.cps.toList=y.cps.toList):x=y:=by obtain⟨a⟩:=x;obtain⟨b⟩:=y;have:a=b:=Y4.mp h;rw[this]
def bV(x:Str):x.length=x.cps.toList.length:=by simp[Str.length]
def gF(x y:Str):(x++y).cps.toList=x.cps.toList++y.cps.toList:=by show(x.cps++y.cps).toList=_;simp
def Aw:kS X (Tg .LtE) (λx y H Q=>∃i j,x=.str i/\y=.str j/\Q (.bl (!decide (j.cps.toList<i.cps.toList))) H):=by intro R1 s σ H x y v u Q I rx ry h;obtain⟨i,j,rfl,rfl,q⟩:=h;obtain⟨t,rfl⟩:=rx;obtain⟨t',rfl⟩:=ry;exact PySem.P.le_str (fin_bl I q rfl)
def Em(x y:Str):(decide (0+y.length<=x.length)&&Builtin.Str.subAt x y 0)=y.cps.toList.isPrefixOf x.cps.toList:=by
 unfold Builtin.Str.subAt;rw[YF];simp only[YC,decide_eq_true_eq,beq_iff_eq,List.isPrefixOf_iff_prefix];rw[List.prefix_iff_eq_take];have e1:(x.cps.extract 0 (0+y.length)).toList=x.cps.toList.take y.cps.toList.length:=by rw[Array.toList_extract,bV];simp[List.extract]
 constructor
 .rintro⟨_,h⟩;rw[<-e1,h]
 .intro h;refine⟨?_,Y4.mp (e1.trans h.symm)⟩;have:=Se List.length h;rw[WJ]at this;rw[bV,bV];omega
def qB:Bp X "str.startswith" (λx vs H Q=>∃a b,x=.str a/\vs=[.str b]/\Q (.bl (b.cps.toList.isPrefixOf a.cps.toList)) H):=by intro R1 s σ H x xs v us Q I rx r h;obtain⟨a,b,rfl,rfl,q⟩:=h;obtain⟨t,rfl⟩:=rx;obtain⟨u,rfl,t',rfl⟩:=eZ r;refine call_gives F.slot_str_startswith (Uv _ _ _) F.entry_str_startswith (F.args_str_startswith_2 _ _) (gives_str_startswith a b t t') ?_;exact fin_bl I q (Em a b).symm
def kR(x:Str)(lo hi:Option Int):Str:=⟨((x.cps.toList.drop (HT.sIx x.length 0 lo)).take (HT.sIx x.length x.length hi - HT.sIx x.length 0 lo)).toArray⟩
theorem yG(l:List Nat):∀k i,i+k<=l.length->(List.range' i k).filterMap (λm=>l[m]?)=(l.drop i).take k
 |0,i,_=>by simp
 |k+1,i,h=>by have ih:=yG l k (i+1) (by omega);rw[List.range'_succ,Xa,Wp (by omega),Xr (by omega),List.take_succ_cons];rw[ih]
def Cu(x:Str)(i k:Nat)(h:i+k<=x.length):((List.range k).map λ(m:Nat)=>i+m).filterMap (x.cps[·]?)=(x.cps.toList.drop i).take k:=by have hx:x.cps.toList.length=x.length:=(bV x).symm;rw[<-List.range'_eq_map_range,<-yG _ _ _ (by omega)];congr 1;funext m;rw[YY]
def zb(lo hi:Option Int)(n:Nat):S0 lo hi 1 n=(List.range (HT.sIx n n hi - HT.sIx n 0 lo)).map λm=>HT.sIx n 0 lo+m:=by
 have cl:∀(v:Int)(d:Nat),max 0 (min (if v<0 then v+(n:Int)else v) (n:Int))=((HT.sIx n d (some v):Nat):Int):=λv d=>by
  show _=(((if v<0 then(v+(n:Int)).toNat else min v.toNat n):Nat):Int)
  by_cases hv:v<0
  .simp only[R9 hv];omega
  .simp only[R8 hv];omega
 have main:∀(a b:Nat),VS (a:Int) (b:Int) 1=(List.range (b - a)).map λm=>a+m:=λa b=>by
  have e:(if(1:Int) > 0 then(if(a:Int)<(b:Int)then((b:Int) - a+1 - 1) / 1 else 0)else(if(a:Int) > b then((a:Int) - b - 1 - 1) / (-1)else 0)).toNat=b - a:=by rw[R9 (by decide)];split<;>omega
  show(List.range (if(1:Int) > 0 then(if(a:Int)<(b:Int)then((b:Int) - a+1 - 1) / 1 else 0)else(if(a:Int) > b then((a:Int) - b - 1 - 1) / (-1)else 0)).toNat).map (λ(k:Nat)=>((a:Int)+1*(k:Int)).toNat)=_;rw[e];apply WK;intro m _;omega
 have e2:HT.sIx n n none=n:=rfl;unfold S0;simp only[show(1:Int) > 0 by decide,if_true];cases lo with
 |none=>
  cases hi with
  |none=>exact main 0 n
  |some h=>show VS ((0:Nat):Int) (max 0 (min (if h<0 then h+(n:Int)else h) (n:Int))) 1=_;rw[cl h n];exact main _ _
 |some l=>
  cases hi with
  |none=>show VS (max 0 (min (if l<0 then l+(n:Int)else l) (n:Int))) (n:Int) 1=_;rw[cl l 0];exact main _ _
  |some h=>show VS (max 0 (min (if l<0 then l+(n:Int)else l) (n:Int))) (max 0 (min (if h<0 then h+(n:Int)else h) (n:Int))) 1=_;rw[cl l 0,cl h n];exact main _ _
def Ab(x:Str)(lo hi:Option Int):(⟨((S0 lo hi 1 x.length).filterMap (x.cps[·]?)).toArray⟩:Str)=kR x lo hi:=by
 unfold kR;rw[zb];have h2:=HT.sIx_le x.length x.length (Yd _) hi
 by_cases h:HT.sIx x.length 0 lo<=HT.sIx x.length x.length hi
 .rw[Cu x _ _ (by omega)]
 .have e:HT.sIx x.length x.length hi - HT.sIx x.length 0 lo=0:=by omega
  rw[e];simp
def kL(x:Str)(lo hi:Option Int):(kR x lo hi).cps.toList=(x.cps.toList.drop (HT.sIx x.length 0 lo)).take (HT.sIx x.length x.length hi - HT.sIx x.length 0 lo):=by unfold kR;simp
def vV(x:Str)(lo hi:Option Int):(kR x lo hi).length<=x.length:=by rw[bV,kL,bV x,WJ,WH];omega
def xD{x:Str}{lo hi:Option Int}(h:(S0 lo hi 1 x.length).length=x.length):kR x lo hi=x:=by
 rw[zb,Wm,W1]at h;have h2:=HT.sIx_le x.length x.length (Yd _) hi;apply str_ext;rw[kL]
 by_cases z:x.length=0
 .have e:=W6.mp (by rw[<-bV];exact z);rw[e];simp
 .have e1:HT.sIx x.length 0 lo=0:=by omega
  rw[h,e1,Xd,WO (by rw[<-bV];exact Yd _)]
def Rt:V->Option Int->Option Int->Hp->VK->Prop:=λx lo hi H Q=>∃z,x=.str z/\z.length<=h9/\Q (.str (kR z lo hi)) H
def vo(p:Va v o):∃q:Option (Int×Tok),v=partValue q/\q.map (·.1)=o:=by
 cases p with
 |none=>exact⟨none,rfl,rfl⟩
 |int i t=>exact⟨some (i,t),rfl,rfl⟩
def KN:Bg X Rt:=by
 intro R1 s σ H x v vl vu lo hi sl Q I rx hs pl pu h;obtain⟨z,rfl,hz,q⟩:=h;obtain⟨t,rfl⟩:=rx;obtain⟨l,rfl,el⟩:=vo pl;obtain⟨u,rfl,eu⟩:=vo pu;refine⟨"str",_,F.slot_str_getitem.lookup,Uv _ _ _,?_⟩;obtain⟨o,ho,hc,hd⟩:=hs;refine wpAny_getItem_str_slice (st:=none) ⟨o,ho,hc,hd⟩ rfl ?_;unfold sliceMade slicePicked;rw[el,eu];split
 .rename_i hw;have hw:(S0 lo hi 1 z.length).length=z.length:=by simpa using hw
  rw[xD hw]at q;exact⟨.str z,H,I,⟨t,rfl⟩,q⟩
 .have e:=Ab z lo hi;have e':(⟨((S0 lo hi ((Option.map (·.1) (none:Option (Int×Tok))).getD 1) z.length).filterMap (z.cps[·]?)).toArray⟩:Str)=kR z lo hi:=e;rw[e'];exact⟨Ye (vV z lo hi) hz,⟨.str _,H,I.tok _,⟨_,rfl⟩,q⟩⟩
def qD:bQ X (.type "int") (λxs H Q=>∃x n,xs=[.str x]/\PySem.intText? x=some n/\x.length<=640/\Q (.int n) H):=by intro R1 s σ H xs us Q I r h;obtain⟨x,n,rfl,hn,hl,q⟩:=h;obtain⟨u,rfl,t,rfl⟩:=eZ r;exact PySem.W.KIN.call_text hn hl ⟨.int n,H,I.tok _,⟨_,rfl⟩,q⟩
theorem oB:∀{ys:List Str}{us:List Z0},bZ (ys.map V.str) us->StrsAre us ys
 | [],us,r=>by rw[Xc]at r;cases r;exact .nil
 |y::ys,us,r=>by
  rw[WI]at r;cases r with
  |cons r1 r2=>
   obtain⟨t,e⟩:=r1;subst e;exact .cons y t (oB r2)
def E5:Bp X "str.join" (λx vs H Q=>∃sep p ys,x=.str sep/\vs=[.ref p]/\aV X.K H p (ys.map V.str)/\(ys.map (·.length)).sum+ys.length*sep.length<=16777216/\Q (.str (VF sep ys)) H):=by intro R1 s σ H x xs v us Q I rx r h;obtain⟨sep,p,ys,rfl,rfl,hp,hz,q⟩:=h;obtain⟨t,rfl⟩:=rx;obtain⟨u,rfl,ru⟩:=eZ r;cases ru;obtain⟨its,rv,pl,hl⟩:=I.list hp;exact join_list pl.isList (by simpa using oB rv) hz λt' k=>⟨.str _,H,I.tok _,⟨t',rfl⟩,q⟩
def uC{its:List Z0}{ks:List Bool}(r:bZ (ks.map V.bl) its):TruthOf P w A (λi v=>its.toArray[i]? =some v) (λi=>ks.getD i false):=by
 intro i v s Q E hv hq;have hv:its[i]? =some v:=by simpa using hv
 have hlen:=r.length;rw[Wm]at hlen;have hi:i<its.length:=(Wz.mp hv).1;have hk:(ks.map V.bl)[i]? =some (V.bl (ks.getD i false)):=by rw[Wr,Wp (by omega),WD,Wp (by omega)];rfl
 obtain⟨u,hu,ru⟩:=r.get hk;rw[hv]at hu;cases hu;cases ru;exact Ta hq
def Ak(ks:List Bool):(List.range ks.length).all (λi=>ks.getD i false)=ks.all id:=by
 rw[YF,WC,WC]
 constructor
 .intro h b hb;obtain⟨i,hi,e⟩:=X0.mp hb;have:=h i (WG.mpr hi);rw[WD,Wp hi]at this;rw[<-e];exact this
 .intro h i hi;have hi:=WG.mp hi;rw[WD,Wp hi];exact h _ (WV hi)
def DQ(hc:X.calm=true):bQ X (.builtin "all") (λxs H Q=>∃(p:Z1)(ks:List Bool),xs=[.ref p]/\aV X.K H p (ks.map V.bl)/\Q (.bl (ks.all id)) H):=by
 intro R1 s σ H xs us Q I r h;obtain⟨p,ks,rfl,hp,q⟩:=h;obtain⟨u,rfl,ru⟩:=eZ r;cases ru;obtain⟨its,rv,pl,hl⟩:=I.list hp;have hlen:=rv.length;rw[Wm]at hlen;refine call_all_walk (Tn pl.isList ?_);have hne:p≠s.heap.objs.size:=by obtain⟨o,ho,_⟩:=pl.isList;exact Yg (Sl ho)
 have W:=VU (prog:=X.prog) (w:=X.w) (A:=X.A.in1) (show X.A.in1.handled=none from I.ok.hd hc) s.heap.objs.size p hne its.toArray;have hpush:∀o b ob,s.heap.get? b=some ob->(s.heap.push o).get? b=some ob:=λo b ob e=>Sj _ e;refine⟨_,_,_,_,_,_,λi=>ks.getD i false,rfl,W,⟨⟨_,Sm _ rfl,rfl,rfl⟩,pl.isList.at λo e=>hpush _ _ o e⟩,uC rv,λh' tk k=>?_⟩;have e:(List.range its.toArray.size).all (λi=>ks.getD i false)=ks.all id:=by rw[<-Ak,Wt,<-hlen]
 rw[e];refine⟨.bl _,H,I.kept (t':=tk) (h':=h') λb ob e=>k b ob ?_ (hpush _ b ob e),rfl,q⟩;intro hb;have:b=s.heap.objs.size:=by simpa using hb
 subst this;exact Sc (Sl e) (Yk _)
end
inductive rJ(K:Frag)(H:Hp):Nat->V->V->Bool->Prop
 |flat {n:Nat} {x y:V} (hx:flatV x=true) (hy:flatV y=true):rJ K H n x y (eqV x y)
 |same {n:Nat} {a:Z1}:rJ K H n (.ref a) (.ref a) true
 |len {n:Nat} {a b:Z1} {xs ys:List V} (ha:aV K H a xs) (hb:aV K H b ys) (hab:a≠b) (hl:xs.length≠ys.length):rJ K H (n+1) (.ref a) (.ref b) false
 |lst {n:Nat} {a b:Z1} {xs ys:List V} {es:Nat->Bool} (ha:aV K H a xs) (hb:aV K H b ys) (hab:a≠b) (hl:xs.length=ys.length)
   (he:∀i x y,xs[i]? =some x->ys[i]? =some y->rJ K H n x y (es i)):rJ K H (n+1) (.ref a) (.ref b) ((List.range xs.length).all es)
 |tup {n:Nat} {a b:Z1} {xs ys:List V} {es:Nat->Bool} (ha:dU K H a xs) (hb:dU K H b ys) (hab:a≠b)
   (he:∀i x y,xs[i]? =some x->ys[i]? =some y->rJ K H n x y (es i)):rJ K H (n+1) (.ref a) (.ref b) ((List.range (min xs.length ys.length)).all es&&xs.length == ys.length)
 |nref {n:Nat} {x:V} {a:Z1} {xs:List V} (hx:flatV x=true) (ha:aV K H a xs\/dU K H a xs):rJ K H n x (.ref a) false
 |refn {n:Nat} {x:V} {a:Z1} {xs:List V} (hx:flatV x=true) (ha:aV K H a xs\/dU K H a xs):rJ K H n (.ref a) x false
section
variable{X:Cx}{R1:Sh}{σ:St}{H:Hp}{s:So}
def hG(r:bZ xs its)(h:j<its.toArray.size):∃x,xs[j]? =some x/\bz x its.toArray[j]:=by
 have hl:=r.length;have hj:j<its.length:=by simpa using h
 have hx:xs[j]? =some (xs[j]'(by omega)):=Wp (by omega);obtain⟨u,hu,ru⟩:=r.get hx;refine⟨_,hx,?_⟩;have e:its.toArray[j]=u:=by rw[Wp hj]at hu;simpa using Sd hu
 rw[e];exact ru
def ud(I:aT X R1 σ H s):∀{n:Nat}{x y:V}{k:Bool},rJ X.K H n x y k->∀(A:S5),A.units+n<Tz->∀{u v:Z0},bz x u->bz y v->VW A s u v k:=by
 intro n x y k h
 induction h with
 |flat hx hy=>exact λA _ u v ru rv=>DD ru rv hx hy
 |same=>
  intro A _ u v ru rv;cases ru;cases rv;exact SeqAt.EqAt.same _
 |len ha hb hab hl=>
  intro A hu u v ru rv;cases ru;cases rv;obtain⟨its,r1,p1,_⟩:=I.list ha;obtain⟨its2,r2,p2,_⟩:=I.list hb;have l1:=r1.length;have l2:=r2.length;refine .of_refs hab (.lists_lengths p1.isList p2.isList (by simp;omega) (by omega))
 | @lst n a b xs ys es ha hb hab hl he ih=>
   intro A hu u v ru rv;cases ru;cases rv;obtain⟨its,r1,p1,_⟩:=I.list ha;obtain⟨its2,r2,p2,_⟩:=I.list hb;have l1:=r1.length;have l2:=r2.length;have e:(List.range xs.length).all es=(List.range its.toArray.size).all es:=by rw[Wt,l1]
   rw[e];refine .of_refs hab (.lists p1.isList p2.isList (by simp;omega) (by omega) λj h1 h2=>?_);obtain⟨x,hx,rx⟩:=hG r1 h1;obtain⟨y,hy,ry⟩:=hG r2 h2;exact ih j x y hx hy A.in1 (by show A.units+1+n<Tz;omega) rx ry
 | @tup n a b xs ys es ha hb hab he ih=>
   intro A hu u v ru rv;cases ru;cases rv;obtain⟨its,r1,p1,_⟩:=I.tuple ha;obtain⟨its2,r2,p2,_⟩:=I.tuple hb;have l1:=r1.length;have l2:=r2.length;have e:((List.range (min xs.length ys.length)).all es&&xs.length == ys.length)=((List.range (min its.toArray.size its2.toArray.size)).all es&&its.toArray.size == its2.toArray.size):=by rw[Wt,Wt,l1,l2]
   rw[e];refine .of_refs hab (.tuples (show s.heap.IsTuple a its.toArray from p1) (show s.heap.IsTuple b its2.toArray from p2) (by omega) λj h1 h2=>?_);obtain⟨x,hx,rx⟩:=hG r1 h1;obtain⟨y,hy,ry⟩:=hG r2 h2;exact ih j x y hx hy A.in1 (by show A.units+1+n<Tz;omega) rx ry
 | @nref n x a xs hx ha=>
   intro A hu u v ru rv;cases rv
   rcases ha with ha|ha
   .obtain⟨its,r1,p1,_⟩:=I.list ha;have hl:=p1.isList;cases x with
    |non=>cases ru;exact .none_list hl (by omega)
    |bl b=>cases ru;exact .bool_list b hl (by omega)
    |int b=>obtain⟨t,rfl⟩:=ru;exact .int_list b t hl (by omega)
    |str b=>obtain⟨t,rfl⟩:=ru;exact .str_list b t hl (by omega)
    |_=>simp[flatV]at hx
   .obtain⟨its,r1,p1,_⟩:=I.tuple ha;have hl:=p1;cases x with
    |non=>cases ru;exact .none_tuple hl (by omega)
    |bl b=>cases ru;exact .bool_tuple b hl (by omega)
    |int b=>obtain⟨t,rfl⟩:=ru;exact .int_tuple b t hl (by omega)
    |str b=>obtain⟨t,rfl⟩:=ru;exact .str_tuple b t hl (by omega)
    |_=>simp[flatV]at hx
 | @refn n x a xs hx ha=>
   intro A hu u v ru rv;cases ru
   rcases ha with ha|ha
   .obtain⟨its,r1,p1,_⟩:=I.list ha;have hl:=p1.isList;cases x with
    |non=>cases rv;exact .list_none hl (by omega)
    |bl b=>cases rv;exact .list_bool b hl (by omega)
    |int b=>obtain⟨t,rfl⟩:=rv;exact .list_int b t hl (by omega)
    |str b=>obtain⟨t,rfl⟩:=rv;exact .list_str b t hl (by omega)
    |_=>simp[flatV]at hx
   .obtain⟨its,r1,p1,_⟩:=I.tuple ha;have hl:=p1;cases x with
    |non=>cases rv;exact .tuple_none hl (by omega)
    |bl b=>cases rv;exact .tuple_bool b hl (by omega)
    |int b=>obtain⟨t,rfl⟩:=rv;exact .tuple_int b t hl (by omega)
    |str b=>obtain⟨t,rfl⟩:=rv;exact .tuple_str b t hl (by omega)
    |_=>simp[flatV]at hx
end
inductive uw(K:Frag)(H:Hp):Nat->V->V->Bool->Prop
 |len {n:Nat} {a b:Z1} {xs ys:List V} (ha:aV K H a xs) (hb:aV K H b ys) (hl:xs.length≠ys.length):uw K H (n+1) (.ref a) (.ref b) false
 |lst {n:Nat} {a b:Z1} {xs ys:List V} {es:Nat->Bool} (ha:aV K H a xs) (hb:aV K H b ys) (hl:xs.length=ys.length)
   (he:∀i x y,xs[i]? =some x->ys[i]? =some y->rJ K H n x y (es i)):uw K H (n+1) (.ref a) (.ref b) ((List.range xs.length).all es)
 |tup {n:Nat} {a b:Z1} {xs ys:List V} {es:Nat->Bool} (ha:dU K H a xs) (hb:dU K H b ys)
   (he:∀i x y,xs[i]? =some x->ys[i]? =some y->rJ K H n x y (es i)):uw K H (n+1) (.ref a) (.ref b) ((List.range (min xs.length ys.length)).all es&&xs.length == ys.length)
section
def Ln(hu:X.A.units+n<Tz):kS X (Tg .Eq) (λx y H Q=>∃k,uw X.K H n x y k/\Q (.bl k) H):=by
 intro R1 s σ H x y v u Q I rx ry h;obtain⟨k,h,q⟩:=h;cases h with
 | @len n a b xs ys ha hb hl=>
   cases rx;cases ry;obtain⟨its,r1,p1,_⟩:=I.list ha;obtain⟨its2,r2,p2,_⟩:=I.list hb;have l1:=r1.length;have l2:=r2.length;exact SeqAt.eq_list_lengthsAt p1.isList p2.isList (by simp;omega) (by omega) (fin_bl I q rfl)
 | @lst n a b xs ys es ha hb hl he=>
   cases rx;cases ry;obtain⟨its,r1,p1,_⟩:=I.list ha;obtain⟨its2,r2,p2,_⟩:=I.list hb;have l1:=r1.length;have l2:=r2.length;refine SeqAt.eq_listAt p1.isList p2.isList (by simp;omega) (by omega) (λj h1 h2=>?_) (fin_bl I q (by rw[Wt,l1]));obtain⟨x,hx,rx⟩:=hG r1 h1;obtain⟨y,hy,ry⟩:=hG r2 h2;exact ud I (he j x y hx hy) X.A.in1 (by show X.A.units+1+n<Tz;omega) rx ry
 | @tup n a b xs ys es ha hb he=>
   cases rx;cases ry;obtain⟨its,r1,p1,_⟩:=I.tuple ha;obtain⟨its2,r2,p2,_⟩:=I.tuple hb;have l1:=r1.length;have l2:=r2.length;refine SeqAt.eq_tupleAt (show s.heap.IsTuple a its.toArray from p1) (show s.heap.IsTuple b its2.toArray from p2) (by omega) (λj h1 h2=>?_) (fin_bl I q (by rw[Wt,Wt,l1,l2]));obtain⟨x,hx,rx⟩:=hG r1 h1;obtain⟨y,hy,ry⟩:=hG r2 h2;exact ud I (he j x y hx hy) X.A.in1 (by show X.A.units+1+n<Tz;omega) rx ry
def Lj(hu:X.A.units+n<Tz):kS X (Tg .NotEq) (λx y H Q=>∃k,uw X.K H n x y k/\Q (.bl (!k)) H):=by
 intro R1 s σ H x y v u Q I rx ry h;obtain⟨k,h,q⟩:=h;cases h with
 | @len n a b xs ys ha hb hl=>
   cases rx;cases ry;obtain⟨its,r1,p1,_⟩:=I.list ha;obtain⟨its2,r2,p2,_⟩:=I.list hb;have l1:=r1.length;have l2:=r2.length;exact U6 (SeqAt.RcNeAt.lists_lengths p1.isList p2.isList (by simp;omega) (by omega)) (fin_bl I q rfl)
 | @lst n a b xs ys es ha hb hl he=>
   cases rx;cases ry;obtain⟨its,r1,p1,_⟩:=I.list ha;obtain⟨its2,r2,p2,_⟩:=I.list hb;have l1:=r1.length;have l2:=r2.length;refine U6 (SeqAt.RcNeAt.lists p1.isList p2.isList (by simp;omega) (by omega) (λj h1 h2=>?_)) (fin_bl I q (by rw[Wt,l1]));obtain⟨x,hx,rx⟩:=hG r1 h1;obtain⟨y,hy,ry⟩:=hG r2 h2;exact ud I (he j x y hx hy) X.A.in1 (by show X.A.units+1+n<Tz;omega) rx ry
 | @tup n a b xs ys es ha hb he=>
   cases rx;cases ry;obtain⟨its,r1,p1,_⟩:=I.tuple ha;obtain⟨its2,r2,p2,_⟩:=I.tuple hb;have l1:=r1.length;have l2:=r2.length;refine U6 (SeqAt.RcNeAt.tuples (show s.heap.IsTuple a its.toArray from p1) (show s.heap.IsTuple b its2.toArray from p2) (by omega) (λj h1 h2=>?_)) (fin_bl I q (by rw[Wt,Wt,l1,l2]));obtain⟨x,hx,rx⟩:=hG r1 h1;obtain⟨y,hy,ry⟩:=hG r2 h2;exact ud I (he j x y hx hy) X.A.in1 (by show X.A.units+1+n<Tz;omega) rx ry
end
def lO(op:Operator)(x y:V)(H:Hp)(Q:VK):Prop:=match op,x,y with
 | .Add,.int i,.int j=>Q (.int (i+j)) H
 | .Add,.str i,.str j=>i.length+j.length<=h9/\Q (.str (i++j)) H
 | .Add,.ref a,.ref b=>K7 (.ref a) (.ref b) H Q
 | .Sub,.int i,.int j=>Q (.int (i - j)) H
 | .Mult,.int i,.int j=>Bl i j/\Q (.int (i*j)) H
 | .FloorDiv,.int i,.int j=>FR i j/\Q (.int (i / j)) H
 | .Mod,.int i,.int j=>0<j/\Q (.int (i % j)) H
 | .Pow,.int i,.int j=>MG i j/\Q (.int (i ^ j.toNat)) H
 |_,_,_=>False
section
variable{X:Cx}{a b c:S8}{ta tb tc:TE}{pos:VL}
def Lp(op:Operator):kS X (Uc op) (lO op):=by
 intro R1 s σ H x y v u Q I rx ry h;unfold lO at h;split at h
 .exact Lq R1 s σ H _ _ v u Q I rx ry ⟨_,_,rfl,rfl,h⟩
 .exact wU R1 s σ H _ _ v u Q I rx ry ⟨_,_,rfl,rfl,h.1,h.2⟩
 .exact Lo R1 s σ H _ _ v u Q I rx ry h
 .exact Lh R1 s σ H _ _ v u Q I rx ry ⟨_,_,rfl,rfl,h⟩
 .exact Lk R1 s σ H _ _ v u Q I rx ry ⟨_,_,rfl,rfl,h.1,h.2⟩
 .exact E1 R1 s σ H _ _ v u Q I rx ry ⟨_,_,rfl,rfl,h.1,h.2⟩
 .exact Ll R1 s σ H _ _ v u Q I rx ry ⟨_,_,rfl,rfl,h.1,h.2⟩
 .exact Li R1 s σ H _ _ v u Q I rx ry ⟨_,_,rfl,rfl,h.1,h.2⟩
 .exact h.elim
def eqB:V->V->Option Bool
 | .non,.non=>some true
 | .int i,.int j=>some (decide (i=j))
 | .bl i,.bl j=>some (decide (i=j))
 | .str i,.str j=>some (decide (i=j))
 | .non,.int _=>some false| .int _,.non=>some false| .non,.bl _=>some false| .bl _,.non=>some false| .non,.str _=>some false| .str _,.non=>some false
 | .int _,.str _=>some false| .str _,.int _=>some false| .bl _,.str _=>some false| .str _,.bl _=>some false
 |_,_=>none
def vR(h:eqB x y=some k):scal x y=true/\decide (x=y)=k:=by
 cases x<;>cases y<;>simp[eqB,scal]at h ⊢ <;>first|exact h|(subst h;rfl)
def bT(K:Frag)(op:CmpOp)(x y:V)(H:Hp)(Q:VK):Prop:=match op,x,y with
 | .Eq,.ref a,.ref b=>∃k,uw K H 20 (.ref a) (.ref b) k/\Q (.bl k) H
 | .NotEq,.ref a,.ref b=>∃k,uw K H 20 (.ref a) (.ref b) k/\Q (.bl (!k)) H
 | .Eq,x,y=>match eqB x y with|some k=>Q (.bl k) H|none=>False
 | .NotEq,x,y=>match eqB x y with|some k=>Q (.bl (!k)) H|none=>False
 | .Lt,.int i,.int j=>Q (.bl (decide (i<j))) H
 | .LtE,.int i,.int j=>Q (.bl (decide (i<=j))) H
 | .Gt,.int i,.int j=>Q (.bl (decide (j<i))) H
 | .GtE,.int i,.int j=>Q (.bl (decide (j<=i))) H
 | .Lt,.str i,.str j=>Q (.bl (decide (i.cps.toList<j.cps.toList))) H
 | .LtE,.str i,.str j=>Q (.bl (!decide (j.cps.toList<i.cps.toList))) H
 | .In,.str i,.str j=>Q (.bl (!(SV j i 0 j.length 1).isEmpty)) H
 | .NotIn,.str i,.str j=>Q (.bl (!(!(SV j i 0 j.length 1).isEmpty))) H
 | .In,x,.ref p=>yE K false x (.ref p) H Q
 | .NotIn,x,.ref p=>yE K true x (.ref p) H Q
 | .Is,x,.non=>Q (.bl (decide (x=.non))) H
 | .IsNot,x,.non=>Q (.bl (!decide (x=.non))) H
 |_,_,_=>False
def mU(op:CmpOp)(hu:X.A.units+20<Tz):kS X (Tg op) (bT X.K op):=by
 intro R1 s σ H x y v u Q I rx ry h;unfold bT at h;split at h
 .exact Ln hu R1 s σ H _ _ v u Q I rx ry h
 .exact Lj hu R1 s σ H _ _ v u Q I rx ry h
 .split at h
  .rename_i k e;obtain⟨h1,h2⟩:=vR e;exact Pn R1 s σ H _ _ v u Q I rx ry ⟨h1,by rw[h2];exact h⟩
  .exact h.elim
 .split at h
  .rename_i k e;obtain⟨h1,h2⟩:=vR e;exact Pi R1 s σ H _ _ v u Q I rx ry ⟨h1,by rw[h2];exact h⟩
  .exact h.elim
 .exact Pj R1 s σ H _ _ v u Q I rx ry ⟨_,_,rfl,rfl,h⟩
 .exact Pk R1 s σ H _ _ v u Q I rx ry ⟨_,_,rfl,rfl,h⟩
 .exact Pl R1 s σ H _ _ v u Q I rx ry ⟨_,_,rfl,rfl,h⟩
 .exact Pm R1 s σ H _ _ v u Q I rx ry ⟨_,_,rfl,rfl,h⟩
 .exact Au R1 s σ H _ _ v u Q I rx ry ⟨_,_,rfl,rfl,h⟩
 .exact Aw R1 s σ H _ _ v u Q I rx ry ⟨_,_,rfl,rfl,h⟩
 .exact Ax R1 s σ H _ _ v u Q I rx ry ⟨_,_,rfl,rfl,h⟩
 .exact sS R1 s σ H _ _ v u Q I rx ry ⟨_,_,rfl,rfl,h⟩
 .exact Ay R1 s σ H _ _ v u Q I rx ry h
 .exact sT R1 s σ H _ _ v u Q I rx ry h
 .exact Lm R1 s σ H _ _ v u Q I rx ry ⟨rfl,h⟩
 .exact EY R1 s σ H _ _ v u Q I rx ry ⟨rfl,h⟩
 .exact h.elim
def cc(i:Nat):TE:=λσ H Q=>match σ[i]? with|some (some v)=>Q v H|_=>False
def cv(i:Nat)(hN:X.N[i]? =some x:=by rfl)(hv:Kk X.env.scope x:=by first|exact Or.inl rfl|exact Or.inr (Or.inl rfl)|exact Or.inr (Or.inr rfl))(hd:(x == ("__debug__":Str))=false:=by decide)(hcd:(x == ("__classdict__":Str))=false:=by decide):PE X (.Name x pos) (cc i):=(CC hN hv hd hcd).imp λσ H Q h=>by
 unfold cc at h;split at h
 .rename_i v e;exact⟨v,e,h⟩
 .exact h.elim
def bh(hN:X.N[0]? =some x:=by rfl)(hv:Kk X.env.scope x:=by first|exact Or.inl rfl|exact Or.inr (Or.inl rfl)|exact Or.inr (Or.inr rfl))(hd:(x == ("__debug__":Str))=false:=by decide)(hc:(x == ("__classdict__":Str))=false:=by decide):PE X (.Name x pos) (cc 0):=cv 0 hN hv hd hc
def cA(hN:X.N[1]? =some x:=by rfl)(hv:Kk X.env.scope x:=by first|exact Or.inl rfl|exact Or.inr (Or.inl rfl)|exact Or.inr (Or.inr rfl))(hd:(x == ("__debug__":Str))=false:=by decide)(hc:(x == ("__classdict__":Str))=false:=by decide):PE X (.Name x pos) (cc 1):=cv 1 hN hv hd hc
def dL(hN:X.N[2]? =some x:=by rfl)(hv:Kk X.env.scope x:=by first|exact Or.inl rfl|exact Or.inr (Or.inl rfl)|exact Or.inr (Or.inr rfl))(hd:(x == ("__debug__":Str))=false:=by decide)(hc:(x == ("__classdict__":Str))=false:=by decide):PE X (.Name x pos) (cc 2):=cv 2 hN hv hd hc
def iJ(op:Operator)(ta tb:TE):TE:=λσ H Q=>ta σ H λx H1=>tb σ H1 λy H2=>lO op x y H2 Q
def aq(ha:PE X a ta)(hb:PE X b tb):PE X (.BinOp a op b pos) (iJ op ta tb):=J6 (Lp op) ha hb
def eP(K:Frag)(op:CmpOp)(ta tb:TE):TE:=λσ H Q=>ta σ H λx H1=>tb σ H1 λy H2=>bT K op x y H2 Q
def ib(Q:Bool->Hp->Prop):VK:=λx H=>match x with| .bl k=>Q k H|_=>False
def gW(h:ib Q x H):∃k,x=.bl k/\Q k H:=by
 unfold ib at h;split at h
 .exact⟨_,rfl,h⟩
 .exact h.elim
def Mf(hu:X.A.units+20<Tz)(ha:PE X a ta)(hb:PE X b tb)(hm:behindInMarks op b=false:=by first|exact tL _|with_unfolding_all rfl):PE X (.Compare a [op] [b] pos) (eP X.K op ta tb):=ET (mU op hu) ha hb hm
def iG(t:TE):TT:=λσ H Q=>t σ H (ib Q)
def Md(hu:X.A.units+20<Tz)(ha:PE X a ta)(hb:PE X b tb)(hm:behindInMarks op b=false:=by first|exact tL _|with_unfolding_all rfl):PT X (.Compare a [op] [b] pos) (iG (eP X.K op ta tb)):=by
 intro R1 s σ H Q I h;refine wpAny_isTrue_Compare1 (cK (ha R1 s σ H _ I h) λv s1 ⟨x,H1,I1,r1,q1⟩=>cK (hb R1 s1 σ H1 _ I1 q1) λu s2 ⟨y,H2,I2,r2,q2⟩=>
  cK (mU op hu R1 s2 σ H2 x y v u _ I2 r1 r2 q2) λc s3 ⟨z,H3,I3,r3,q3⟩=>?_) hm
 obtain⟨k,e,q3⟩:=gW q3;subst e;cases r3;exact Ta ⟨H3,I3,q3⟩
def nj(K:Frag)(op op':CmpOp)(ta tb tc:TE):TE:=λσ H Q=>ta σ H λx H1=>tb σ H1 λy H2=>bT K op x y H2 (ib λk H3=>if k=true then tc σ H3 λw' H4=>bT K op' y w' H4 Q else Q (.bl false) H3)
def DO(hu:X.A.units+20<Tz)(ha:PE X a ta)(hb:PE X b tb)(hc:PE X c tc)(hm:Wa [op,op'] [b,c]=false:=by with_unfolding_all rfl):PE X (.Compare a [op,op'] [b,c] pos) (nj X.K op op' ta tb tc):=by
 intro R1 s σ H Q I h;refine Compare_chain (cK (ha R1 s σ H _ I h) λv s1 ⟨x,H1,I1,r1,q1⟩=>chain_link (cK (hb R1 s1 σ H1 _ I1 q1) λu s2 ⟨y,H2,I2,r2,q2⟩=>
  cK (mU op hu R1 s2 σ H2 x y v u _ I2 r1 r2 q2) λd s3 ⟨z,H3,I3,r3,q3⟩=>?_)) hm
 obtain⟨k,e,q3⟩:=gW q3;subst e;cases r3;refine Ta ?_;cases k with
 |false=>exact ite_ff ⟨.bl false,H3,I3,rfl,q3⟩
 |true=>exact ite_tt (chain_last (cK (hc R1 s3 σ H3 _ I3 q3) λw' s4 ⟨z',H4,I4,r4,q4⟩=>mU op' hu R1 s4 σ H4 y z' u w' Q I4 r2 r4 q4))
def kN(K:Frag)(op op':CmpOp)(ta tb tc:TE):TT:=λσ H Q=>ta σ H λx H1=>tb σ H1 λy H2=>bT K op x y H2 (ib λk H3=>if k=true then tc σ H3 λw' H4=>bT K op' y w' H4 (ib Q)else Q false H3)
def DJ(hu:X.A.units+20<Tz)(ha:PE X a ta)(hb:PE X b tb)(hc:PE X c tc)(hm:Wa [op,op'] [b,c]=false:=by with_unfolding_all rfl):PT X (.Compare a [op,op'] [b,c] pos) (kN X.K op op' ta tb tc):=by
 intro R1 s σ H Q I h;refine isTrue_chain (cK (ha R1 s σ H _ I h) λv s1 ⟨x,H1,I1,r1,q1⟩=>test_link (cK (hb R1 s1 σ H1 _ I1 q1) λu s2 ⟨y,H2,I2,r2,q2⟩=>
  cK (mU op hu R1 s2 σ H2 x y v u _ I2 r1 r2 q2) λd s3 ⟨z,H3,I3,r3,q3⟩=>?_)) hm
 obtain⟨k,e,q3⟩:=gW q3;subst e;cases r3;refine Ta ?_;cases k with
 |false=>exact ite_ff ⟨H3,I3,q3⟩
 |true=>
  refine ite_tt (test_last (cK (hc R1 s3 σ H3 _ I3 q3) λw' s4 ⟨z',H4,I4,r4,q4⟩=>cK (mU op' hu R1 s4 σ H4 y z' u w' _ I4 r2 r4 q4) λd' s5 ⟨z2,H5,I5,r5,q5⟩=>?_));obtain⟨k2,e2,q5⟩:=gW q5;subst e2;cases r5;exact Ta ⟨H5,I5,q5⟩
def bF(h:PE X e t)(he:∀whole,isTrue e X.env whole=(do let v<-whole;standAt e.pos;V4 [v] (truthy v)):=by intro _;rfl):PT X e (iG t):=by intro R1 s σ H Q I hw;refine isTrue_plain (cK (h R1 s σ H _ I hw) λv s1 ⟨x,H1,I1,r1,q1⟩=>?_) (he _);obtain⟨d,rfl,q⟩:=gW q1;cases r1;exact Ta ⟨H1,I1,q⟩
variable{rest:List S8}
def rC(ta tb:TE):TE:=λσ H Q=>ta σ H (ib λc H1=>if c=true then tb σ H1 Q else Q (.bl false) H1)
def FF(ta tb:TE):TE:=λσ H Q=>ta σ H (ib λc H1=>if c=true then Q (.bl true) H1 else tb σ H1 Q)
def zH(ta:TE):TE:=λσ H Q=>ta σ H (ib λc H1=>Q (.bl (!c)) H1)
def eE(ha:PE X a ta)(hb:PE X (.BoolOp .And (b::rest) pos) tb):PE X (.BoolOp .And (a::b::rest) pos) (rC ta tb):=by
 intro R1 s σ H Q I h;refine BoolOp_and (cK (ha R1 s σ H _ I h) λv s1 ⟨x,H1,I1,r1,q1⟩=>?_);obtain⟨c,rfl,q1⟩:=gW q1;cases r1;refine Ta ?_;cases c with
 |true=>exact hb R1 s1 σ H1 Q I1 q1
 |false=>exact⟨.bl false,H1,I1,rfl,q1⟩
def Qb(ha:PE X a ta)(hb:PE X (.BoolOp .Or (b::rest) pos) tb):PE X (.BoolOp .Or (a::b::rest) pos) (FF ta tb):=by
 intro R1 s σ H Q I h;refine BoolOp_or (cK (ha R1 s σ H _ I h) λv s1 ⟨x,H1,I1,r1,q1⟩=>?_);obtain⟨c,rfl,q1⟩:=gW q1;cases r1;refine Ta ?_;cases c with
 |false=>exact hb R1 s1 σ H1 Q I1 q1
 |true=>exact⟨.bl true,H1,I1,rfl,q1⟩
def DN(ha:PE X a ta):PE X (.UnaryOp .Not a pos) (zH ta):=by intro R1 s σ H Q I h;refine UnaryOp_ (cK (ha R1 s σ H _ I h) λv s1 ⟨x,H1,I1,r1,q1⟩=>?_);obtain⟨c,rfl,q1⟩:=gW q1;cases r1;exact not_of (Ta ⟨.bl (!c),H1,I1,rfl,q1⟩)
def FG(ta:TE):TE:=λσ H Q=>ta σ H λx H1=>match x with| .int i=>Q (.int (-i)) H1|_=>False
def ug(ha:PE X a ta):PE X (.UnaryOp .USub a pos) (FG ta):=by
 intro R1 s σ H Q I h;refine UnaryOp_ (cK (ha R1 s σ H _ I h) λv s1 ⟨x,H1,I1,r1,q1⟩=>?_);cases x with
 |int i=>exact Ky R1 s1 σ H1 _ v Q I1 r1 ⟨i,rfl,q1⟩
 |_=>exact q1.elim
end
def bJ:Sy "len"=some (.builtin "len"):=by decide+kernel
def DU:Sy "min"=some (.builtin "min"):=by decide+kernel
def Mj:Sy "max"=some (.builtin "max"):=by decide+kernel
def pW:Sy "all"=some (.builtin "all"):=by decide+kernel
def Ml:Sy "any"=some (.builtin "any"):=by decide+kernel
def ck:Sy "isinstance"=some (.builtin "isinstance"):=by decide+kernel
def jt:Sy "sorted"=some (.builtin "sorted"):=by decide+kernel
def DV:Sy "abs"=some (.builtin "abs"):=by decide+kernel
def hU:Sy "int"=some (.type "int"):=by decide+kernel
def zI:Sy "bool"=some (.type "bool"):=by decide+kernel
def lN:Sy "str"=some (.type "str"):=by decide+kernel
def jN:Sy "list"=some (.type "list"):=by decide+kernel
def v7:Sy "tuple"=some (.type "tuple"):=by decide+kernel
def nn:Sy "set"=some (.type "set"):=by decide+kernel
def ul:Sy "enumerate"=some (.type "enumerate"):=by decide+kernel
def Mi:Sy "zip"=some (.type "zip"):=by decide+kernel
inductive BT|int|bool|str|list|tuple|dict
 deriving DecidableEq
def BT.s:BT->String
 | .int=>"int" | .bool=>"bool" | .str=>"str" | .list=>"list" | .tuple=>"tuple" | .dict=>"dict"
def fV:BT->BT->Bool
 | .bool,.int=>true
 | .int,.int=>true| .bool,.bool=>true| .str,.str=>true| .list,.list=>true| .tuple,.tuple=>true| .dict,.dict=>true
 |_,_=>false
def kit_bt(K:Frag)(a T:BT):Zf K (.type a.s) (.type T.s)=some (fV a T):=by cases a<;>cases T<;>kernel_rfl
def E7(K:Frag)(T:BT):Zf K (.type "NoneType") (.type T.s)=some false:=by cases T<;>kernel_rfl
def y9(T:BT)(x:V)(H:Hp)(Q:VK):Prop:=match x with
 | .non=>Q (.bl false) H
 | .bl _=>Q (.bl (fV .bool T)) H
 | .int _=>Q (.bl (fV .int T)) H
 | .str _=>Q (.bl (fV .str T)) H
 | .ref a=>match H a with
   |some (.lst _)=>Q (.bl (fV .list T)) H
   |some (.frz _ (.lst _))=>Q (.bl (fV .list T)) H
   |some (.tup _)=>Q (.bl (fV .tuple T)) H
   |some (.dK _)=>Q (.bl (fV .dict T)) H
   |_=>False
 |_=>False
section
variable{X:Cx}{a b c e o:S8}{ta tb tc te to:TE}{p p2 pos:VL}{es:List S8}{t:TA}
def PH(T:BT){R1:Sh}{s:So}{σ:St}{H:Hp}{x:V}{u:Z0}{Q:VK}(I:aT X R1 σ H s)(rx:bz x u)(h:y9 T x H Q):Sn (Su X.prog X.w) X.A (call (.builtin "isinstance") [u,.type T.s]) (EP X R1 σ Q) X.xe s:=by
 have fin:∀{k:Bool}{tv:Z0},nv X.K H x tv->Zf X.K tv (.type T.s)=some k->Q (.bl k) H->Sn (Su X.prog X.w) X.A (call (.builtin "isinstance") [u,.type T.s]) (EP X R1 σ Q) X.xe s:=λty e q=>
  AJ I rx ty e λtk=>⟨.bl _,H,I.tok tk,rfl,q⟩
 unfold y9 at h;cases x with
 |non=>exact fin .non (E7 _ T) h
 |bl y=>exact fin (.bl y) (kit_bt _ .bool T) h
 |int y=>exact fin (.int y) (kit_bt _ .int T) h
 |str y=>exact fin (.str y) (kit_bt _ .str T) h
 |ref d=>
  dsimp only at h;split at h
  .rename_i e;exact fin (.lst e) (kit_bt _ .list T) h
  .rename_i e;exact fin (.frz e) (kit_bt _ .list T) h
  .rename_i e;exact fin (.tup e) (kit_bt _ .tuple T) h
  .rename_i e;exact fin (.dK e) (kit_bt _ .dict T) h
  .exact h.elim
 |_=>exact h.elim
def Mh(T:BT)(ta:TE):TE:=λσ H Q=>ta σ H λx H1=>y9 T x H1 Q
def Qd(T:BT)(ha:PE X a ta)(hg:Gl X "isinstance")(hm:X.mg "isinstance"=none)(hgT:Gl X n)(hmT:X.mg n=none)(hv:Sy n=some (.type T.s))(hn:n≠"__name__":=by decide)(hdb:(n == ("__debug__":Str))=false:=by decide)(he:Sv [a,.Name n p2] X.env=(false,Tj a X.env)::Sv [.Name n p2] X.env:=by rfl)(he2:Sv [.Name n p2] X.env=(false,Tj (.Name n p2) X.env)::Sv [] X.env:=by rfl)(hpl:(Tl pos (Sv [.Name n p2] X.env)).any (·.1)=false:=by rfl):PE X (.Call (.Name "isinstance" p) [a,.Name n p2] [] pos) (Mh T ta):=by
 intro R1 s σ H Q I h;refine Te (lE I hg hm ck ?_ (by decide) (by decide));have hA:PA X [a,.Name n p2] (bg ta (bg (tC (.ty T.s)) cw)):=pa_cons ha (pa_cons (yO hgT hmT hv rfl hn hdb) pan he2) he;refine PyProof.Rows.callWith_builtin1 (cK (hA pos R1 s σ H (λvs H1=>∃x,vs=[x,.ty T.s]/\y9 T x H1 Q) I ?_) λus s1 ⟨vs,H1,I1,r1,x,e,q1⟩=>?_) he hpl
 .have mono:(λ(x:V) H1=>y9 T x H1 Q)=λx H1=>(bg (tC (.ty T.s)) cw) σ H1 λxs H2=>∃y,x::xs=[y,.ty T.s]/\y9 T y H2 Q:=by
   funext x H1;apply propext
   constructor
   .intro q;exact⟨x,rfl,q⟩
   .rintro⟨y,e,q⟩;have:x=y:=by injection e
    subst this;exact q
  show ta σ H _;rw[<-mono];exact h
 .subst e;obtain⟨u,w',rfl,ru,rt⟩:=x8 r1;cases rt;exact PH T I1 ru q1
def zL.imp(h:zL X r)(i:∀x y H Q,r' x y H Q->r x y H Q):zL X r':=λva sl R1 s σ H x y v u Q I rx ry q hs=>h va sl R1 s σ H x y v u Q I rx ry (i x y H Q q) hs
def LR(K:Frag)(x y:V)(H:Hp)(Q:VK):Prop:=match x,y with
 | .str z,.int i=>z.length<=h9/\∃c,oh z.cps.toList i=some c/\Q (.str ⟨#[c]⟩) H
 | .ref q,.int i=>∃xs v,(aV K H q xs\/dU K H q xs)/\oh xs i=some v/\Q v H
 |_,_=>False
def RA:zL X (LR X.K):=(LQ).imp λx y H Q h=>by
 unfold LR at h;split at h
 .obtain⟨h1,c,h2,q⟩:=h;exact .inr (.inr ⟨_,_,c,rfl,rfl,h1,h2,q⟩)
 .obtain⟨xs,v,h1,h2,q⟩:=h
  rcases h1 with h1|h1
  .exact .inl ⟨_,xs,_,v,rfl,rfl,h1,h2,q⟩
  .exact .inr (.inl ⟨_,xs,_,v,rfl,rfl,h1,h2,q⟩)
 .exact h.elim
def nM(K:Frag)(ta tb:TE):TE:=λσ H Q=>ta σ H λx H1=>tb σ H1 λy H2=>LR K x y H2 Q
def Qc(ha:PE X a ta)(hb:PE X b tb)(hs:uu b:=by exact λ_ _=>rfl):PE X (.Subscript a b pos) (nM X.K ta tb):=Pf RA ha hb hs
def mG(t:TE):TO:=λσ H Q=>t σ H λx H1=>match x with| .int i=>Q (some i) H1|_=>False
def bC(h:PE X e te):PO X (some e) (mG te):=by
 intro R1 s σ H Q I hw;rw[evalPart_some];refine cK (h R1 s σ H _ I hw) λu s1 ⟨x,H1,I1,r1,q1⟩=>?_;cases x with
 |int i=>
  obtain⟨t,rfl⟩:=r1;exact⟨some i,H1,I1,.int i t,q1⟩
 |_=>exact q1.elim
def Bg.imp(h:Bg X r)(i:∀x lo hi H Q,r' x lo hi H Q->r x lo hi H Q):Bg X r':=λR1 s σ H x v vl vu lo hi sl Q I rx hs pl pu q=>h R1 s σ H x v vl vu lo hi sl Q I rx hs pl pu (i x lo hi H Q q)
def KO(K:Frag)(x:V)(lo hi:Option Int)(H:Hp)(Q:VK):Prop:=match x with
 | .str z=>z.length<=h9/\Q (.str (kR z lo hi)) H
 | .ref d=>∃xs,aV K H d xs/\∀q,H q=none->Q (.ref q) (upd H q (.lst (cutV xs lo hi)))
 |_=>False
def Rj:Bg X (KO X.K):=((KN).or Es).imp λx lo hi H Q h=>by
 unfold KO at h;split at h
 .exact .inl ⟨_,rfl,h.1,h.2⟩
 .obtain⟨xs,h1,h2⟩:=h;exact .inr ⟨_,xs,rfl,h1,h2⟩
 .exact h.elim
def Bc(K:Frag)(te:TE)(tl th:TO):TE:=λσ H Q=>te σ H λx H1=>tl σ H1 λl H2=>th σ H2 λu H3=>KO K x l u H3 Q
def Qa{lo hi:Option S8}(he:PE X e te)(hl:PO X lo tl)(hu:PO X hi th):PE X (.Subscript e (.Slice lo hi none p2) pos) (Bc X.K te tl th):=vk Rj he hl hu
def cB(r:List V->Hp->VK->Prop)(t:TA):TE:=λσ H Q=>t σ H λvs H1=>r vs H1 Q
def tN(K:Frag)(xs:List V)(H:Hp)(Q:VK):Prop:=match xs with
 | [.str z]=>z.length<=h9/\Q (.int z.length) H
 | [.ref d]=>∃ys,(aV K H d ys\/dU K H d ys)/\Q (.int ys.length) H
 |_=>False
def A8:bQ X (.builtin "len") (tN X.K):=((uk).or uj).imp λxs H Q h=>by
 unfold tN at h;split at h
 .exact .inr ⟨_,rfl,h.1,h.2⟩
 .obtain⟨ys,h1,h2⟩:=h;exact .inl ⟨_,ys,rfl,h1,h2⟩
 .exact h.elim
def CO(xs:List V)(H:Hp)(Q:VK):Prop:=match xs with
 | [.int i,.int j]=>Q (.int (if j<i then j else i)) H
 |_=>False
def rA(hc:X.calm=true):bQ X (.builtin "min") CO:=(A5 hc).imp λxs H Q h=>by
 unfold CO at h;split at h
 .exact⟨_,_,rfl,h⟩
 .exact h.elim
def wD(xs:List V)(H:Hp)(Q:VK):Prop:=match xs with
 | [.int i]=>i.natAbs.log2<1920/\Q (.str (toString i)) H
 |_=>False
def js:bQ X (.type "str") wD:=(uh).imp λxs H Q h=>by
 unfold wD at h;split at h
 .exact⟨_,rfl,h.1,h.2⟩
 .exact h.elim
def tS(xs:List V)(H:Hp)(Q:VK):Prop:=match xs with
 | [.str x]=>∃n,PySem.intText? x=some n/\x.length<=640/\Q (.int n) H
 | [.bl k]=>Q (.int (if k then 1 else 0)) H
 |_=>False
def eC:bQ X (.type "int") tS:=((qD).or A9).imp λxs H Q h=>by
 unfold tS at h;split at h
 .obtain⟨n,h1,h2,q⟩:=h;exact .inl ⟨_,n,rfl,h1,h2,q⟩
 .exact .inr (.inr ⟨_,rfl,h⟩)
 .exact h.elim
def D5(K:Frag)(xs:List V)(H:Hp)(Q:VK):Prop:=match xs with
 | [.ref d]=>∃ks:List Bool,aV K H d (ks.map V.bl)/\Q (.bl (ks.all id)) H
 |_=>False
def Bb(hc:X.calm=true):bQ X (.builtin "all") (D5 X.K):=(DQ hc).imp λxs H Q h=>by
 unfold D5 at h;split at h
 .obtain⟨ks,h1,q⟩:=h;exact⟨_,ks,rfl,h1,q⟩
 .exact h.elim
def RI{id:String}{x:Str}{r:List V->Hp->VK->Prop}(hc:bQ X (.builtin id) r)(hv:Sy x=some (.builtin id))(hm:X.mg x=none)(ha:PA X (e::es) t)(hg:Gl X x:=by rfl)(hn:x≠"__name__":=by decide)(hdb:(x == ("__debug__":Str))=false:=by decide)(he:Sv (e::es) X.env=(false,Tj e X.env)::Sv es X.env:=by rfl)(hpl:(Tl pos (Sv es X.env)).any (·.1)=false:=by rfl):PE X (.Call (.Name x p) (e::es) [] pos) (cB r t):=CG hc hg hm hv ha hn hdb he hpl
def Qe(hc:bQ X (.type T) r)(hv:Sy x=some (.type T))(hm:X.mg x=none)(ha:PA X (e::es) t)(hg:Gl X x:=by rfl)(hn:x≠"__name__":=by decide)(hdb:(x == ("__debug__":Str))=false:=by decide)(he:Sv (e::es) X.env=(false,Tj e X.env)::Sv es X.env:=by rfl)(hpl:(Tl pos (Sv es X.env)).any (·.1)=false:=by rfl):PE X (.Call (.Name x p) (e::es) [] pos) (cB r t):=As hc hg hm hv ha hn hdb he hpl
def Kj(r:V->List V->Hp->VK->Prop)(to:TE)(t:TA):TE:=λσ H Q=>to σ H λx H1=>match x with| .str z=>t σ H1 λxs H2=>r (.str z) xs H2 Q|_=>False
def P9{name:Str}{apos cpos:VL}{id:String}{r:V->List V->Hp->VK->Prop}(slot:Slot "str" name id)(hty:typeOf (.builtin id)=pure (.type "method_descriptor"))(hm:Bp X id r)(ho:PE X o to)(ha:PA X (e::es) t)(hbase:TD o name X.env (Tj o X.env)=Tj o X.env:=by rfl)(hfew:((Tl cpos (Sv (e::es) X.env)).all (λx=> !x.1)&&(V5 cpos (U2 [] X.env)).all (λx=>x.1.isSome)
   &&decide ((e::es).length+([]:List Vn).length+(if([]:List Vn).isEmpty then 0 else 1)<30))=true:=by rfl) (hline:(apos.endLine == cpos.line)=true:=by rfl) (hs:Sv (e::es) X.env=(false,Tj e X.env)::Sv es X.env:=by rfl) (hplain:(Tl cpos (Sv es X.env)).any (·.1)=false:=by rfl):PE X (.Call (.Attribute o name apos) (e::es) [] cpos) (Kj r to t):=by
 intro R1 s σ H Q I h;refine Up hbase hfew hline rfl (cK (ho R1 s σ H _ I h) λv s1 ⟨x,H1,I1,r1,q1⟩=>?_);cases x with
 |str z=>
  have ty:Qu X.K "str" (.str z) H1:=rfl;obtain⟨h1,h2⟩:=ww I1 r1 ty;refine⟨"str",id,PySem.F.plainAttrs_str,slot,hty,h1,h2,?_⟩;have hA:=ha cpos R1 s1 σ H1 _ I1 q1;rw[hs]at hA ⊢;refine TU (by show(false||(Tl cpos (Sv es X.env)).any (·.1))=false;rw[hplain]<;>rfl) (TC ?_)
  exact cK hA λus s2 ⟨vs,H2,I2,r2,q2⟩=>hm R1 s2 σ H2 _ vs v us Q I2 r1 r2 q2
 |_=>exact q1.elim
def Qf(r:V->List V->Hp->VK->Prop)(to:TE):TE:=λσ H Q=>to σ H λx H1=>match x with| .str z=>r (.str z) [] H1 Q|_=>False
def OS(x:V)(vs:List V)(H:Hp)(Q:VK):Prop:=match x,vs with
 | .str a,[.str b]=>Q (.bl (b.cps.toList.isPrefixOf a.cps.toList)) H
 |_,_=>False
def CM:Bp X "str.startswith" OS:=(qB).imp λx vs H Q h=>by
 unfold OS at h;split at h
 .exact⟨_,_,rfl,rfl,h⟩
 .exact h.elim
def qW(K:Frag)(x:V)(vs:List V)(H:Hp)(Q:VK):Prop:=match x,vs with
 | .str sep,[.ref d]=>∃ys:List Str,aV K H d (ys.map V.str)/\(ys.map (·.length)).sum+ys.length*sep.length<=16777216/\Q (.str (VF sep ys)) H
 |_,_=>False
def CN:Bp X "str.join" (qW X.K):=(E5).imp λx vs H Q h=>by
 unfold qW at h;split at h
 .obtain⟨ys,h1,h2,q⟩:=h;exact⟨_,_,ys,rfl,rfl,h1,h2,q⟩
 .exact h.elim
def upA(x:V)(vs:List V)(H:Hp)(Q:VK):Prop:=match x,vs with
 | .str a,[]=>a.length<=h9/\(∀c∈a.cps.toList,c<128)/\Q (.str ⟨a.cps.map up1⟩) H
 |_,_=>False
def DT(to te:TE):TE:=λσ H Q=>to σ H λx H1=>match x with
 | .ref l=>(∃xs,H1 l=some (.lst xs))/\te σ H1 λy H2=>∃xs,H2 l=some (.lst xs)/\xs.length<h9/\Q .non (upd H2 l (.lst (xs++[y])))
 |_=>False
def pU{apos cpos:VL}(ho:PE X o to)(he:PE X e te)(hbase:TD o "append" X.env (Tj o X.env)=Tj o X.env:=by rfl)(hfew:((Tl cpos (Sv [e] X.env)).all (λx=> !x.1)&&(V5 cpos (U2 [] X.env)).all (λx=>x.1.isSome)
   &&decide ([e].length+([]:List Vn).length+(if([]:List Vn).isEmpty then 0 else 1)<30))=true:=by rfl) (hline:(apos.endLine == cpos.line)=true:=by rfl) (hs:Sv [e] X.env=(false,Tj e X.env)::Sv [] X.env:=by rfl) (hplain:(Tl cpos (Sv [] X.env)).any (·.1)=false:=by rfl):PE X (.Call (.Attribute o "append" apos) [e] [] cpos) (DT to te):=by
 intro R1 s σ H Q I h;refine Up hbase hfew hline rfl (cK (ho R1 s σ H _ I h) λv s1 ⟨x,H1,I1,r1,q1⟩=>?_);cases x with
 |ref l=>
  obtain⟨⟨xs0,e0⟩,q1⟩:=q1;have ty:Qu X.K "list" (.ref l) H1:=.inl ⟨rfl,xs0,aV.of e0⟩;obtain⟨h1,h2⟩:=ww I1 r1 ty;refine⟨"list","list.append",PySem.F.plainAttrs_list,PySem.F.slot_list_append,PySem.F.type_list_append,h1,h2,?_⟩;have hA:=(pa_cons he pan hs:PA X [e] (bg te cw)) cpos R1 s1 σ H1 (λvs H2=>∃y,vs=[y]/\∃xs,H2 l=some (.lst xs)/\xs.length<h9/\Q .non (upd H2 l (.lst (xs++[y])))) I1 (by
   show te σ H1 λy H2=>∃y',[y]=[y']/\_;have:(λ(y:V)(H2:Hp)=>∃xs,H2 l=some (.lst xs)/\xs.length<h9/\Q .non (upd H2 l (.lst (xs++[y]))))=λy H2=>∃y',[y]=[y']/\∃xs,H2 l=some (.lst xs)/\xs.length<h9/\Q .non (upd H2 l (.lst (xs++[y']))):=by
    funext y H2;apply propext
    constructor
    .intro z;exact⟨y,rfl,z⟩
    .rintro⟨y',e,z⟩;have:y=y':=by injection e
     subst this;exact z
   rw[<-this];exact q1)
  rw[hs]at hA ⊢;refine TU (by show(false||(Tl cpos (Sv [] X.env)).any (·.1))=false;rw[hplain]<;>rfl) (TC ?_)
  exact cK hA λus s2 ⟨vs,H2,I2,r2,y,e,xs,q3,q4,q5⟩=>Az R1 s2 σ H2 _ vs v us Q I2 r1 r2 ⟨l,xs,y,rfl,e,q3,q4,q5⟩
 |_=>exact q1.elim
structure fC(P:Ss)(w:World)(K:Frag)(mg:Sf)(R4:SD)(name:Str)(ps:List Str)(k:Nat)(sp:Sp):Prop where
 ex:∃f fd,bM P w K mg R4 fM k f fd ps sp/\mg name=some (.ref f)/\Zj K (.ref f)=true/\j1 K fd ps []
def ia(sp:Sp)(t:TA):TE:=λσ H Q=>t σ H λvs H1=>sp vs H1 Q E0
def FD(C:fC X.prog X.w X.K X.mg X.R4 name ps k sp)(hr:eG j X.A)(hkj:k<=j)(ha:PA X (e::es) t)(hg:Gl X name:=by rfl)(hdb:(name == ("__debug__":Str))=false:=by decide)(he:Sv (e::es) X.env=(false,Tj e X.env)::Sv es X.env:=by rfl)(hpl:(Tl pos (Sv es X.env)).any (·.1)=false:=by rfl):PE X (.Call (.Name name p) (e::es) [] pos) (ia sp t):=by obtain⟨f,fd,F,hm,hk,hb⟩:=C.ex;refine(EU F (hr.mono hkj) hg hm hk hb .nil Pg ha hdb he hpl:PE X _ (BM sp [] E0 t)).imp λσ H Q h=>?_;unfold BM;simp only[WN];exact h
end
section
def cJR(K:Frag)(to te:TE):TE:=λσ H Q=>to σ H λx H1=>match x with
 | .str sep=>te σ H1 λy H2=>match y with
   | .ref d=>∃ys:List Str,aV K H2 d (ys.map V.str)/\(ys.map (·.length)).sum+ys.length*sep.length<=16777216/\Q (.str (VF sep ys.reverse)) H2
   |_=>False
 |_=>False
end
def RR(x:Str):It:=⟨λi _=>i<x.length,λi H v H'=>H'=H/\∃c,x.cps.toList[i]? =some c/\v=.str ⟨#[c]⟩,λi _=>x.length<=i⟩
def JM(ty:String):Prop:=ty="str_ascii_iterator"\/ty="str_iterator"
def BF{P:Ss}{w:World}{K:Frag}{tg:S8}(it:Z1){ty:String}(hty:JM ty)(x:Str)(t:Tok):wb P w K tg (RR x) [it] it (λi h=>h.IsStrIter it ty x t i) where
 mem:=by simp
 obj:=λi h st b hb=>by
  have e:b=it:=by simpa using hb
  subst e;obtain⟨o,e,c,d⟩:=st;exact⟨o,e,λv z=>by rw[d]at z;cases z⟩
 keep:=λi h h' st k=>by obtain⟨o,e,r⟩:=st;exact⟨o,k it (by simp) o e,r⟩
 item:=by
  intro X hP hw hK hc i R1 s σ H E I hf st hg;subst hP hw hK;obtain⟨f0,f1,f2,f3,f4,f5⟩:=hf it (by simp);have hi:=hg;have hx:=YX hi;have hx':x.cps.toList[i]? =some x.cps[i]:=by simpa using hx
  have go:∀(h':SD)(tk:Nat),h'.IsStrIter it ty x t (i+1)->Td it s.heap h'->∀u,(∃tt,u=Uk ⟨#[x.cps[i]]⟩ tt)->Sn (Su X.prog X.w) X.A (Ue tg (.ref it) u) (λ_ s2=>∃x_1 H',aT X R1 σ H' s2/\bz x_1 u/\(RR x).yld i H x_1 H'/\s2.heap.IsStrIter it ty x t (i+1)/\∀b∈[it],H' b=none) E {s with heap:=h',toks:=tk}:=by
   intro h' tk st' sb u hu;have I1:aT X R1 σ H {s with heap:=h',toks:=tk}:=I.turned (t':=tk) (λb o hb e=>(sb.2 b hb).trans e) f0 f1 f3 f4 f5;obtain⟨o,e,c,d⟩:=id st';refine vL e c d (by rcases hty with z|z<;>(rw[z];decide)) ?_
   obtain⟨tt,rfl⟩:=hu;exact⟨.str ⟨#[x.cps[i]]⟩,H,I1,⟨tt,rfl⟩,⟨rfl,_,hx',rfl⟩,st',λb hb=>(hf b hb).1⟩
  rcases hty with rfl|rfl
  .exact wpAny_pyNext_ascii_item st hx λh' st' sb=>⟨_,rfl,go h' _ st' sb _ ⟨_,rfl⟩⟩
  .exact wpAny_pyNext_wide_item st hx λh' st' sb=>⟨_,rfl,go h' _ st' sb _ ⟨_,rfl⟩⟩
 done:=by
   intro X hP hw hK hc i R1 s σ H E I hf st hg;subst hP hw hK;obtain⟨f0,f1,f2,f3,f4,f5⟩:=hf it (by simp);have hi:=hg;have hx:=Y0 hi
   rcases hty with rfl|rfl
   .exact wpAny_pyNext_ascii_end (I.ok.hd hc) st hx λh' eb=>⟨rfl,I.turned (λb o hb e=>eb b o hb e) f0 f1 f3 f4 f5⟩
   .exact wpAny_pyNext_wide_end (I.ok.hd hc) st hx λh' eb=>⟨rfl,I.turned (λb o hb e=>eb b o hb e) f0 f1 f3 f4 f5⟩
 self:=λ_ _ _ _ _ st h=>by
  rcases hty with rfl|rfl
  .exact wpAny_pyIter_striter_ascii st h
  .exact wpAny_pyIter_striter_wide st h
section
def Fd(tl:TE):TI:=λσ H R=>tl σ H λv H1=>match v with| .str x=>R (RR x) H1|_=>False
def Cz(hl:PE X l tl):PI X tg l (Fd tl):=by
 intro R1 s σ H R I h;refine cK (hl R1 s σ H _ I h) λv s1 ⟨x,H1,I1,r1,q1⟩=>?_;cases x with
 |str z=>
  obtain⟨t,rfl⟩:=r1;refine wpAny_pyIter_strU ?_;have hty:JM (Uy z):=by
   unfold Uy;split
   .exact .inl rfl
   .exact .inr rfl
  refine⟨s1.heap.objs.size,[s1.heap.objs.size],_,_,H1,rfl,I1.kept λb o e=>Sj _ e,BF _ hty z t,⟨_,Sm _ rfl,rfl,rfl⟩,λb hb=>?_,q1⟩;have e:b=s1.heap.objs.size:=by simpa using hb
  subst e;exact I1.fpOk (Yd _) (I1.hok.fresh (Yd _))
 |_=>exact q1.elim
def A2(xs:List V)(R:Hp->Prop)(S:St->Prop)(p:V->Bool)(f:V->V)(hlen:xs.length<=h9)(hgo:∀(i:Nat) H,R H->i<xs.length->J.go i H)(hstop:∀(i:Nat) H,R H->xs.length<=i->J.stop i H)(hyld:∀(i:Nat) H v H',R H->J.yld i H v H'->R H'/\xs[i]? =some v)(h0:R H1)(s0:S (gK src σ))(hturn:∀(i:Nat)(x:V)(σ':St)(H:Hp),S σ'->R H->xs[i]? =some x->∀(Kt:V->St->Hp->Prop)(Kf:St->Hp->Prop),(p x=true->∀σ3 H5,S σ3->R H5->Kt (f x) σ3 H5)->(p x=false->∀σ3 H4,S σ3->R H4->Kf σ3 H4)->
   g x σ' H λσ3 H3=>tt σ3 H3 λb H4=>if b=true then te σ3 H4 λv H5=>Kt v σ3 H5 else Kf σ3 H4) (hQ:∀H' d,R H'->H' d=none->Q (.ref d) (upd H' d (.lst ((xs.filter p).map f)))):gq g tt te src σ Q J H1:=by
 refine⟨λi m ys σ' H'=>m=xs.length - i/\i<=xs.length/\ys=((xs.take i).filter p).map f/\S σ'/\R H',⟨xs.length,by simp,Yh _,by simp,s0,h0⟩,?_⟩;rintro i m ys σ' H' ⟨rfl,hi,rfl,hS,hR⟩
 by_cases hlt:i<xs.length
 .refine .inr ⟨hgo i H' hR hlt,?_,λx H2 y=>?_⟩
  .rw[Wm];have h1:=WW p (xs.take i);rw[WJ]at h1;omega
  .obtain⟨hR2,hx⟩:=hyld i H' x H2 hR y;have tk:=take_succ_filter p xs i x hx;refine hturn i x σ' H2 hS hR2 hx _ _ (λhp σ3 H5 hS3 hR5=>?_) (λhp σ3 H4 hS3 hR4=>?_)
   .refine⟨xs.length - (i+1),by omega,rfl,hlt,?_,hS3,hR5⟩;rw[tk,hp,R9 rfl,WA];rfl
   .refine⟨xs.length - (i+1),by omega,rfl,hlt,?_,hS3,hR4⟩;rw[tk,hp,R8 (by simp),WN]
 .have e:i=xs.length:=by omega
  subst e;refine .inl ⟨hstop _ H' hR (Yd _),λd hd=>?_⟩;rw[W7];exact hQ H' d hR hd
end
section
def CD(hg:Gl X x)(h:∃u,X.mg x=some u/\bz v u)(hd:(x == ("__debug__":Str))=false:=by decide):PE X (.Name x pos) (tC v):=by obtain⟨u,hm,r⟩:=h;exact EQ hg hm r hd
end
def LV(hr:eG k A):A.units+20<Tz:=by have:=hr.units;omega
def ak.upd(h:ak H H')(hd:H' d=none):ak H (upd H' d o):=λb ob e=>by have e':=h b ob e;rw[av (ay e' hd)];exact e'
section
variable{X:Cx}{a b c e o:S8}{ta tb tc te to:TE}{p p2 pos:VL}{es:List S8}{t:TA}
def fX(K:Frag)(hu:X.A.units+20<Tz)(ha:PE X a ta)(hb:PE X b tb)(hm:behindInMarks op b=false:=by first|exact tL _|with_unfolding_all rfl)(hK:X.K=K:=by rfl):PE X (.Compare a [op] [b] pos) (eP K op ta tb):=by subst hK;exact Mf hu ha hb hm
def bf(K:Frag)(hu:X.A.units+20<Tz)(ha:PE X a ta)(hb:PE X b tb)(hm:behindInMarks op b=false:=by first|exact tL _|with_unfolding_all rfl)(hK:X.K=K:=by rfl):PT X (.Compare a [op] [b] pos) (iG (eP K op ta tb)):=by subst hK;exact Md hu ha hb hm
def xq(K:Frag)(hu:X.A.units+20<Tz)(ha:PE X a ta)(hb:PE X b tb)(hc:PE X c tc)(hm:Wa [op,op'] [b,c]=false:=by with_unfolding_all rfl)(hK:X.K=K:=by rfl):PE X (.Compare a [op,op'] [b,c] pos) (nj K op op' ta tb tc):=by subst hK;exact DO hu ha hb hc hm
def ms(K:Frag)(hu:X.A.units+20<Tz)(ha:PE X a ta)(hb:PE X b tb)(hc:PE X c tc)(hm:Wa [op,op'] [b,c]=false:=by with_unfolding_all rfl)(hK:X.K=K:=by rfl):PT X (.Compare a [op,op'] [b,c] pos) (kN K op op' ta tb tc):=by subst hK;exact DJ hu ha hb hc hm
def cV(K:Frag)(ha:PE X a ta)(hb:PE X b tb)(hs:uu b:=by exact λ_ _=>rfl)(hK:X.K=K:=by rfl):PE X (.Subscript a b pos) (nM K ta tb):=by subst hK;exact Qc ha hb hs
def kQ(K:Frag){lo hi:Option S8}(he:PE X e te)(hl:PO X lo tl)(hu:PO X hi th)(hK:X.K=K:=by rfl):PE X (.Subscript e (.Slice lo hi none p2) pos) (Bc K te tl th):=by subst hK;exact Qa he hl hu
def eI(K:Frag)(hK:X.K=K:=by rfl):bQ X (.builtin "len") (tN K):=by subst hK;exact A8
def C5(K:Frag)(hc:X.calm=true:=by rfl)(hK:X.K=K:=by rfl):bQ X (.builtin "all") (D5 K):=by subst hK;exact Bb hc
def yZ(K:Frag)(hK:X.K=K:=by rfl):Bp X "str.join" (qW K):=by subst hK;exact CN
def mw(K:Frag)(hl:PE X l tl)(hK:X.K=K:=by rfl):PI X tg l (iS K tl):=by subst hK;exact EM hl
def kpt(K:Frag)(hl:PE X l tl)(hK:X.K=K:=by rfl):PI X tg l (LU K tl):=by subst hK;exact Lc hl
def MJ(K:Frag){n:Nat}{k:Nat}{t:FN}(h:My X es t)(hc:X.calm=true:=by rfl)(hn:(To es X.env).length=n:=by rfl)(hst:List.findIdx? (λx=>x.1) (To es X.env)=none:=by rfl)(hK:X.K=K:=by rfl):PG X (.Tuple es k pos) (Dk K n t):=by subst hK;exact Ld hc h hn hst
def kg(h:∃u,X.mg x=some u/\bz v u)(hg:Gl X x:=by rfl)(hd:(x == ("__debug__":Str))=false:=by decide):PE X (.Name x pos) (tC v):=CD hg h hd
def Ec(T:BT)(hm:X.mg "isinstance"=none)(hmT:X.mg n=none)(hv:Sy n=some (.type T.s))(ha:PE X a ta)(hg:Gl X "isinstance":=by rfl)(hgT:Gl X n:=by rfl)(hn:n≠"__name__":=by decide)(hdb:(n == ("__debug__":Str))=false:=by decide)(he:Sv [a,.Name n p2] X.env=(false,Tj a X.env)::Sv [.Name n p2] X.env:=by rfl)(he2:Sv [.Name n p2] X.env=(false,Tj (.Name n p2) X.env)::Sv [] X.env:=by rfl)(hpl:(Tl pos (Sv [.Name n p2] X.env)).any (·.1)=false:=by rfl):PE X (.Call (.Name "isinstance" p) [a,.Name n p2] [] pos) (Mh T ta):=Qd T ha hg hm hgT hmT hv hn hdb he he2 hpl
def LD{tg:S8}{ta:TA}(hm:X.mg "range"=none)(ha:PA X [a] ta)(hg:Gl X "range":=by rfl)(hs:Sv [a] X.env=[(false,Tj a X.env)]:=by rfl):PI X tg (.Call (.Name "range" p) [a] [] pos) (pJ ta):=Ar hg hm ha hs
def cj(dsc:T8)(XN:List Str)(h:xE dsc XN N src scope=true:=by decide+kernel)(he:X.env.scope=dsc:=by rfl)(hN:X.N=XN:=by rfl):dS X N src scope:=dS.of he hN h
def bu{i:Nat}{x:Str}(N:List Str)(hN:N.Nodup:=by decide+kernel)(hi:X.N[i]? =some x:=by rfl)(hx:Kl X.env.scope x:=by first|exact Or.inl rfl|exact Or.inr rfl)(hf:X.fn x=true\/X.env.scope.names.lookup x=some .local:=by first|exact .inl rfl|exact .inr rfl)(hNX:X.N=N:=by rfl):PG X (.Name x pos) (gName i):=
 yM (hNX▸hN) hi hx hf
def eN(S:dS X N src scope)(hi:PI X tg iter wi)(hg:∀s H ex,PG (cxC X scope N s H ex) tg g)(ht:∀s H ex,we (cxC X scope N s H ex) ifs tt)(he:∀s H ex,PE (cxC X scope N s H ex) e te)(hc:X.calm=true:=by rfl)(hs:∀x,T0 iter X.env x=pure x:=by intro _;rfl):PE X (.ListComp e [⟨tg,iter,ifs,0⟩] scope pos) (tComp wi g tt te src):=ES hc S hi hg ht he hs
end
def Cn{K:Frag}{i j:Int}{H:Hp}{Q:VK}:(bT K .Eq (.int i) (.int j) H Q)=(Q (.bl (decide (i=j))) H):=rfl
def Cb{K:Frag}{i j:Int}{H:Hp}{Q:VK}:(bT K .NotEq (.int i) (.int j) H Q)=(Q (.bl (!decide (i=j))) H):=rfl
def Cm{K:Frag}{i j:Str}{H:Hp}{Q:VK}:(bT K .Eq (.str i) (.str j) H Q)=(Q (.bl (decide (i=j))) H):=rfl
def Ca{K:Frag}{i j:Str}{H:Hp}{Q:VK}:(bT K .NotEq (.str i) (.str j) H Q)=(Q (.bl (!decide (i=j))) H):=rfl
def EG{K:Frag}{i j:Bool}{H:Hp}{Q:VK}:(bT K .Eq (.bl i) (.bl j) H Q)=(Q (.bl (decide (i=j))) H):=rfl
def EC{K:Frag}{i j:Bool}{H:Hp}{Q:VK}:(bT K .NotEq (.bl i) (.bl j) H Q)=(Q (.bl (!decide (i=j))) H):=rfl
def EF{K:Frag}{H:Hp}{Q:VK}:(bT K .Eq .non .non H Q)=(Q (.bl true) H):=rfl
def EB{K:Frag}{H:Hp}{Q:VK}:(bT K .NotEq .non .non H Q)=(Q (.bl (!true)) H):=rfl
def sO{K:Frag}{i:Int}{j:Str}{H:Hp}{Q:VK}:(bT K .Eq (.int i) (.str j) H Q)=(Q (.bl false) H):=rfl
def sG{K:Frag}{i:Int}{j:Str}{H:Hp}{Q:VK}:(bT K .NotEq (.int i) (.str j) H Q)=(Q (.bl (!false)) H):=rfl
def sP{K:Frag}{i:Int}{H:Hp}{Q:VK}:(bT K .Eq (.int i) .non H Q)=(Q (.bl false) H):=rfl
def sH{K:Frag}{i:Int}{H:Hp}{Q:VK}:(bT K .NotEq (.int i) .non H Q)=(Q (.bl (!false)) H):=rfl
def sL{K:Frag}{i:Str}{j:Int}{H:Hp}{Q:VK}:(bT K .Eq (.str i) (.int j) H Q)=(Q (.bl false) H):=rfl
def sD{K:Frag}{i:Str}{j:Int}{H:Hp}{Q:VK}:(bT K .NotEq (.str i) (.int j) H Q)=(Q (.bl (!false)) H):=rfl
def ve{K:Frag}{i:Str}{j:Bool}{H:Hp}{Q:VK}:(bT K .Eq (.str i) (.bl j) H Q)=(Q (.bl false) H):=rfl
def uV{K:Frag}{i:Str}{j:Bool}{H:Hp}{Q:VK}:(bT K .NotEq (.str i) (.bl j) H Q)=(Q (.bl (!false)) H):=rfl
def sK{K:Frag}{i:Str}{H:Hp}{Q:VK}:(bT K .Eq (.str i) .non H Q)=(Q (.bl false) H):=rfl
def sC{K:Frag}{i:Str}{H:Hp}{Q:VK}:(bT K .NotEq (.str i) .non H Q)=(Q (.bl (!false)) H):=rfl
def vg{K:Frag}{i:Bool}{j:Str}{H:Hp}{Q:VK}:(bT K .Eq (.bl i) (.str j) H Q)=(Q (.bl false) H):=rfl
def uX{K:Frag}{i:Bool}{j:Str}{H:Hp}{Q:VK}:(bT K .NotEq (.bl i) (.str j) H Q)=(Q (.bl (!false)) H):=rfl
def vh{K:Frag}{i:Bool}{H:Hp}{Q:VK}:(bT K .Eq (.bl i) .non H Q)=(Q (.bl false) H):=rfl
def uY{K:Frag}{i:Bool}{H:Hp}{Q:VK}:(bT K .NotEq (.bl i) .non H Q)=(Q (.bl (!false)) H):=rfl
def sN{K:Frag}{j:Int}{H:Hp}{Q:VK}:(bT K .Eq .non (.int j) H Q)=(Q (.bl false) H):=rfl
def sF{K:Frag}{j:Int}{H:Hp}{Q:VK}:(bT K .NotEq .non (.int j) H Q)=(Q (.bl (!false)) H):=rfl
def sM{K:Frag}{j:Str}{H:Hp}{Q:VK}:(bT K .Eq .non (.str j) H Q)=(Q (.bl false) H):=rfl
def sE{K:Frag}{j:Str}{H:Hp}{Q:VK}:(bT K .NotEq .non (.str j) H Q)=(Q (.bl (!false)) H):=rfl
def vf{K:Frag}{j:Bool}{H:Hp}{Q:VK}:(bT K .Eq .non (.bl j) H Q)=(Q (.bl false) H):=rfl
def uW{K:Frag}{j:Bool}{H:Hp}{Q:VK}:(bT K .NotEq .non (.bl j) H Q)=(Q (.bl (!false)) H):=rfl
def EE{K:Frag}{a b:Z1}{H:Hp}{Q:VK}:(bT K .Eq (.ref a) (.ref b) H Q)=(∃k,uw K H 20 (.ref a) (.ref b) k/\Q (.bl k) H):=rfl
def EA{K:Frag}{a b:Z1}{H:Hp}{Q:VK}:(bT K .NotEq (.ref a) (.ref b) H Q)=(∃k,uw K H 20 (.ref a) (.ref b) k/\Q (.bl (!k)) H):=rfl
def Cd{K:Frag}{i j:Int}{H:Hp}{Q:VK}:(bT K .Lt (.int i) (.int j) H Q)=(Q (.bl (decide (i<j))) H):=rfl
def kF{K:Frag}{i j:Int}{H:Hp}{Q:VK}:(bT K .LtE (.int i) (.int j) H Q)=(Q (.bl (decide (i<=j))) H):=rfl
def Ck{K:Frag}{i j:Int}{H:Hp}{Q:VK}:(bT K .Gt (.int i) (.int j) H Q)=(Q (.bl (decide (j<i))) H):=rfl
def Ao{K:Frag}{i j:Int}{H:Hp}{Q:VK}:(bT K .GtE (.int i) (.int j) H Q)=(Q (.bl (decide (j<=i))) H):=rfl
def Cc{K:Frag}{i j:Str}{H:Hp}{Q:VK}:(bT K .Lt (.str i) (.str j) H Q)=(Q (.bl (decide (i.cps.toList<j.cps.toList))) H):=rfl
def qM{K:Frag}{i j:Str}{H:Hp}{Q:VK}:(bT K .LtE (.str i) (.str j) H Q)=(Q (.bl (!decide (j.cps.toList<i.cps.toList))) H):=rfl
def vc{K:Frag}{i j:Str}{H:Hp}{Q:VK}:(bT K .In (.str i) (.str j) H Q)=(Q (.bl (!(SV j i 0 j.length 1).isEmpty)) H):=rfl
def nB{K:Frag}{i j:Str}{H:Hp}{Q:VK}:(bT K .NotIn (.str i) (.str j) H Q)=(Q (.bl (!(!(SV j i 0 j.length 1).isEmpty))) H):=rfl
def sJ{K:Frag}{i:Int}{d:Z1}{H:Hp}{Q:VK}:(bT K .In (.int i) (.ref d) H Q)=(yE K false (.int i) (.ref d) H Q):=rfl
def jW{K:Frag}{i:Int}{d:Z1}{H:Hp}{Q:VK}:(bT K .NotIn (.int i) (.ref d) H Q)=(yE K true (.int i) (.ref d) H Q):=rfl
def Cj{K:Frag}{i:Int}{H:Hp}{Q:VK}:(bT K .Is (.int i) .non H Q)=(Q (.bl false) H):=rfl
def vb{K:Frag}{i:Int}{H:Hp}{Q:VK}:(bT K .IsNot (.int i) .non H Q)=(Q (.bl true) H):=rfl
def mh{K:Frag}{i:Str}{d:Z1}{H:Hp}{Q:VK}:(bT K .In (.str i) (.ref d) H Q)=(yE K false (.str i) (.ref d) H Q):=rfl
def nV{K:Frag}{i:Str}{d:Z1}{H:Hp}{Q:VK}:(bT K .NotIn (.str i) (.ref d) H Q)=(yE K true (.str i) (.ref d) H Q):=rfl
def Cg{K:Frag}{i:Str}{H:Hp}{Q:VK}:(bT K .Is (.str i) .non H Q)=(Q (.bl false) H):=rfl
def uZ{K:Frag}{i:Str}{H:Hp}{Q:VK}:(bT K .IsNot (.str i) .non H Q)=(Q (.bl true) H):=rfl
def vd{K:Frag}{i:Bool}{d:Z1}{H:Hp}{Q:VK}:(bT K .In (.bl i) (.ref d) H Q)=(yE K false (.bl i) (.ref d) H Q):=rfl
def oV{K:Frag}{i:Bool}{d:Z1}{H:Hp}{Q:VK}:(bT K .NotIn (.bl i) (.ref d) H Q)=(yE K true (.bl i) (.ref d) H Q):=rfl
def ED{K:Frag}{i:Bool}{H:Hp}{Q:VK}:(bT K .Is (.bl i) .non H Q)=(Q (.bl false) H):=rfl
def wO{K:Frag}{i:Bool}{H:Hp}{Q:VK}:(bT K .IsNot (.bl i) .non H Q)=(Q (.bl true) H):=rfl
def mi{K:Frag}{d:Z1}{H:Hp}{Q:VK}:(bT K .In .non (.ref d) H Q)=(yE K false .non (.ref d) H Q):=rfl
def nY{K:Frag}{d:Z1}{H:Hp}{Q:VK}:(bT K .NotIn .non (.ref d) H Q)=(yE K true .non (.ref d) H Q):=rfl
def Ci{K:Frag}{H:Hp}{Q:VK}:(bT K .Is .non .non H Q)=(Q (.bl true) H):=rfl
def u9{K:Frag}{H:Hp}{Q:VK}:(bT K .IsNot .non .non H Q)=(Q (.bl false) H):=rfl
def sI{K:Frag}{i:Z1}{d:Z1}{H:Hp}{Q:VK}:(bT K .In (.ref i) (.ref d) H Q)=(yE K false (.ref i) (.ref d) H Q):=rfl
def nX{K:Frag}{i:Z1}{d:Z1}{H:Hp}{Q:VK}:(bT K .NotIn (.ref i) (.ref d) H Q)=(yE K true (.ref i) (.ref d) H Q):=rfl
def Ch{K:Frag}{i:Z1}{H:Hp}{Q:VK}:(bT K .Is (.ref i) .non H Q)=(Q (.bl false) H):=rfl
def u7{K:Frag}{i:Z1}{H:Hp}{Q:VK}:(bT K .IsNot (.ref i) .non H Q)=(Q (.bl true) H):=rfl
def Pa:(lO .Add (.int i) (.int j) H Q)=(Q (.int (i+j)) H):=rfl
def K4:(lO .Add (.str i) (.str j) H Q)=(i.length+j.length<=h9/\Q (.str (i++j)) H):=rfl
def Co:(lO .Add (.ref a) (.ref b) H Q)=(K7 (.ref a) (.ref b) H Q):=rfl
def OY:(lO .Sub (.int i) (.int j) H Q)=(Q (.int (i - j)) H):=rfl
def O4:(lO .Mult (.int i) (.int j) H Q)=(Bl i j/\Q (.int (i*j)) H):=rfl
def K3:(lO .FloorDiv (.int i) (.int j) H Q)=(FR i j/\Q (.int (i / j)) H):=rfl
def O5:(lO .Mod (.int i) (.int j) H Q)=(0<j/\Q (.int (i % j)) H):=rfl
def O3:(lO .Pow (.int i) (.int j) H Q)=(MG i j/\Q (.int (i ^ j.toNat)) H):=rfl
def O7{K:Frag}{z:Str}{i:Int}{H:Hp}{Q:VK}:(LR K (.str z) (.int i) H Q)=(z.length<=h9/\∃c,oh z.cps.toList i=some c/\Q (.str ⟨#[c]⟩) H):=rfl
def O8{K:Frag}{d:Z1}{i:Int}{H:Hp}{Q:VK}:(LR K (.ref d) (.int i) H Q)=(∃xs v,(aV K H d xs\/dU K H d xs)/\oh xs i=some v/\Q v H):=rfl
def O0{K:Frag}{z:Str}{lo hi:Option Int}{H:Hp}{Q:VK}:(KO K (.str z) lo hi H Q)=(z.length<=h9/\Q (.str (kR z lo hi)) H):=rfl
def O1{K:Frag}{d:Z1}{lo hi:Option Int}{H:Hp}{Q:VK}:(KO K (.ref d) lo hi H Q)=(∃xs,aV K H d xs/\∀q,H q=none->Q (.ref q) (upd H q (.lst (cutV xs lo hi)))):=rfl
def KY{K:Frag}{z:Str}{H:Hp}{Q:VK}:(tN K [.str z] H Q)=(z.length<=h9/\Q (.int z.length) H):=rfl
def KZ{K:Frag}{d:Z1}{H:Hp}{Q:VK}:(tN K [.ref d] H Q)=(∃ys,(aV K H d ys\/dU K H d ys)/\Q (.int ys.length) H):=rfl
def O6:(CO [.int i,.int j] H Q)=(Q (.int (if j<i then j else i)) H):=rfl
def OZ:(wD [.int i] H Q)=(i.natAbs.log2<1920/\Q (.str (toString i)) H):=rfl
def K0:(tS [.str z] H Q)=(∃n,PySem.intText? z=some n/\z.length<=640/\Q (.int n) H):=rfl
def K2:(tS [.bl k] H Q)=(Q (.int (if k then 1 else 0)) H):=rfl
def O9{K:Frag}{d:Z1}{H:Hp}{Q:VK}:(D5 K [.ref d] H Q)=(∃ks:List Bool,aV K H d (ks.map V.bl)/\Q (.bl (ks.all id)) H):=rfl
def Rs:(OS (.str a) [.str b] H Q)=(Q (.bl (b.cps.toList.isPrefixOf a.cps.toList)) H):=rfl
def Ce{K:Frag}{a:Str}{d:Z1}{H:Hp}{Q:VK}:(qW K (.str a) [.ref d] H Q)=(∃ys:List Str,aV K H d (ys.map V.str)/\(ys.map (·.length)).sum+ys.length*a.length<=16777216/\Q (.str (VF a ys)) H):=rfl
def Rr:(upA (.str a) [] H Q)=(a.length<=h9/\(∀c∈a.cps.toList,c<128)/\Q (.str ⟨a.cps.map up1⟩) H):=rfl
def Am:(y9 T .non H Q)=(Q (.bl false) H):=rfl
def Cf:(y9 T (.bl b) H Q)=(Q (.bl (fV .bool T)) H):=rfl
def An:(y9 T (.int b) H Q)=(Q (.bl (fV .int T)) H):=rfl
def Al:(y9 T (.str b) H Q)=(Q (.bl (fV .str T)) H):=rfl
def r_b:ib Q (.bl k) H=Q k H:=rfl
def fj:S8->Bool
 | .Starred _ _=>false
 |_=>true
def fF(h:fj e=true):Sv (e::es) env=(false,Tj e env)::Sv es env:=by
 cases e<;>first|rfl|cases h
theorem gI:∀{es:List S8},es.all fj=true->(Tl pos (Sv es env)).any (·.1)=false
 | [],_=>rfl
 |e::es,h=>by
  rw[WE,YC]at h;rw[fF h.1];show(false||(Tl pos (Sv es env)).any (·.1))=false
  rw[gI h.2];rfl
theorem D4:∀{es:List S8},es.all fj=true->(Tl pos (Sv es env)).all (λx=> !x.1)=true
 | [],_=>rfl
 |e::es,h=>by rw[WE,YC]at h;rw[fF h.1];show(!false&&(Tl pos (Sv es env)).all (λx=> !x.1))=true;rw[D4 h.2];rfl
section
variable{X:Cx}{a b c e o:S8}{p p2 pos:VL}{es:List S8}{t:TA}
def fU(ha:PE X e te)(hr:PA X es t)(h:fj e=true:=by rfl):PA X (e::es) (bg te t):=pa_cons ha hr (fF h)
def bW(ha:PE X e te)(h:fj e=true:=by rfl):PA X [e] (bg te cw):=fU ha pan h
def cE(ha:PE X e te)(hb:PE X e' te')(h:fj e=true:=by rfl)(h':fj e'=true:=by rfl):PA X [e,e'] (bg te (bg te' cw)):=fU ha (fU hb pan h') h
def aQ(C:fC X.prog X.w X.K X.mg X.R4 name ps k sp)(hr:eG j X.A)(ha:PA X (e::es) t)(hkj:k<=j:=by decide)(hp:(e::es).all fj=true:=by rfl)(hg:Gl X name:=by rfl)(hdb:(name == ("__debug__":Str))=false:=by decide):PE X (.Call (.Name name p) (e::es) [] pos) (ia sp t):=by have hp':=hp;rw[WE,YC]at hp';exact FD C hr hkj ha hg hdb (fF hp'.1) (gI hp'.2)
def kB{id:String}{x:Str}{r:List V->Hp->VK->Prop}(hc:bQ X (.builtin id) r)(hv:Sy x=some (.builtin id))(hm:X.mg x=none)(ha:PA X (e::es) t)(hp:(e::es).all fj=true:=by rfl)(hg:Gl X x:=by rfl)(hn:x≠"__name__":=by decide)(hdb:(x == ("__debug__":Str))=false:=by decide):PE X (.Call (.Name x p) (e::es) [] pos) (cB r t):=by have hp':=hp;rw[WE,YC]at hp';exact RI hc hv hm ha hg hn hdb (fF hp'.1) (gI hp'.2)
def nI(hc:bQ X (.type T) r)(hv:Sy x=some (.type T))(hm:X.mg x=none)(ha:PA X (e::es) t)(hp:(e::es).all fj=true:=by rfl)(hg:Gl X x:=by rfl)(hn:x≠"__name__":=by decide)(hdb:(x == ("__debug__":Str))=false:=by decide):PE X (.Call (.Name x p) (e::es) [] pos) (cB r t):=by have hp':=hp;rw[WE,YC]at hp';exact Qe hc hv hm ha hg hn hdb (fF hp'.1) (gI hp'.2)
def Bn{name:Str}{apos cpos:VL}{id:String}{r:V->List V->Hp->VK->Prop}(slot:Slot "str" name id)(hty:typeOf (.builtin id)=pure (.type "method_descriptor"))(hm:Bp X id r)(ho:PE X o to)(ha:PA X (e::es) t)(hp:(e::es).all fj=true:=by rfl)(hl:(e::es).length<20:=by decide)(hbase:TD o name X.env (Tj o X.env)=Tj o X.env:=by rfl)(hline:(apos.endLine == cpos.line)=true:=by rfl):PE X (.Call (.Attribute o name apos) (e::es) [] cpos) (Kj r to t):=by have hp':=hp;rw[WE,YC]at hp';refine P9 slot hty hm ho ha hbase ?_ hline (fF hp'.1) (gI hp'.2);rw[D4 hp];show(true&&true&&decide ((e::es).length+0+0<30))=true;rw[R6 (by omega)];rfl
end
end L2
namespace L2
open PySem
def dJ(P:St->Hp->Prop)(h:∀K:St->Hp->Prop,(∀σ' H',P σ' H'->K σ' H')->t {D with nx:=K} σ H)(h2:∀σ' H',P σ' H'->u D σ' H'):cm t u D σ H:=h (u D) h2
def ba(P:V->Hp->Prop)(h:∀Q:VK,(∀v H',P v H'->Q v H')->te σ H Q)(h2:∀v H',P v H'->u D (σ.set i (some v)) H'):cm (tAsg te (gName i)) u D σ H:=h _ h2
def cF(P:Bool->Hp->Prop)(hc:∀Q:Bool->Hp->Prop,(∀b H',P b H'->Q b H')->c σ H Q)(h1:∀H',P true H'->t {D with nx:=u D} σ H')(h2:∀H',P false H'->u D σ H'):cm (qd c t oA) u D σ H:=by
 refine hc _ λb H' p=>?_;cases b with
 |true=>exact jG (h1 H' p)
 |false=>exact km (h2 H' p)
def kM:List S8->Option (List V)
 | []=>some []
 | .Constant (.int i) _ _::r=>(kM r).map (V.int i:: ·)
 | .Constant (.str x) _ _::r=>(kM r).map (V.str x:: ·)
 | .Constant (.bool b) _ _::r=>(kM r).map (V.bl b:: ·)
 | .Constant .none _ _::r=>(kM r).map (V.non:: ·)
 |_=>none
def RJ(vs:List V):TA:=λ_ H Q=>Q vs H
def cT:∀{es:List S8}{vs:List V},kM es=some vs->PA X es (RJ vs):=by
 intro es
 induction es with
 |nil=>intro vs h;cases h;exact pan
 |cons e r ih=>
  intro vs h;unfold kM at h;split at h
  .rename_i e1;cases e1
  .rename_i e1;cases e1;obtain⟨ws,h1,h2⟩:=Y7.mp h;subst h2;exact fU ag (ih h1)
  .rename_i e1;cases e1;obtain⟨ws,h1,h2⟩:=Y7.mp h;subst h2;exact fU aI (ih h1)
  .rename_i e1;cases e1;obtain⟨ws,h1,h2⟩:=Y7.mp h;subst h2;exact fU fb (ih h1)
  .rename_i e1;cases e1;obtain⟨ws,h1,h2⟩:=Y7.mp h;subst h2;exact fU dE (ih h1)
  .cases h
def iF(n:Nat)(N:Nat->List V->St->Hp->Prop)(hn:n<=h9)(hlen:∀i ys σ H,N i ys σ H->ys.length<=i)(hgo:∀i ys σ H,N i ys σ H->i<n->J.go i H)(hstop:∀ys σ H,N n ys σ H->J.stop n H)(h0:N 0 [] (gK src σ) H1)(hturn:∀i ys σ' H' x H2,i<n->N i ys σ' H'->J.yld i H' x H2->∀(Kt:V->St->Hp->Prop)(Kf:St->Hp->Prop),(∀v σ3 H5,N (i+1) (ys++[v]) σ3 H5->Kt v σ3 H5)->(∀σ3 H4,N (i+1) ys σ3 H4->Kf σ3 H4)->
   g x σ' H2 λσ3 H3=>tt σ3 H3 λb H4=>if b=true then te σ3 H4 λv H5=>Kt v σ3 H5 else Kf σ3 H4) (hQ:∀ys σ' H' d,N n ys σ' H'->H' d=none->Q (.ref d) (upd H' d (.lst ys))):gq g tt te src σ Q J H1:=by
 refine⟨λi m ys σ' H'=>m=n - i/\i<=n/\N i ys σ' H',⟨n,by simp,Yh _,h0⟩,?_⟩;rintro i m ys σ' H' ⟨rfl,hi,hN⟩
 by_cases hlt:i<n
 .refine .inr ⟨hgo i ys σ' H' hN hlt,?_,λx H2 y=>?_⟩
  .have:=hlen i ys σ' H' hN;omega
  .exact hturn i ys σ' H' x H2 hlt hN y _ _ (λv σ3 H5 h=>⟨n - (i+1),by omega,rfl,hlt,h⟩) (λσ3 H4 h=>⟨n - (i+1),by omega,rfl,hlt,h⟩)
 .have e:i=n:=by omega
  subst e;exact .inl ⟨hstop ys σ' H' hN,λd hd=>hQ ys σ' H' d hN hd⟩
def Dm(n:Int)(hta:∀Q:List V->Hp->Prop,Q [.int n] H->ta σ H Q)(h0: -(2 ^ 62)<=n)(h1:n<2 ^ 62)(Pv:Nat->St->Hp->Prop)(hp0:Pv 0 σ H)(hs:∀i σ H,i<n.toNat->Pv i σ H->g (.int (0+i)) σ H λσ2 H2=>tb {D with nx:=Pv (i+1),ct:=Pv (i+1),bk:=D.nx} σ2 H2)(hd:∀σ H,Pv n.toNat σ H->D.nx σ H):tFor (pJ ta) g tb D σ H:=
 hta _ ⟨n,rfl,h0,h1,rc Pv hp0 hs hd⟩
def kr(P:V->Hp->Prop)(htl:∀Q:VK,(∀v H',P v H'->Q v H')->tl σ H Q)(h:∀v H',P v H'->∃d xs,v=.ref d/\aV K H' d xs/\∃Pv:Nat->St->Hp->Prop,Pv 0 σ H'/\(∀i σ H,i<=xs.length->Pv i σ H->aV K H d xs)/\
   (∀(i:Nat) x σ H,xs[i]? =some x->Pv i σ H->g x σ H λσ2 H2=>tb {D with nx:=Pv (i+1),ct:=Pv (i+1),bk:=D.nx} σ2 H2)/\(∀σ H,Pv xs.length σ H->D.nx σ H)):tFor (iS K tl) g tb D σ H:=
 htl _ λv H' p=>by obtain⟨d,xs,rfl,hq,Pv,a,b,c,e⟩:=h v H' p;exact⟨d,rfl,⟨xs,hq⟩,Dn Pv a b c e⟩
end L2
namespace L2
open PySem PySem.Spec PyProof.Rows
def uB(ns:List Int):List Int:=firstMet (λi=>ns.getD i 0) ns.length
def oU(ns:List Int):(List.range ns.length).map (λi=>ns.getD i 0)=ns:=by
 apply Xe;intro i;rw[Wr]
 by_cases h:i<ns.length
 .rw[Xs h,Wp h];show some (ns.getD i 0)=_;rw[WD,Wp h];rfl
 .rw[WX (by rw[W1];omega),WX (by omega)];rfl
theorem ku(val:Nat->Int):∀i,(firstMet val i).length=i<->((List.range i).map val).Nodup
 |0=>by simp[firstMet_zero]
 |i+1=>by
  have ih:=ku val i;have hle:=firstMet_length_le val i;have ha:=firstMet_any val i (val i);rw[firstMet_succ,Xf,WA,Xg];unfold step_dedup
  by_cases h:(firstMet val i).any (· == val i)=true
  .rw[R9 h]
   constructor
   .intro e;omega
   .intro e;rw[ha,W8]at h;obtain⟨x,hx,e2⟩:=h;have:x=val i:=beq_iff_eq.mp e2;exact Sc this (e.2.2 x hx (val i) (by simp))
  .rw[R8 h,Wq,XA]
   constructor
   .intro e;refine⟨ih.mp (by omega),by simp,λx hx y hy=>?_⟩;have hy':y=val i:=by simpa using hy
    subst hy';intro e3;apply h;rw[ha,W8];exact⟨x,hx,beq_iff_eq.mpr e3⟩
   .intro e;rw[ih.mpr e.1]
def uA(ns:List Int):(uB ns).length=ns.length<->ns.Nodup:=by unfold uB;rw[ku,oU]
section
def KP(K:Frag)(xs:List V)(H:Hp)(Q:VK):Prop:=match xs with
 | [.ref d]=>∃ns:List Int,aV K H d (ns.map V.int)/\ns.length+1<scanBound/\∀q,H q=none->Q (.ref q) (upd H q (.set (λk=>(uB ns).any (· == k)) (uB ns).length))
 |_=>False
def A4(hh:X.A.handled=none):bQ X (.type "set") (KP X.K):=by
 intro R1 s σ H xs us Q I r h;unfold KP at h;split at h
 .rename_i d;obtain⟨ns,hq,hb,q⟩:=h;obtain⟨u,rfl,rx⟩:=eZ r;cases rx;obtain⟨its,r',pl,hz⟩:=I.list hq;have hlen:=r'.length;rw[Wm]at hlen;have hi:=pH r';have hs:its.toArray.size=ns.length:=by rw[Wt,<-hlen]
  refine call_set_list hh pl.isList hi (by rw[hs];exact hb) λh' tk hS kp=>?_;rw[hs]at hS;have k2:∀b u,s.heap.get? b=some u->h'.get? b=some u:=λb u e=>kp b u (Sl e) e;exact⟨.ref s.heap.objs.size,_,I.laid k2 (Yd _) (show cb X.prog X.w _ h' _ (.set _ _)from hS),rfl,q _ (I.hok.fresh (Yd _))⟩
 .exact h.elim
def J7(xs:List V)(H:Hp)(Q:VK):Prop:=match xs with
 | [.ref d]=>∃S n,H d=some (.set S n)/\Q (.int n) H
 |_=>False
def xK:bQ X (.builtin "len") J7:=by
 intro R1 s σ H xs us Q I r h;unfold J7 at h;split at h
 .rename_i d;obtain⟨S,n,hd,q⟩:=h;obtain⟨u,rfl,rx⟩:=eZ r;cases rx;obtain⟨o,es,ep,t,h1,h2,h3,_,_,h6,h7,h8⟩:=(show cb X.prog X.w H s.heap d (.set S n)from I.hok d _ hd);subst h8;have hb:es.size<4096:=h6;exact PySem.call_len_set h1 h2 h3 h7 (by omega) ⟨.int es.size,H,I.tok _,⟨_,rfl⟩,q⟩
 .exact h.elim
def B1(K:Frag)(xs:List V)(H:Hp)(Q:VK):Prop:=match xs with
 | [.ref d]=>∃ns:List Int,aV K H d (ns.map V.int)/\ns.length<64/\∀(ns':List Int) q,ns'.Perm ns->ns'.Pairwise (·<=·)->H q=none->Q (.ref q) (upd H q (.lst (ns'.map V.int)))
 |_=>False
def xG:bQ X (.builtin "sorted") (B1 X.K):=by
 intro R1 s σ H xs us Q I r h;unfold B1 at h;split at h
 .rename_i d;obtain⟨ns,hq,hb,q⟩:=h;obtain⟨u,rfl,rx⟩:=eZ r;cases rx;obtain⟨its,r',pl,hz⟩:=I.list hq;have hlen:=r'.length;rw[Wm]at hlen;refine sorted_ints pl.isList (pH r') (by omega) λout ns' a1 a2 a3=>?_;obtain⟨e,he⟩:=sortedAll_at s.heap its out;have hl:=a2.length_eq;have hz':(ns'.map V.int).length<=h9:=by rw[Wm,hl,Sw];omega
  exact⟨.ref (s.heap.objs.size+1),_,I.laid (λ_ _=>sortedAll_old) (Yj _) (show cb X.prog X.w _ _ _ (.lst (ns'.map V.int))from⟨hz',out.toList,e,kC a1,by simpa[Wg]using he⟩),rfl,q ns' _ a2 a3 (I.hok.fresh (Yj _))⟩
 .exact h.elim
def vB(K:Frag)(xs:List V)(H:Hp)(Q:VK):Prop:=match xs with
 | [.ref d]=>∃ys,(aV K H d ys\/dU K H d ys)/\∀l,H l=none->Q (.ref l) (upd H l (.lst ys))
 |_=>False
def xJ:bQ X (.type "list") (vB X.K):=(ui).imp λxs H Q h=>by
 unfold vB at h;split at h
 .obtain⟨ys,h1,q⟩:=h;exact⟨_,ys,rfl,h1,q⟩
 .exact h.elim
def Rx(K:Frag)(hr:eG j X.A)(hK:X.K=K:=by rfl):bQ X (.type "set") (KP K):=by subst hK;exact A4 hr.hd
def yX(K:Frag)(hK:X.K=K:=by rfl):bQ X (.builtin "sorted") (B1 K):=by subst hK;exact xG
def vG(K:Frag)(hK:X.K=K:=by rfl):bQ X (.type "list") (vB K):=by subst hK;exact xJ
def Fc(h:H a=some (.tup xs))(q:Q (.bl (fV .tuple T)) H):y9 T (.ref a) H Q:=by simp only[y9,h];exact q
end
def DB(h:flatV x=true):eqV x x=true:=by cases x<;>simp_all[flatV,eqV]
def AU(zs:List Int):(zs.map V.int).all flatV=true:=WC.mpr λx hx=>by obtain⟨z,_,rfl⟩:=Wo.mp hx;rfl
def Fl(K:Frag)(H:Hp)(p:Z1)(f:Str)(v:V):Prop:= ∃C dx fs,H p=some (.ins C dx fs)/\x5 K C/\dG K C f/\fs.lookup f=some v
def RF(K:Frag)(x:V)(f:Str)(H:Hp)(Q:VK):Prop:=match x with
 | .ref a=>∃v,Fl K H a f v/\Q v H
 |_=>False
def Qh(K:Frag)(to:TE)(f:Str):TE:=λσ H Q=>to σ H λx H1=>RF K x f H1 Q
section
variable{X:Cx}{e o value:S8}{te to tv:TE}{p pos pos' apos:VL}{f m:Str}
def m7(K:Frag)(ho:PE X o to)(hb:TD o f X.env (Tj o X.env)=Tj o X.env:=by rfl)(hK:X.K=K:=by rfl):PE X (.Attribute o f pos) (Qh K to f):=by
 subst hK;intro R1 s σ H Q I h;refine zJ hb (cK (ho R1 s σ H _ I h) λu s1 ⟨x,H1,I1,rx,q1⟩=>?_);cases x with
 |ref a=>
  obtain⟨v,⟨C,dx,fs,ea,c,n,l⟩,q⟩:=q1;obtain rfl:u=Sx a:=rx;exact xt I1 ea c n l λu' s2 I2 ru=>⟨v,H1,I2,ru,q⟩
 |_=>exact q1.elim
def lg(K:Frag)(ho:PE X o to)(hv:PE X value tv)(hs:Uh value (some (.Attribute o f pos')) pos.line X.env=pure false:=by rfl)(hK:X.K=K:=by rfl):PS X (.Assign [.Attribute o f pos'] value pos) (Ah K to tv f):=by subst hK;exact Lb ho hv hs
end
def SameBut(k:Z1)(H H':Hp):Prop:= ∀b o,H b=some o->b≠k->H' b=some o
def SameBut.refl(H:Hp):SameBut k H H:=λ_ _ h _=>h
def ak.but(h:ak H H'):SameBut k H H':=λb o e _=>h b o e
def SameBut.self(a:SameBut k H H'):SameBut k H (upd H' k o):=λc ob e n=>by rw[av n];exact a c ob e n
def SameBut.new(a:SameBut k H H')(hd:H d=none):SameBut k H (upd H' d o):=λc ob e n=>by rw[av (ay e hd)];exact a c ob e n
def ak.put(a:ak H H')(hd:H d=none):ak H (L2.upd H' d o):=λc ob e=>by rw[av (ay e hd)];exact a c ob e
def ir{H:Hp}{a b:Z1}{o o':HO}(ha:H a=some o)(hb:H b=some o')(h:o≠o'):a≠b:=λe=>by subst e;rw[ha]at hb;exact h (Sd hb)
def Ep{to tv:TE}{f:Str}{K:Frag}{u:TS}{D:j6}{σ:St}{H:Hp}(P:V->Hp->Prop)(h:∀Q:VK,(∀v H',P v H'->Q v H')->tv σ H Q)(p C dx:Z1)(hto:∀H'(Q:VK),Q (.ref p) H'->to σ H' Q)(hc:x5 K C)(hn:dG K C f)(h2:∀v H',P v H'->∃fs,H' p=some (.ins C dx fs)/\fs.length<1000/\u D σ (upd H' p (.ins C dx (putF f v fs)))):cm (Ah K to tv f) u D σ H:=
 h _ λv H' q=>by obtain⟨fs,e,l,r⟩:=h2 v H' q;exact hto _ _ ⟨p,C,dx,fs,rfl,e,hc,hn,l,r⟩
def yi{to tv:TE}{f:Str}{K:Frag}{D:j6}{σ:St}{H:Hp}(P:V->Hp->Prop)(h:∀Q:VK,(∀v H',P v H'->Q v H')->tv σ H Q)(p C dx:Z1)(hto:∀H'(Q:VK),Q (.ref p) H'->to σ H' Q)(hc:x5 K C)(hn:dG K C f)(h2:∀v H',P v H'->∃fs,H' p=some (.ins C dx fs)/\fs.length<1000/\D.nx σ (upd H' p (.ins C dx (putF f v fs)))):Ah K to tv f D σ H:=
 h _ λv H' q=>by obtain⟨fs,e,l,r⟩:=h2 v H' q;exact hto _ _ ⟨p,C,dx,fs,rfl,e,hc,hn,l,r⟩
def Ev(t:TE)(σ:St)(H:Hp)(v:V):Prop:= ∀Q:VK,Q v H->t σ H Q
def Tv(t:TT)(σ:St)(H:Hp)(b:Bool):Prop:= ∀Q:Bool->Hp->Prop,Q b H->t σ H Q
def Av(t:TA)(σ:St)(H:Hp)(vs:List V):Prop:= ∀Q:List V->Hp->Prop,Q vs H->t σ H Q
section
variable{K:Frag}{σ:St}{H:Hp}{ta tb tc te to:TE}{x y:V}{i j k:Int}{z z':Str}
def ar:Ev (tC x) σ H x:=λQ q=>q
def ac(h:σ[n]? =some (some x):=by rfl):Ev (cc n) σ H x:=λQ q=>by unfold cc;rw[h];exact q
def dm(ha:Ev ta σ H (.int i))(hb:Ev tb σ H (.int j)):Ev (iJ .Add ta tb) σ H (.int (i+j)):=λQ q=>ha _ (hb _ q)
def nh(ha:Ev ta σ H (.int i))(hb:Ev tb σ H (.int j)):Ev (iJ .Sub ta tb) σ H (.int (i - j)):=λQ q=>ha _ (hb _ q)
def iE(ha:Ev ta σ H (.int i))(hb:Ev tb σ H (.int j))(h:Bl i j):Ev (iJ .Mult ta tb) σ H (.int (i*j)):=λQ q=>ha _ (hb _ ⟨h,q⟩)
def db(ha:Ev ta σ H (.int i))(hb:Ev tb σ H (.int j))(h:FR i j:=by exact⟨by decide,by decide⟩):Ev (iJ .FloorDiv ta tb) σ H (.int (i / j)):=λQ q=>ha _ (hb _ ⟨h,q⟩)
def bR(ha:Ev ta σ H (.int i))(hb:Ev tb σ H (.int j))(h:0<j:=by decide):Ev (iJ .Mod ta tb) σ H (.int (i % j)):=λQ q=>ha _ (hb _ ⟨h,q⟩)
def tX(ha:Ev ta σ H (.int i)):Ev (FG ta) σ H (.int (-i)):=λQ q=>ha _ q
def eW(ha:Ev ta σ H (.str z))(hb:Ev tb σ H (.str z'))(h:z.length+z'.length<=h9):Ev (iJ .Add ta tb) σ H (.str (z++z')):=λQ q=>ha _ (hb _ ⟨h,q⟩)
def gD(ho:Ev to σ H (.ref p))(h:Fl K H p f x):Ev (Qh K to f) σ H x:=λQ q=>ho _ ⟨x,h,q⟩
def bP(ho:Ev to σ H (.ref p))(hi:Ev ta σ H (.int i))(h:aV K H p xs\/dU K H p xs)(e:oh xs i=some x):Ev (nM K to ta) σ H x:=λQ q=>ho _ (hi _ ⟨xs,x,h,e,q⟩)
def xx(ho:Ev to σ H (.str z))(hi:Ev ta σ H (.int i))(h:z.length<=h9)(e:oh z.cps.toList i=some c):Ev (nM K to ta) σ H (.str ⟨#[c]⟩):=λQ q=>ho _ (hi _ ⟨h,c,e,q⟩)
def cS(ho:Ev to σ H (.ref p))(h:aV K H p xs\/dU K H p xs):Ev (cB (tN K) (bg to cw)) σ H (.int xs.length):=λQ q=>ho _ ⟨xs,h,q⟩
def kK(ho:Ev to σ H (.str z))(h:z.length<=h9):Ev (cB (tN K) (bg to cw)) σ H (.int z.length):=λQ q=>ho _ ⟨h,q⟩
def Du(ha:Ev ta σ H (.int i))(hb:Ev tb σ H (.int j)):Ev (cB CO (bg ta (bg tb cw))) σ H (.int (if j<i then j else i)):=λQ q=>ha _ (hb _ q)
def L6(ho:Ev to σ H (.ref p))(h:H p=some (.tup xs)):Ev (Mh T to) σ H (.bl (fV .tuple T)):=λQ q=>ho _ (Fc h q)
def Dw(ho:Ev to σ H (.int i)):Ev (Mh T to) σ H (.bl (fV .int T)):=λQ q=>ho _ q
def Ds(ha:Ev ta σ H (.bl a)):Ev (zH ta) σ H (.bl (!a)):=λQ q=>ha _ q
def dc(ha:Ev ta σ H (.bl a))(hb:a=true->Ev tb σ H (.bl b)):Ev (rC ta tb) σ H (.bl (a&&b)):=λQ q=>ha _ (by
 cases a with
 |true=>exact hb rfl Q q
 |false=>exact q)
def PZ(ha:Ev ta σ H (.bl a))(hb:a=false->Ev tb σ H (.bl b)):Ev (FF ta tb) σ H (.bl (a||b)):=λQ q=>ha _ (by
 cases a with
 |true=>exact q
 |false=>exact hb rfl Q q)
def P5(ht:Tv t σ H b)(h1:b=true->Ev ta σ H x)(h2:b=false->Ev tb σ H y):Ev (MI t ta tb) σ H (if b=true then x else y):=λQ q=>ht _ (by
 cases b with
 |true=>exact jG (h1 rfl _ q)
 |false=>exact km (h2 rfl _ q))
def dz(ha:Ev ta σ H (.int i))(hb:Ev tb σ H (.int j)):Ev (eP K .Eq ta tb) σ H (.bl (decide (i=j))):=λQ q=>ha _ (hb _ q)
def zp(ha:Ev ta σ H (.int i))(hb:Ev tb σ H (.int j)):Ev (eP K .NotEq ta tb) σ H (.bl (!decide (i=j))):=λQ q=>ha _ (hb _ q)
def P3(ha:Ev ta σ H (.int i))(hb:Ev tb σ H (.int j)):Ev (eP K .Lt ta tb) σ H (.bl (decide (i<j))):=λQ q=>ha _ (hb _ q)
def P4(ha:Ev ta σ H (.int i))(hb:Ev tb σ H (.int j)):Ev (eP K .LtE ta tb) σ H (.bl (decide (i<=j))):=λQ q=>ha _ (hb _ q)
def rf(ha:Ev ta σ H (.int i))(hb:Ev tb σ H (.int j)):Ev (eP K .Gt ta tb) σ H (.bl (decide (j<i))):=λQ q=>ha _ (hb _ q)
def Ke(ha:Ev ta σ H (.int i))(hb:Ev tb σ H (.int j)):Ev (eP K .GtE ta tb) σ H (.bl (decide (j<=i))):=λQ q=>ha _ (hb _ q)
def dq(ha:Ev ta σ H (.str z))(hb:Ev tb σ H (.str z')):Ev (eP K .Eq ta tb) σ H (.bl (decide (z=z'))):=λQ q=>ha _ (hb _ q)
def lJ(ha:Ev ta σ H (.str z))(hb:Ev tb σ H (.str z')):Ev (eP K .NotEq ta tb) σ H (.bl (!decide (z=z'))):=λQ q=>ha _ (hb _ q)
def C9(i:Int)(ns:List Int):Ka (.int i) (ns.map V.int)=decide (i∈ns):=by
 unfold Ka;rw[Xh]
 by_cases h:i∈ns
 .rw[R6 h];exact W8.mpr ⟨i,h,by simp[eqV]⟩
 .rw[R7 h];apply Xz.mpr;intro y hy;have:y≠i:=λe=>h (e▸hy);simp[eqV,this]
def Dt{ns:List Int}(ha:Ev ta σ H (.int i))(hb:Ev tb σ H (.ref p))(h:aV K H p (ns.map V.int)\/dU K H p (ns.map V.int)):Ev (eP K .NotIn ta tb) σ H (.bl (!decide (i∈ns))):=λQ q=>ha _ (hb _ (by
 rw[jW];refine⟨p,_,rfl,h,rfl,AU ns,?_⟩;rw[C9];exact q))
def xz(ha:Ev ta σ H (.int i))(hb:Ev tb σ H .non):Ev (eP K .IsNot ta tb) σ H (.bl true):=λQ q=>ha _ (hb _ q)
def xy(ha:Ev ta σ H .non)(hb:Ev tb σ H .non):Ev (eP K .IsNot ta tb) σ H (.bl false):=λQ q=>ha _ (hb _ q)
def tY(ha:Ev ta σ H .non)(hb:Ev tb σ H .non):Ev (eP K .Is ta tb) σ H (.bl true):=λQ q=>ha _ (hb _ q)
def zv(ha:Ev ta σ H (.int i))(hb:Ev tb σ H (.int j))(hc:i<=j->Ev tc σ H (.int k)):Ev (nj K .LtE .LtE ta tb tc) σ H (.bl (decide (i<=j/\j<=k))):=λQ q=>ha _ (hb _ (by
 rw[kF]
 by_cases h:i<=j
 .rw[R6 h];refine hc h _ ?_;have e:decide (i<=j/\j<=k)=decide (j<=k):=by simp[h]
  rw[e]at q;exact q
 .rw[R7 h];have e:decide (i<=j/\j<=k)=false:=by simp[h]
  rw[e]at q;exact q))
def bq{sp:Sp}{t:TA}{vs:List V}(ht:Av t σ H vs)(h:∀Q:VK,Q x H->sp vs H Q E0):Ev (ia sp t) σ H x:=λQ q=>ht _ (h Q q)
def aC:Av cw σ H []:=λQ q=>q
def af{t:TA}{vs:List V}(ha:Ev ta σ H x)(ht:Av t σ H vs):Av (bg ta t) σ H (x::vs):=λQ q=>ha _ (ht _ q)
def iH:Av (RJ vs) σ H vs:=λQ q=>q
def bw(h:Ev te σ H (.bl b)):Tv (iG te) σ H b:=λQ q=>h _ q
def cQ(h:Tv t σ H b):Tv (uE t) σ H (!b):=λQ q=>h _ q
def oz(ha:Tv t σ H a)(hb:a=true->Tv u σ H b):Tv (Ek t u) σ H (a&&b):=λQ q=>ha _ (by
 cases a with
 |true=>exact jG (hb rfl _ q)
 |false=>exact km q)
def dY(ha:Tv t σ H a)(hb:a=false->Tv u σ H b):Tv (MH t u) σ H (a||b):=λQ q=>ha _ (by
 cases a with
 |true=>exact jG q
 |false=>exact km (hb rfl _ q))
def Ei(ha:Ev ta σ H (.int i))(hb:Ev tb σ H (.int j))(hc:i<=j->Ev tc σ H (.int k)):Tv (kN K .LtE .Lt ta tb tc) σ H (decide (i<=j/\j<k)):=λQ q=>ha _ (hb _ (by
 rw[kF]
 by_cases h:i<=j
 .rw[R6 h];refine hc h _ ?_;have e:decide (i<=j/\j<k)=decide (j<k):=by simp[h]
  rw[e]at q;exact q
 .rw[R7 h];have e:decide (i<=j/\j<k)=false:=by simp[h]
  rw[e]at q;exact q))
def rN(ha:Ev ta σ H (.int i))(hb:Ev tb σ H (.int j))(hc:i<=j->Ev tc σ H (.int k)):Tv (kN K .LtE .LtE ta tb tc) σ H (decide (i<=j/\j<=k)):=λQ q=>ha _ (hb _ (by
 rw[kF]
 by_cases h:i<=j
 .rw[R6 h];refine hc h _ ?_;have e:decide (i<=j/\j<=k)=decide (j<=k):=by simp[h]
  rw[e]at q;exact q
 .rw[R7 h];have e:decide (i<=j/\j<=k)=false:=by simp[h]
  rw[e]at q;exact q))
end
section
def cq(h:Ev te σ H v)(h2:u D (σ.set i (some v)) H):cm (tAsg te (gName i)) u D σ H:=h _ h2
def jz(h:Ev te σ H v)(h2:D.nx (σ.set i (some v)) H):tAsg te (gName i) D σ H:=h _ h2
def aZ(h:Ev te σ H v)(h2:D.rt v H):jx te D σ H:=h _ h2
def bn(hc:Tv c σ H b)(h1:b=true->t {D with nx:=u D} σ H)(h2:b=false->u D σ H):cm (qd c t oA) u D σ H:=hc _ (by
 cases b with
 |true=>exact jG (h1 rfl)
 |false=>exact km (h2 rfl))
def kD(hc:Tv c σ H b)(h1:b=true->t D σ H)(h2:b=false->D.nx σ H):qd c t oA D σ H:=hc _ (by
 cases b with
 |true=>exact jG (h1 rfl)
 |false=>exact km (h2 rfl))
end
section
variable{K:Frag}{σ rest:St}{H:Hp}{tl te:TE}{tt:TT}{src:List (Option Nat)}{Q:VK}
def fE:Tv gJ σ H true:=λQ q=>q
def vZ{xs:List V}(hz:xs.length<=h9)(hs:gK src σ=none::rest)(p:V->Bool)(f:V->V)(hgo:∀i,i<xs.length->J.go i H)(hstop:J.stop xs.length H)(hyld:∀i v H',i<xs.length->J.yld i H v H'->H'=H/\xs[i]? =some v)(ht:∀x∈xs,Tv tt (some x::rest) H (p x))(he:∀x∈xs,p x=true->Ev te (some x::rest) H (f x))(q:∀d',H d'=none->Q (.ref d') (upd H d' (.lst ((xs.filter p).map f)))):gq (gName 0) tt te src σ Q J H:=by
 refine⟨λi m ys σ' H'=>m=xs.length - i/\i<=xs.length/\ys=((xs.take i).filter p).map f/\(∃o,σ'=o::rest)/\H'=H,⟨xs.length,by simp,Yh _,by simp,⟨none,hs⟩,rfl⟩,?_⟩;rintro i m ys σ' H' ⟨rfl,hi,rfl,⟨o,rfl⟩,rfl⟩
 by_cases hlt:i<xs.length
 .refine .inr ⟨hgo i hlt,?_,λx H2 y=>?_⟩
  .rw[Wm];have h1:=WW p (xs.take i);rw[WJ]at h1;omega
  .obtain⟨rfl,hx⟩:=hyld i x H2 hlt y;have tk:=take_succ_filter p xs i x hx;have hm:=Ww hx;refine ht x hm _ ?_;cases hp:p x with
   |true=>
    refine jG (he x hm hp _ ?_);refine⟨xs.length - (i+1),by omega,rfl,hlt,?_,⟨_,rfl⟩,rfl⟩;rw[tk,hp,R9 rfl,WA];rfl
   |false=>
    refine km ?_;refine⟨xs.length - (i+1),by omega,rfl,hlt,?_,⟨_,rfl⟩,rfl⟩;rw[tk,hp,R8 (by simp),WN]
 .have e:i=xs.length:=by omega
  subst e;refine .inl ⟨hstop,λd hd=>?_⟩;rw[W7];exact q d hd
def fH(hl:Ev tl σ H (.ref d))(hx:aV K H d xs)(hz:xs.length<=h9)(hs:gK src σ=none::rest)(p:V->Bool)(f:V->V)(ht:∀x∈xs,Tv tt (some x::rest) H (p x))(he:∀x∈xs,p x=true->Ev te (some x::rest) H (f x))(q:∀d',H d'=none->Q (.ref d') (upd H d' (.lst ((xs.filter p).map f)))):tComp (iS K tl) (gName 0) tt te src σ H Q:=
 hl _ ⟨d,rfl,⟨xs,hx⟩,vZ hz hs p f (λi hi=>⟨xs,xs[i],hx,Wp hi⟩) ⟨xs,hx,Yd _⟩ (λi v H' _ y=>⟨y.1,y.2 xs hx⟩) ht he q⟩
def vY(hl:Av ta σ H [.int n])(h0:0<=n)(hz:n.toNat<=h9)(h1:n<2 ^ 62)(hs:gK src σ=none::rest)(p:V->Bool)(f:V->V)(ht:∀i:Nat,i<n.toNat->Tv tt (some (.int (0+(i:Int)))::rest) H (p (.int (0+(i:Int)))))(he:∀i:Nat,i<n.toNat->p (.int (0+(i:Int)))=true->Ev te (some (.int (0+(i:Int)))::rest) H (f (.int (0+(i:Int)))))(q:∀d',H d'=none->Q (.ref d') (upd H d' (.lst ((((List.range n.toNat).map λ(i:Nat)=>V.int (0+(i:Int))).filter p).map f)))):tComp (pJ ta) (gName 0) tt te src σ H Q:=by
 have hin:∀x∈(List.range n.toNat).map λ(i:Nat)=>V.int (0+(i:Int)),∃i:Nat,i<n.toNat/\x=.int (0+(i:Int)):=λx hx=>by obtain⟨i,hi,rfl⟩:=Wo.mp hx;exact⟨i,WG.mp hi,rfl⟩
 have hlen:((List.range n.toNat).map λ(i:Nat)=>V.int (0+(i:Int))).length=n.toNat:=by simp
 refine hl _ ⟨n,rfl,by omega,h1,vZ (by rw[hlen];exact hz) hs p f (λi hi=>by rw[hlen]at hi;exact hi) (by rw[hlen];exact Yd _) (λi v H' hi y=>⟨y.1,?_⟩) (λx hx=>?_) (λx hx hp=>?_) q⟩
 .rw[hlen]at hi;rw[Wr,Xs hi,y.2];rfl
 .obtain⟨i,hi,rfl⟩:=hin x hx;exact ht i hi
 .obtain⟨i,hi,rfl⟩:=hin x hx;exact he i hi hp
end
section
variable{K:Frag}{te to tv:TE}{u:TS}{D:j6}{σ:St}{H:Hp}{v x y:V}
def KH(ho:Ev to σ H (.ref l))(he:Ev te σ H y)(hl:H l=some (.lst xs))(hz:xs.length<h9)(h2:u D σ (upd H l (.lst (xs++[y])))):cm (lS (DT to te)) u D σ H:=ho _ ⟨⟨xs,hl⟩,he _ ⟨xs,hl,hz,h2⟩⟩
def Er(ho:Ev to σ H (.ref l))(he:Ev te σ H y)(hl:H l=some (.lst xs))(hz:xs.length<h9)(h2:D.nx σ (upd H l (.lst (xs++[y])))):lS (DT to te) D σ H:=ho _ ⟨⟨xs,hl⟩,he _ ⟨xs,hl,hz,h2⟩⟩
def wE(h:Ev tv σ H v)(ho:Ev to σ H (.ref p))(hp:H p=some (.ins C dx fs))(hc:x5 K C)(hn:dG K C f)(hl:fs.length<1000)(h2:u D σ (upd H p (.ins C dx (putF f v fs)))):cm (Ah K to tv f) u D σ H:=h _ (ho _ ⟨p,C,dx,fs,rfl,hp,hc,hn,hl,h2⟩)
def BP(h2:∀q,H q=none->u D (σ.set i (some (.ref q))) (upd H q (.lst []))):cm (tAsg (rR cw) (gName i)) u D σ H:=⟨Yh _,λq hq=>h2 q hq⟩
end
section
variable{K:Frag}{te to ta tb ti:TE}{t:TA}{σ:St}{H:Hp}{Q:VK}{v x y:V}{vs:List V}
def lR(h:Ev te σ H v)(q:Q v H):te σ H Q:=h Q q
def dH(h:Av t σ H vs)(q:sp vs H Q E0):ia sp t σ H Q:=h _ q
def eF(h:Av t σ H vs)(q:sp vs H (ib λc H1=>R (!c) H1) E0):uE (iG (ia sp t)) σ H R:=h _ q
def FK(h:Ev to σ H v)(q:r [v] H Q):cB r (bg to cw) σ H Q:=h _ q
def mO(ha:Ev ta σ H x)(hb:Ev tb σ H y)(q:∀p,H p=none->Q (.ref p) (upd H p (.tup [x,y]))):zX (bg ta (bg tb cw)) σ H Q:=ha _ (hb _ ⟨by show 2<=h9;decide,q⟩)
def mq(h:Av t σ H vs)(hz:vs.length<=1000)(hi:∀H',Ev ti σ H' (.int i))(e:oh vs i=some v)(q:∀H',ak H H'->Q v H'):nM K (rR t) ti σ H Q:=h _ ⟨Ye hz (by decide),λp hp=>hi _ _ ⟨vs,v,.inl (aV.of aj),e,q _ ((ak.refl H).upd hp)⟩⟩
end
section
def DZ(ho:Ev to σ H (.ref l))(hl:∃xs,H l=some (.lst xs))(q:te σ H λy H2=>∃xs,H2 l=some (.lst xs)/\xs.length<h9/\D.nx σ (upd H2 l (.lst (xs++[y])))):lS (DT to te) D σ H:=ho _ ⟨hl,q⟩
end
def oI:Option Int->V
 |some n=>.int n
 |none=>.non
structure Bm(K:Frag)(C:Z1):Prop where
 cl:x5 K C
 wide:dG K C "wide"
 high:dG K C "high"
 holes:dG K C "holes"
 firm:dG K C "firm"
def pX(wi hi:Int)(ph pf:Z1):List (Str×V):=putF "firm" (.ref pf) (putF "holes" (.ref ph) (putF "high" (.int hi) (putF "wide" (.int wi) [])))
def FH(wi hi:Int)(ph pf:Z1):(pX wi hi ph pf).lookup ("wide":Str)=some (.int wi):=by unfold pX;rw[aK,R8 (by decide+kernel),aK,R8 (by decide+kernel),aK,R8 (by decide+kernel),aK,R9 rfl]
def FI(wi hi:Int)(ph pf:Z1):(pX wi hi ph pf).lookup ("high":Str)=some (.int hi):=by unfold pX;rw[aK,R8 (by decide+kernel),aK,R8 (by decide+kernel),aK,R9 rfl]
def DW(wi hi:Int)(ph pf:Z1):(pX wi hi ph pf).lookup ("holes":Str)=some (.ref ph):=by unfold pX;rw[aK,R8 (by decide+kernel),aK,R9 rfl]
def zk(wi hi:Int)(hs:List Int):List Bool:=(List.range (wi*hi).toNat).map λ(s:Nat)=> !decide ((s:Int)∈hs)
structure jZ(K:Frag)(C:Z1)(H:Hp)(p:Z1)(wi hi:Int)(hs:List Int):Prop where
 ex:∃dx ph pf,H p=some (.ins C dx (pX wi hi ph pf))/\H ph=some (.lst (hs.map V.int))/\H pf=some (.lst ((zk wi hi hs).map V.bl))
 w1:1<=wi
 w8:wi<=8
 h1:1<=hi
 h8:hi<=8
 good:∀h∈hs,0<=h/\h<wi*hi
 srt:hs.Pairwise (·<=·)
 nd:hs.Nodup
section
variable{K:Frag}{C:Z1}{H H':Hp}{p:Z1}{wi hi:Int}{hs:List Int}
def jZ.same(B:jZ K C H p wi hi hs)(s:ak H H'):jZ K C H' p wi hi hs:=by obtain⟨⟨dx,ph,pf,a,b,c⟩,w1,w8,h1,h8,g,sr,nd⟩:=B;exact⟨⟨dx,ph,pf,s _ _ a,s _ _ b,s _ _ c⟩,w1,w8,h1,h8,g,sr,nd⟩
theorem jZ.wide(B:jZ K C H p wi hi hs)(D:Bm K C):Fl K H p "wide" (.int wi):=by obtain⟨dx,ph,pf,a,_,_⟩:=B.ex;exact⟨C,dx,_,a,D.cl,D.wide,FH _ _ _ _⟩
theorem jZ.high(B:jZ K C H p wi hi hs)(D:Bm K C):Fl K H p "high" (.int hi):=by obtain⟨dx,ph,pf,a,_,_⟩:=B.ex;exact⟨C,dx,_,a,D.cl,D.high,FI _ _ _ _⟩
theorem jZ.holes(B:jZ K C H p wi hi hs)(D:Bm K C):∃ph,Fl K H p "holes" (.ref ph)/\H ph=some (.lst (hs.map V.int)):=by obtain⟨dx,ph,pf,a,b,c⟩:=B.ex;exact⟨ph,⟨C,dx,_,a,D.cl,D.holes,DW _ _ _ _⟩,b⟩
end
def sqK(wi s ax up:Int)(k:Nat):Int:=(s / wi+k*up)*wi+(s % wi+k*ax)
def okK(wi hi:Int)(hs:List Int)(s ax up:Int)(k:Nat):Prop:=0<=s % wi+k*ax/\s % wi+k*ax<wi/\0<=s / wi+k*up/\s / wi+k*up<hi/\¬sqK wi s ax up k∈hs
instance {wi hi:Int} {hs:List Int} {s ax up:Int} {k:Nat}:Decidable (okK wi hi hs s ax up k):=by unfold okK;infer_instance
def JX:Sp:=λvs H Q _=>∃t a b:Int,vs=[.int t,.int a,.int b]/\Q (.bl (decide (a<=t/\t<=b))) H
def oH:Sp:=λvs H Q _=>∃(d:Z1)(m:Int)(hs:List Int),vs=[.ref d,.int m]/\H d=some (.lst (hs.map V.int))/\(∀h∈hs,0<=h/\h<m)/\hs.Nodup/\(hs.length:Int)<m/\m<=64/\∀H',ak H H'->Q (.bl true) H'
def yx(K:Frag)(C:Z1):Sp:=λvs H Q _=>∃p d dx wi hi hs,vs=[.ref p,.int wi,.int hi,.ref d]/\H p=some (.ins C dx [])/\H d=some (.lst (hs.map V.int))/\1<=wi/\wi<=8/\1<=hi/\hi<=8/\(∀h∈hs,0<=h/\h<wi*hi)/\hs.Nodup/\(hs.length:Int)<wi*hi/\
 ∀(hs':List Int) H',hs'.Perm hs->jZ K C H' p wi hi hs'->SameBut p H H'->Q .non H'
structure CA(P:Ss)(w:World)(K:Frag)(mg:Sf)(R4:SD):Prop where
 is_among:fC P w K mg R4 "is_among" ["thing","least","most"] 2 JX
structure CB2(P:Ss)(w:World)(K:Frag)(mg:Sf)(R4:SD):Prop extends CA P w K mg R4 where
 are_holes:fC P w K mg R4 "are_holes" ["thing","many"] 3 oH
section
variable{X:Cx}{R1:Sh}{σ:St}{H:Hp}{s:So}{h':SD}
def aT.turned_laid{t':Nat}{e it a:Z1}{o:HO}(I:aT X R1 σ H s)(k:∀b ob,b≠e->b≠it->s.heap.get? b=some ob->h'.get? b=some ob)(he:j5 X R1 H e)(hi:j5 X R1 H it)(hp:s.heap.objs.size<=a)(new:cb X.prog X.w (upd H a o) h' a o):aT X R1 σ (upd H a o) {s with heap:=h',toks:=t'}:=by
 obtain⟨e0,e1,e2,e3,e4,e5⟩:=he;obtain⟨i0,i1,i2,i3,i4,i5⟩:=hi;have hn:=I.hok.fresh hp;have ne:∀b u,H b=some u->b≠e:=λb u q z=>by rw[z,e0]at q;cases q
 have nit:∀b u,H b=some u->b≠it:=λb u q z=>by rw[z,i0]at q;cases q
 have kk:∀b ob,b∉[e,it]->s.heap.get? b=some ob->h'.get? b=some ob:=λb ob hc q=>k b ob (λz=>hc (by simp[z])) (λz=>hc (by simp[z])) q;refine I.step (λb hb=>?_) (λb ob _ _ hc q _=>kk b ob hc q) (λb ob _ _ hc q _=>⟨ob.slots,kk b ob hc q⟩)
  (λb ob hc q n=>by rw[av (Yg (Yi (Sl q) hp))];exact n) (λb ob hc q=>⟨ob,kk b ob hc q⟩) (λb xs q=>by rw[av (ay q hn)];exact q) (λb ob u q=>by rw[av (ay q hn)];exact q)
  (λb ps q=>⟨#[],by rw[av (ay q hn),q];simp⟩) (λm hm=>?_) (λb u q=>?_) I.bare
 .rcases Wn.mp hb with rfl|hb
  .exact⟨e3,e1,e4,e5⟩
  .rw[Wu.mp hb];exact⟨i3,i1,i4,i5⟩
 .obtain⟨ob,es,ep,ho,r⟩:=hm;exact⟨ob,es,ep,k _ ob (Ne.symm e1) (Ne.symm i1) ho,r⟩
 .by_cases hb:b=a
  .subst hb;rw[aj]at q;cases q;exact new
  .rw[av hb]at q;refine(I.hok b u q).stay (λc v hc z=>k c v ?_ ?_ z) (λc z=>by rw[av (ay z hn)];exact z) λc xs z=>by rw[av (ay z hn)];exact z
   .rcases hc with z|z
    .rw[z];exact ne b u q
    .exact ne c _ z
   .rcases hc with z|z
    .rw[z];exact nit b u q
    .exact nit c _ z
def aT.turned2(I:aT X R1 σ H s)(k:∀b ob,b≠e->b≠it->s.heap.get? b=some ob->h'.get? b=some ob)(he:j5 X R1 H e)(hi:j5 X R1 H it):aT X R1 σ H {s with heap:=h',toks:=t'}:=by
 obtain⟨e0,e1,e2,e3,e4,e5⟩:=he;obtain⟨i0,i1,i2,i3,i4,i5⟩:=hi;have ne:∀b u,H b=some u->b≠e:=λb u q z=>by rw[z,e0]at q;cases q
 have nit:∀b u,H b=some u->b≠it:=λb u q z=>by rw[z,i0]at q;cases q
 have kk:∀b ob,b∉[e,it]->s.heap.get? b=some ob->h'.get? b=some ob:=λb ob hc q=>k b ob (λz=>hc (by simp[z])) (λz=>hc (by simp[z])) q;refine I.step (λb hb=>?_) (λb ob _ _ hc q _=>kk b ob hc q) (λb ob _ _ hc q _=>⟨ob.slots,kk b ob hc q⟩)
  (λ_ _ _ _ n=>n) (λb ob hc q=>⟨ob,kk b ob hc q⟩) (λ_ _ q=>q) (λ_ _ _ q=>q)
  (λb ps q=>⟨#[],by rw[q];simp⟩) (λm hm=>?_) (λb u q=>?_) I.bare
 .rcases Wn.mp hb with rfl|hb
  .exact⟨e3,e1,e4,e5⟩
  .rw[Wu.mp hb];exact⟨i3,i1,i4,i5⟩
 .obtain⟨ob,es,ep,ho,r⟩:=hm;exact⟨ob,es,ep,k _ ob (Ne.symm e1) (Ne.symm i1) ho,r⟩
 .refine(I.hok b u q).stay (λc v hc z=>k c v ?_ ?_ z) (λc z=>z) λc xs z=>z
  .rcases hc with z|z
   .rw[z];exact ne b u q
   .exact ne c _ z
  .rcases hc with z|z
   .rw[z];exact nit b u q
   .exact nit c _ z
end
def Qq(K:Frag)(a:Z1):It:=
 ⟨λi H=>∃xs x,aV K H a xs/\xs[i]? =some x,λi H x H'=>∃t v,x=.ref t/\H t=none/\H'=upd H t (.tup [.int (i:Int),v])/\∀xs,aV K H a xs->xs[i]? =some v,λi H=>∃xs,aV K H a xs/\xs.length<=i⟩
def wB{P:Ss}{w:World}{K:Frag}{elts:List S8}{k0:Nat}{pos:VL}(a e it:Z1)(hne:e≠it):wb P w K (.Tuple elts k0 pos) (Qq K a) [e,it] e (λi h=>(∃old,IsEnum h e it (i:Int) old)/\h.IsListIter it a i) where
 mem:=by simp
 obj:=λi h st b hb=>by
  obtain⟨⟨old,he⟩,o,ho,c,d⟩:=st
  rcases Wn.mp hb with rfl|hb
  .exact⟨_,he,λv z=>by cases z⟩
  .rw[Wu.mp hb];exact⟨o,ho,λv z=>by rw[d]at z;cases z⟩
 keep:=λi h h' st k=>by obtain⟨⟨old,he⟩,hi⟩:=st;exact⟨⟨old,k e (by simp) _ he⟩,hi.at λo x=>k it (by simp) o x⟩
 item:=by
  intro X hP hw hK hc i R1 s σ H E I hf st hg;subst hP hw hK;obtain⟨xs,x,hq,hx⟩:=hg;obtain⟨its,rv,p,hz⟩:=I.list hq;obtain⟨u,hu,ru⟩:=rv.get hx;obtain⟨⟨old,he⟩,hit⟩:=st;have fe:=hf e (by simp);have fi:=hf it (by simp);obtain⟨oL,hoL,hcL,nL,hdL⟩:=p.isList;have hai:a≠it:=λz=>by subst z;obtain⟨o',ho',hc',_⟩:=hit;rw[hoL]at ho';cases ho';rw[hcL]at hc';injection hc' with hz';exact Sc hz' (by decide)
  have hae:a≠e:=λz=>by subst z;have he':s.heap.get? a=_:=he;rw[hoL]at he';cases he';injection hcL with hz';exact Sc hz' (by decide)
  have D:=Draws.list (prog:=X.prog) (w:=X.w) (A:=X.A.in1) (by show X.A.handled=none;exact I.ok.hd hc) it a hai its.toArray;have hlt:i<its.toArray.size:=by have:=(Wz.mp hu).1;simpa using this
  refine Vd D he ⟨hit,p.isList⟩ hlt hne (by simp[hne,hae.symm]) λx' h1 tk hP' ho hs' hT hsz hk=>?_;have ex:x'=u:=by have:its.toArray[i]? =some x':=hP';rw[XB,hu]at this;exact(Sd this).symm
  subst ex;refine⟨_,rfl,UR ho λh2 he2 sb=>?_⟩;have hlt2:e<s.heap.objs.size:=Sl he;have kk:∀b ob,b≠e->b≠it->s.heap.get? b=some ob->h2.get? b=some ob:=λb ob b1 b2 q=>(sb.2 b b1).trans (hk b ob b1 b2 q);have hT2:h2.get? s.heap.objs.size=some {cls:=.type "tuple",data:=.seq #[.int i tk,x']}:=(sb.2 _ (Yl hlt2)).trans hT;have new:cb X.prog X.w (upd H s.heap.objs.size (.tup [.int (i:Int),x])) h2 s.heap.objs.size (.tup [.int (i:Int),x]):=
   ⟨by show 2<=h9;decide,[.int i tk,x'],.cons ⟨tk,rfl⟩ (.cons ru .nil),⟨_,hT2,rfl,_,rfl⟩⟩
  have I2:=I.turned_laid (t':=tk+1) kk fe fi (Yd _) new;refine⟨.ref s.heap.objs.size,_,I2,rfl,⟨_,x,rfl,I.hok.fresh (Yd _),rfl,λys hy=>by rw[I.list_inj hy hq];exact hx⟩,⟨⟨_,by simpa using he2⟩,hs'.1.at λo z=>(sb.2 it (Ne.symm hne)).trans z⟩,λb hb=>?_⟩
  rcases Wn.mp hb with rfl|hb
  .rw[av (Yg hlt2)];exact fe.1
  .rw[Wu.mp hb];obtain⟨o',ho',_⟩:=hit;rw[av (Yg (Sl ho'))];exact fi.1
 done:=by
   intro X hP hw hK hc i R1 s σ H E I hf st hg;subst hP hw hK;obtain⟨xs,hq,hx⟩:=hg;obtain⟨its,rv,p,hz⟩:=I.list hq;obtain⟨⟨old,he⟩,hit⟩:=st;have fe:=hf e (by simp);have fi:=hf it (by simp);have hl:=rv.length;obtain⟨oL,hoL,hcL,nL,hdL⟩:=p.isList;have hai:a≠it:=λz=>by subst z;obtain⟨o',ho',hc',_⟩:=hit;rw[hoL]at ho';cases ho';rw[hcL]at hc';injection hc' with hz';exact Sc hz' (by decide)
   have hT:s.TypeIs (.ref e) "enumerate":=⟨_,he,rfl⟩;unfold TM;refine Si (Tb (SB (name:=TB "__next__") hT Vw
    (SK Vw hT F.entry_enumerate_next ?_ (F.args_enumerate_next_1 _))))
   show Sn _ _ (VO (.ref e) 2 >>= _) _ _ _;refine Si (SH he rfl (x:=.ref it) rfl ?_);refine Si (wpAny_nextOf_list_end (by show X.A.handled=none;exact I.ok.hd hc) hit p.isList (by simp;omega) λh' x he' hx'=>?_);obtain⟨o,ho,hcx⟩:=hx';refine Si (Tq (T:="StopIteration") (b:=true) ⟨o,ho,hcx⟩ T4 ?_);exact Sk ⟨rfl,I.turned2 (t':=s.toks) (λb ob _ b2 q=>he' b ob b2 q) fe fi⟩
 self:=λA i s Q E st h=>by obtain⟨⟨old,he⟩,_⟩:=st;exact Uo he h
def D7(x:Str):It:=
 ⟨λi _=>i<x.cps.size,λi H v H'=>∃t c,v=.ref t/\H t=none/\x.cps.toList[i]? =some c/\H'=upd H t (.tup [.int (i:Int),.str ⟨#[c]⟩]),λi _=>i=x.cps.size⟩
def rj(hh:A.handled=none)(it:Z1)(x:Str)(t:Tok):Wl prog w A it [it] x.cps.size (λi v=>∃c u,x.cps[i]? =some c/\v=.str ⟨#[c]⟩ u) (λi h=>h.IsStrIter it (Uy x) x t i):=by
 unfold Uy;split
 .exact Draws.strAscii hh it x t
 .exact Draws.strWide hh it x t
def wA{P:Ss}{w:World}{K:Frag}{elts:List S8}{k0:Nat}{pos:VL}(e it:Z1)(x:Str)(t:Tok)(hne:e≠it):wb P w K (.Tuple elts k0 pos) (D7 x) [e,it] e (λi h=>(∃old,IsEnum h e it (i:Int) old)/\h.IsStrIter it (Uy x) x t i) where
 mem:=by simp
 obj:=λi h st b hb=>by
  obtain⟨⟨old,he⟩,o,ho,c,d⟩:=st
  rcases Wn.mp hb with rfl|hb
  .exact⟨_,he,λv z=>by cases z⟩
  .rw[Wu.mp hb];exact⟨o,ho,λv z=>by rw[d]at z;cases z⟩
 keep:=λi h h' st k=>by obtain⟨⟨old,he⟩,o,ho,r⟩:=st;exact⟨⟨old,k e (by simp) _ he⟩,o,k it (by simp) o ho,r⟩
 item:=by
  intro X hP hw hK hc i R1 s σ H E I hf st hg;subst hP hw hK;obtain⟨⟨old,he⟩,hit⟩:=st;have fe:=hf e (by simp);have fi:=hf it (by simp);have D:=rj (prog:=X.prog) (w:=X.w) (A:=X.A.in1) (by show X.A.handled=none;exact I.ok.hd hc) it x t;refine Vd D he hit hg hne (by simp[hne]) λx' h1 tk hP' ho hs' hT hsz hk=>?_;obtain⟨c,u,hcx,rfl⟩:=hP';refine⟨_,rfl,UR ho λh2 he2 sb=>?_⟩;have hlt2:e<s.heap.objs.size:=Sl he;have kk:∀b ob,b≠e->b≠it->s.heap.get? b=some ob->h2.get? b=some ob:=λb ob b1 b2 q=>(sb.2 b b1).trans (hk b ob b1 b2 q);have hT2:h2.get? s.heap.objs.size=some {cls:=.type "tuple",data:=.seq #[.int i tk,.str ⟨#[c]⟩ u]}:=(sb.2 _ (Yl hlt2)).trans hT;have new:cb X.prog X.w (upd H s.heap.objs.size (.tup [.int (i:Int),.str ⟨#[c]⟩])) h2 s.heap.objs.size (.tup [.int (i:Int),.str ⟨#[c]⟩]):=
   ⟨by show 2<=h9;decide,[.int i tk,.str ⟨#[c]⟩ u],.cons ⟨tk,rfl⟩ (.cons ⟨u,rfl⟩ .nil),⟨_,hT2,rfl,_,rfl⟩⟩
  have I2:=I.turned_laid (t':=tk+1) kk fe fi (Yd _) new;have hs2:h2.IsStrIter it (Uy x) x t (i+1):=by obtain⟨o',ho',r⟩:=hs';exact⟨o',(sb.2 it (Ne.symm hne)).trans ho',r⟩
  refine⟨.ref s.heap.objs.size,_,I2,rfl,⟨_,c,rfl,I.hok.fresh (Yd _),by rw[YY];exact hcx,rfl⟩,⟨⟨_,by simpa using he2⟩,hs2⟩,λb hb=>?_⟩
  rcases Wn.mp hb with rfl|hb
  .rw[av (Yg hlt2)];exact fe.1
  .rw[Wu.mp hb];obtain⟨o',ho',_⟩:=hit;rw[av (Yg (Sl ho'))];exact fi.1
 done:=by intro X hP hw hK hc i R1 s σ H E I hf st hg;subst hP hw hK;obtain⟨⟨old,he⟩,hit⟩:=st;have hg:i=x.cps.size:=hg;subst hg;have fe:=hf e (by simp);have fi:=hf it (by simp);have D:=rj (prog:=X.prog) (w:=X.w) (A:=X.A.in1) (by show X.A.handled=none;exact I.ok.hd hc) it x t;exact wpAny_pyNext_enum_endD D he hit λh' hx=>⟨rfl,I.turned2 (t':=s.toks) (λb ob _ b2 q=>hx b ob b2 q) fe fi⟩
 self:=λA i s Q E st h=>by obtain⟨⟨old,he⟩,_⟩:=st;exact Uo he h
section
variable{X:Cx}{p pos pos2:VL}{a:S8}{elts:List S8}{k0:Nat}{ta:TE}
def zd(K:Frag)(ta:TE):TI:=λσ H R=>ta σ H λx H1=>match x with
 | .ref d=>(∃xs,aV K H1 d xs)/\R (Qq K d) H1
 | .str z=>R (D7 z) H1
 |_=>False
def EO(hm:X.mg "enumerate"=none)(ha:PE X a ta)(hg:Gl X "enumerate":=by rfl)(hs:Sv [a] X.env=[(false,Tj a X.env)]:=by rfl):PI X (.Tuple elts k0 pos2) (.Call (.Name "enumerate" p) [a] [] pos) (zd X.K ta):=by
 intro R1 s σ H R I h;have hA:=pa_cons ha pan (by rw[hs];rfl);refine Call_ (lE I hg hm ul (PyProof.Rows.callWith_type1 (cK (hA pos R1 s σ H (λvs H1=>∃x,vs=[x]/\(match x with| .ref d=>(∃xs,aV X.K H1 d xs)/\R (Qq X.K d) H1| .str z=>R (D7 z) H1|_=>False)) I ?_) λus s1 ⟨vs,H1,I1,r1,x,e1,q1⟩=>?_) (by rw[hs];rfl) rfl) (by decide) (by decide))
 .show ta σ H _;have e:(λ(x:V)(H1:Hp)=>match x with| .ref d=>(∃xs,aV X.K H1 d xs)/\R (Qq X.K d) H1| .str z=>R (D7 z) H1|_=>False)=λx H1=>cw σ H1 λxs H2=>∃y,x::xs=[y]/\(match y with| .ref d=>(∃xs,aV X.K H2 d xs)/\R (Qq X.K d) H2| .str z=>R (D7 z) H2|_=>False):=by
   funext x H1;apply propext
   constructor
   .intro q;exact⟨x,rfl,q⟩
   .rintro⟨y,e,q⟩;have:x=y:=by injection e
    subst this;exact q
  rw[<-e];exact h
 .subst e1;obtain⟨u,rfl,ru⟩:=eZ r1;cases x with
  |ref d=>
   obtain⟨⟨xs,hq⟩,q⟩:=q1;cases ru;obtain⟨its,rv,pl,hz⟩:=I1.list hq;refine call_enumerate_list pl.isList λh' he hit hsz hk=>?_;have I2:aT X R1 σ H1 {s1 with heap:=h'}:=I1.kept (t':=s1.toks) hk;refine Uo he ⟨s1.heap.objs.size+1,[s1.heap.objs.size+1,s1.heap.objs.size],_,_,H1,rfl,I2,wB d _ _ (Ys _),⟨⟨_,he⟩,hit⟩,λb hb=>?_,q⟩
   rcases Wn.mp hb with rfl|hb
   .exact I1.fpOk (Yj _) (I1.hok.fresh (Yj _))
   .rw[Wu.mp hb];exact I1.fpOk (Yd _) (I1.hok.fresh (Yd _))
  |str z=>
   obtain⟨t,rfl⟩:=ru;refine call_enumerate_str λh' he hit hsz hk=>?_;have I2:aT X R1 σ H1 {s1 with heap:=h'}:=I1.kept (t':=s1.toks) hk;refine Uo he ⟨s1.heap.objs.size+1,[s1.heap.objs.size+1,s1.heap.objs.size],_,_,H1,rfl,I2,wA _ _ z t (Ys _),⟨⟨_,he⟩,hit⟩,λb hb=>?_,q1⟩
   rcases Wn.mp hb with rfl|hb
   .exact I1.fpOk (Yj _) (I1.hok.fresh (Yj _))
   .rw[Wu.mp hb];exact I1.fpOk (Yd _) (I1.hok.fresh (Yd _))
  |_=>exact q1.elim
def C4(K:Frag)(hm:X.mg "enumerate"=none)(ha:PE X a ta)(hg:Gl X "enumerate":=by rfl)(hs:Sv [a] X.env=[(false,Tj a X.env)]:=by rfl)(hK:X.K=K:=by rfl):PI X (.Tuple elts k0 pos2) (.Call (.Name "enumerate" p) [a] [] pos) (zd K ta):=by subst hK;exact EO hm ha hg hs
end
abbrev one(c:Nat):Str:=⟨#[c]⟩
def Ltr(c:Nat):Prop:=97<=c/\c<=122
def D6:("abcdefghijklmnopqrstuvwxyz":Str).cps.toList=[97,98,99,100,101,102,103,104,105,106,107,108,109,110,111,112,113,114,115,116,117,118,119,120,121,122]:=by decide+kernel
def Mv(h0:0<=i)(h1:i<26):oh ("abcdefghijklmnopqrstuvwxyz":Str).cps.toList i=some (97+i.toNat):=by
 have e:i=((i.toNat:Nat):Int):=by omega
 have hx:∀k<26,("abcdefghijklmnopqrstuvwxyz":Str).cps.toList[k]? =some (97+k):=by rw[D6];decide
 have q:=bK (hx i.toNat (by omega));rw[<-e]at q;exact q
section
variable{K:Frag}{σ rest:St}{H:Hp}{te ta tb tl:TE}{Q:VK}{c:Nat}{z:Str}
def L7(ha:Ev ta σ H (.str (one c)))(hb:Ev tb σ H (.str z)):Ev (eP K .In ta tb) σ H (.bl (decide (c∈z.cps.toList))):=λQ q=>ha _ (hb _ (by
 rw[vc,U3];exact q))
def Fu(ha:Ev ta σ H (.str (one c)))(hb:Ev tb σ H (.str z)):Ev (eP K .NotIn ta tb) σ H (.bl (!decide (c∈z.cps.toList))):=λQ q=>ha _ (hb _ (by
 rw[nB,U3];exact q))
def Dr{lo hi:Option Int}(ha:Ev ta σ H (.str z))(hl:∀Q:Option Int->Hp->Prop,Q lo H->tl' σ H Q)(hh:∀Q:Option Int->Hp->Prop,Q hi H->th σ H Q)(hz:z.length<=h9):Ev (Bc K ta tl' th) σ H (.str (kR z lo hi)):=λQ q=>ha _ (hl _ (hh _ ⟨hz,q⟩))
def gy:∀Q:Option Int->Hp->Prop,Q none H->jy σ H Q:=λQ q=>q
def fT(h:Ev te σ H (.int i)):∀Q:Option Int->Hp->Prop,Q (some i) H->mG te σ H Q:=λQ q=>h _ q
end
def JZ(ho:Ev to σ H (.str z))(q:te σ H λx H2=>r (.str z) [x] H2 Q):Kj r to (bg te cw) σ H Q:=ho _ q
section
variable{K:Frag}{σ rest:St}{H:Hp}{te to ta tb tl:TE}{t:TA}{Q:VK}{R:Bool->Hp->Prop}{D:j6}{g:TG}{tB:TS}{v x y:V}{vs:List V}
def tZ(h:Ev te σ H (.bl b)):Ev (cB tS (bg te cw)) σ H (.int (if b then 1 else 0)):=λQ q=>h _ q
def AT{ta:TA}(n:Int)(hta:∀Q:List V->Hp->Prop,(∀H',ak H H'->Q [.int n] H')->ta σ H Q)(h0: -(2 ^ 62)<=n)(h1:n<2 ^ 62)(Pv:Nat->St->Hp->Prop)(hp0:∀H',ak H H'->Pv 0 σ H')(hs:∀i σ H,i<n.toNat->Pv i σ H->g (.int (0+i)) σ H λσ2 H2=>tB {D with nx:=Pv (i+1),ct:=Pv (i+1),bk:=D.nx} σ2 H2)(hd:∀σ H,Pv n.toNat σ H->D.nx σ H):tFor (pJ ta) g tB D σ H:=
 hta _ λH' s=>⟨n,rfl,h0,h1,rc Pv (hp0 H' s) hs hd⟩
def OX{i:Int}{Q:List V->Hp->Prop}(h:Av t σ H vs)(hz:vs.length<=1000)(hi:∀H',Ev te σ H' (.int i))(e:oh vs i=some v)(q:∀H',ak H H'->Q [v] H'):bg (nM K (rR t) te) cw σ H Q:=mq h hz hi e q
def OQ(h:Tv tt σ H false)(q:u σ H R):MH tt u σ H R:=h _ (km q)
def vN(P0:Z1->Hp->Prop)(htl:∀Q:VK,(∀d H',P0 d H'->Q (.ref d) H')->tl σ H Q)(h:∀d H',P0 d H'->∃xs,aV K H' d xs/\∃Pv:Nat->St->Hp->Prop,Pv 0 σ H'/\(∀i σ' H',Pv i σ' H'->aV K H' d xs)/\
   (∀(i:Nat) x σ' H' t,xs[i]? =some x->Pv i σ' H'->H' t=none->g (.ref t) σ' (upd H' t (.tup [.int (i:Int),x])) λσ2 H2=>tB {D with nx:=Pv (i+1),ct:=Pv (i+1),bk:=D.nx} σ2 H2)/\(∀σ' H',Pv xs.length σ' H'->D.nx σ' H')):tFor (zd K tl) g tB D σ H:=by
 refine htl _ λd H1 p1=>?_;obtain⟨xs,hq,Pv,hp0,hl,hs,hd⟩:=h d H1 p1;refine⟨⟨xs,hq⟩,λi m σ' H'=>m=xs.length - i/\i<=xs.length/\Pv i σ' H',⟨_,rfl,Yh _,hp0⟩,?_⟩;rintro i m σ' H' ⟨rfl,hi,pv⟩;have hS:=hl i σ' H' pv
 by_cases hlt:i<xs.length
 .refine .inr ⟨⟨xs,xs[i],hS,Wp hlt⟩,Pv (i+1),λσ2 H2 p2=>⟨xs.length - (i+1),by omega,rfl,hlt,p2⟩,?_⟩;rintro x H2 ⟨t,w,rfl,ht,rfl,hx⟩;exact hs i w σ' H' t (hx xs hS) pv ht
 .have e:i=xs.length:=by omega
  subst e;exact .inl ⟨⟨xs,hS,Yd _⟩,hd σ' H' pv⟩
def oN{xs:List V}{lo hi:Option Int}(ha:Ev ta σ H (.ref d))(hl:∀Q:Option Int->Hp->Prop,Q lo H->tl' σ H Q)(hh:∀Q:Option Int->Hp->Prop,Q hi H->th σ H Q)(hx:aV K H d xs)(q:∀p,H p=none->Q (.ref p) (upd H p (.lst (cutV xs lo hi)))):Bc K ta tl' th σ H Q:=ha _ (hl _ (hh _ ⟨xs,hx,q⟩))
def vj{ns:List Int}{i:Int}(h0:0<=i)(h1:i<ns.length):∃n:Int,oh (ns.map V.int) i=some (.int n)/\n∈ns:=by
 have hlt:i.toNat<ns.length:=by omega
 have e:(ns.map V.int)[i.toNat]? =some (.int ns[i.toNat]):=by rw[Wr,Wp hlt];rfl
 have q:=bK e;have ei:((i.toNat:Nat):Int)=i:=by omega
 rw[ei]at q;exact⟨_,q,WV hlt⟩
def Cw{xs:List V}{i:Int}(h0:0<=i)(h1:i<xs.length):∃v,oh xs i=some v/\v∈xs:=by
 have hlt:i.toNat<xs.length:=by omega
 have q:=bK (Wp hlt);have ei:((i.toNat:Nat):Int)=i:=by omega
 rw[ei]at q;exact⟨_,q,WV hlt⟩
def Fo(P0:Hp->Prop)(htl:∀Q:VK,(∀H',P0 H'->Q (.ref d) H')->tl σ H Q)(hq:∀H',P0 H'->aV K H' d xs)(Pv:Nat->St->Hp->Prop)(hp0:∀H',P0 H'->Pv 0 σ H')(hl:∀i σ' H',Pv i σ' H'->aV K H' d xs)(hs:∀(i:Nat) x σ' H' t,xs[i]? =some x->Pv i σ' H'->H' t=none->g (.ref t) σ' (upd H' t (.tup [.int (i:Int),x])) λσ2 H2=>tB {D with nx:=Pv (i+1),ct:=Pv (i+1),bk:=D.nx} σ2 H2)(hd:∀σ' H',Pv xs.length σ' H'->D.nx σ' H'):tFor (zd K tl) g tB D σ H:=by
 refine htl _ λH1 p1=>?_;refine⟨⟨xs,hq H1 p1⟩,λi m σ' H'=>m=xs.length - i/\i<=xs.length/\Pv i σ' H',⟨_,rfl,Yh _,hp0 H1 p1⟩,?_⟩;rintro i m σ' H' ⟨rfl,hi,pv⟩;have hS:=hl i σ' H' pv
 by_cases hlt:i<xs.length
 .refine .inr ⟨⟨xs,xs[i],hS,Wp hlt⟩,Pv (i+1),λσ2 H2 p2=>⟨xs.length - (i+1),by omega,rfl,hlt,p2⟩,?_⟩;rintro x H2 ⟨t,w,rfl,ht,rfl,hx⟩;exact hs i w σ' H' t (hx xs hS) pv ht
 .have e:i=xs.length:=by omega
  subst e;exact .inl ⟨⟨xs,hS,Yd _⟩,hd σ' H' pv⟩
def pM{i j:Nat}{d:Z1}{a b:V}{R:St->Hp->Prop}(h:H d=some (.tup [a,b]))(q:R ((σ.set i (some a)).set j (some b)) H):Dk K 2 (iT (gName i) (iT (gName j) AR)) (.ref d) σ H R:=⟨d,_,rfl,dU.of h,rfl,_,_,rfl,_,_,rfl,rfl,q⟩
end
def iw(c:Nat):V:=.str (one c)
section
variable{κ:Type}[DecidableEq κ]
def vU(l:List κ)(x:κ):List κ:=if x∈l then l else l++[x]
def cR(val:Nat->κ):Nat->List κ
 |0=>[]
 |i+1=>vU (cR val i) (val i)
theorem kJ(val:Nat->κ):∀i,(cR val i).length<=i
 |0=>Yd 0
 |i+1=>by
  have ih:=kJ val i;show(vU (cR val i) (val i)).length<=i+1;unfold vU
  by_cases h:val i∈cR val i
  .rw[R9 h];omega
  .rw[R8 h,Wq];show _+1<=_;omega
theorem px(val:Nat->κ)(x:κ):∀i,x∈cR val i<->x∈(List.range i).map val
 |0=>by simp[cR]
 |i+1=>by
  have ih:=px val x i;show x∈vU (cR val i) (val i)<->_;rw[Xf,WA,WF,<-ih];unfold vU
  by_cases h:val i∈cR val i
  .rw[R9 h]
   constructor
   .exact λz=>.inl z
   .rintro(z|z)
    .exact z
    .have:x=val i:=by simpa using z
     rw[this];exact h
  .rw[R8 h,WF];simp
theorem pw(val:Nat->κ):∀i,(cR val i).length=i<->((List.range i).map val).Nodup
 |0=>by simp[cR]
 |i+1=>by
  have ih:=pw val i;have hle:=kJ val i;have hm:=px val (val i) i;show(vU (cR val i) (val i)).length=i+1<->_;rw[Xf,WA,Xg];unfold vU
  by_cases h:val i∈cR val i
  .rw[R9 h]
   constructor
   .intro z;omega
   .intro z;exact Sc rfl (z.2.2 (val i) (hm.mp h) (val i) (by simp))
  .rw[R8 h,Wq]
   constructor
   .intro z;have z:(cR val i).length+1=i+1:=z;refine⟨ih.mp (by omega),by simp,λa ha b hb e=>h (hm.mpr ?_)⟩;have:b=val i:=by simpa using hb
    rw[<-this,<-e];exact ha
   .intro z;rw[ih.mpr z.1];rfl
end
section
variable{prog:Ss}{w:World}{A:S5}{R:Result->So->Prop}{I:Z1}{fp wr:List Z1}{G:Array UX->Array UX->Prop}{n:Nat}{Pt:Nat->Z0->Prop}{St:Nat->So->Prop}{κ:Type}[DecidableEq κ]{knd:KeyKind prog w κ}
def B4(W:WalksS prog w A.in1 I fp wr G n Pt St)(D:Z1)(hD:D∉fp)(val:Nat->κ)(hv:∀i v,Pt i v->knd.is (val i) v=true/\v.scannable=true)(hb:n+1<scanBound):∀k i s,n - i=k->i<=n->St i s->s.heap.SetOf knd D (λx=>decide (x∈cR val i)) (cR val i).length->(∀s2,Moved (D::wr) G s s2->s2.heap.SetOf knd D (λx=>decide (x∈cR val n)) (cR val n).length->R (.ok (.ret .none)) s2)->TN (Su prog w) A (.builtin "set.update.loop" ⟨[.ref D,.ref I],[]⟩) R s:=by
 have nW:D∉wr:=λz=>hD (W.sub _ z);have up:∀b∈wr,b∈D::wr:=λb z=>Wy _ z;have mv:∀{s s2:So}{S:κ->Bool}{m:Nat},Moved wr G s s2->s.heap.SetOf knd D S m->s2.heap.SetOf knd D S m:=λ{s s2 S m} hm ⟨o,es,ep,t,ho,r⟩=>⟨o,es,ep,t,hm.heap D _ nW ho,r⟩;intro k
 induction k with
 |zero=>
  intro i s e1 e2 st hS hR;have e3:i=n:=by omega
  subst e3;refine S6 TH ?_;rw[S4 Ti _];refine Si (W.done s _ _ st λs2 hm=>?_);exact Sk (hR s2 (hm.mono up) (mv hm hS))
 |succ k ih=>
  intro i s e1 e2 st hS hR;have e3:i<n:=by omega
  refine S6 TH ?_;rw[S4 Ti _];refine Si (W.item i s _ _ e3 st λv s2 hp st2 hm=>?_);obtain⟨kv,sv⟩:=hv i v hp;have hS2:=mv hm hS;refine Si (SE ?_);unfold setAdd;refine SE (Si (knd.pyHash kv ?_));have room:(cR val i).length+1<scanBound:=by have:=kJ val i;omega
  refine wpAny_setAddHashed_of kv sv hS2 room λh2 sb hS3=>?_;have hS4:h2.SetOf knd D (λx=>decide (x∈cR val (i+1))) (cR val (i+1)).length:=by
   refine SetOf_congr hS3 (λx=>?_) ?_
   .show(decide (x∈cR val i)||decide (x=val i))=decide (x∈vU (cR val i) (val i))
    unfold vU
    by_cases m:val i∈cR val i
    .rw[R9 m]
     by_cases e:x=val i
     .subst e;rw[R6 m];simp
     .rw[R7 e,YL]
    .rw[R8 m,YF];simp
   .show(if decide (val i∈cR val i)=true then _ else _)=(vU (cR val i) (val i)).length;unfold vU
    by_cases m:val i∈cR val i
    .rw[R9 (R6 m),R9 m]
    .rw[R8 (by rw[R7 m];decide),R8 m,Wq];rfl
  refine Sk ⟨Uw Ti _,ih (i+1) _ (by omega) e3 (W.frame _ s2 _ _ st2 (Yj _) λb hb o e=>?_) hS4 λs3 hm3 hS5=>?_⟩
  .exact(sb.2 b (λz:b=D=>hD (z▸hb))).trans e
  .refine hR s3 (Moved.trans W.gtrans ((hm.mono up).then_heap (Yj _) λb o hb e=>?_) hm3) hS5;exact(sb.2 b (λz:b=D=>hb (by rw[z];exact Wv))).trans e
end
section
variable{prog:Ss}{w:World}{A:S5}{E:Sg}{s:So}{κ:Type}[DecidableEq κ]{knd:KeyKind prog w κ}
abbrev dW(led:Bool):Obj:={cls:=.type "set",dict:=none,data:=.set #[] 0 (.fresh 0 0 led)}
def B2{l:Z1}{its:Array Z0}{Q:Sg}(val:Nat->κ)(hh:A.handled=none)(hl:s.heap.IsList l its)(hv:∀i v,its[i]? =some v->knd.is (val i) v=true/\v.scannable=true)(hb:its.size+1<scanBound)(k:∀h2 tk,h2.SetOf knd s.heap.objs.size (λx=>decide (x∈cR val its.size)) (cR val its.size).length->(∀b o,b<s.heap.objs.size->s.heap.get? b=some o->h2.get? b=some o)->Q (.ref s.heap.objs.size) {s with heap:=h2,toks:=tk}):Sn (Su prog w) A (call (.type "set") [.ref l]) Q E s:=by
 obtain⟨c0,tl0,hmro⟩:=F.called_set.mro;have hmade:=F.called_set.made;have hsub:=F.called_set.sub;have n1:=F.called_set.notType;have n2:=F.called_set.canCreate;have n3:=F.typeCall_set_1 (.ref l);refine Tr (UC ?_);show Sn _ _ (callAny (.type "set") _) _ _ _;refine Sk ⟨TR _ (by decide+kernel),S6 F.entry_type_call ?_⟩;rw[Around.under_plain (Vt "set" [.ref l] []) rfl]
 repeat (any_goals (first|assumption|wp_step))
 refine S7 (code_set_new_1 (.ref l) (E:=E) (Q₁:=λo s1=>∃led:Bool,o=.ref s.heap.objs.size/\s1={s with heap:=s.heap.push (dW led)}) λled=>⟨led,rfl,rfl⟩) λr s1 hr=>?_;cases r with
 |error e=>exact hr
 |ok fl=>
  cases fl with
  |ret ob=>
   obtain⟨led,rfl,rfl⟩:=hr;have g0:(s.heap.push (dW led)).get? s.heap.objs.size=some (dW led):=Sm _ rfl;have ty:U9 {s with heap:=s.heap.push (dW led)} (.ref s.heap.objs.size) "set":=⟨_,g0,rfl⟩;have m1:=F.called_set.init.lookup;have m2:=F.called_set.init.bind (.ref s.heap.objs.size)
   repeat (any_goals (first|assumption|wp_step))
   refine S7 (Th (R:=wants (λr s2=>r=.none/\∃h2 tk,s2={s with heap:=h2,toks:=tk}/\h2.SetOf knd s.heap.objs.size (λx=>decide (x∈cR val its.size)) (cR val its.size).length/\
     (∀b o,b<s.heap.objs.size->s.heap.get? b=some o->h2.get? b=some o)) E) F.called_set.init.plain F.entry_set_init (check_set_init_1 ty ?_)) λr2 s2 hr2=>?_
   .obtain⟨⟨oc,od,oda,osl⟩,ho,hc,nl,hd⟩:=hl;simp only at hc hd;subst hc;subst hd;have hol:(s.heap.push (dW led)).get? l=some {cls:=.type "list",dict:=od,data:=.seq its nl,slots:=osl}:=Sj _ ho;have b1:=F.sub_list_set;have b2:=F.sub_list_frozenset;have b3:(UV "list" == UV "dict")=false:=by decide
    have hl1:(s.heap.push (dW led)).IsList l its:=⟨_,hol,rfl,nl,rfl⟩;unfold Builtin.«set.__init__» noKeywords UF;generalize hPI:pyIter=PI
    wp_walk
    subst hPI;refine Tn hl1 (Si (UP ?_));have hlt:l<s.heap.objs.size:=Sl ho;have h3:A.in1.in1.in1.handled=none:=by simp[hh]
    have sz:(s.heap.push (dW led)).objs.size=s.heap.objs.size+1:=SR ..;have ne1:l≠(s.heap.push (dW led)).objs.size:=by rw[sz];exact Yg (Yp hlt)
    have ne2:s.heap.objs.size∉[(s.heap.push (dW led)).objs.size,l]:=by
     rw[sz];intro z
     rcases Wn.mp z with z|z
     .exact Ys _ z.symm
     .exact Yl hlt (Wu.mp z)
    refine B4 (knd:=knd) ((VU h3 _ l ne1 its).toS) s.heap.objs.size ne2 val hv hb (its.size - 0) 0 _ (by omega) (Yh _) ⟨⟨_,Sm _ rfl,rfl,rfl⟩,(hl1.push _)⟩ ?_ (λs3 hm hS3=>?_)
    .refine SetOf_congr ((setObjOf_fresh (knd:=knd) led).setOf (Sj _ g0) (by unfold scanBound;omega)) (λx=>?_) rfl;show false=decide (x∈([]:List κ));simp
    .obtain⟨hh3,gg3,dd3,tk3,os3⟩:=s3;obtain rfl:gg3=s.gens:=hm.gens;obtain rfl:dd3=s.drawn:=hm.drawn;obtain rfl:os3=s.os:=hm.os;show Sn _ _ _ _ _ _;refine Sk ?_;show Sn _ _ (ret SC) _ _ _;refine Sk ⟨rfl,hh3,tk3,rfl,hS3,λb o hb2 e=>?_⟩;refine hm.heap b o ?_ (Sj _ (Sj _ e));rw[sz];intro z
     rcases Wn.mp z with z|z
     .exact Yg hb2 z
     .exact Yg (Yp hb2) (Wu.mp z)
   .cases r2 with
    |error e=>exact hr2
    |ok fl2=>
     cases fl2 with
     |ret r3=>
      obtain⟨rfl,h2,tk,rfl,hS2,kp⟩:=hr2
      repeat (any_goals (first|assumption|wp_step))
      exact k _ _ hS2 kp
     |_=>exact hr2.elim
  |_=>exact hr.elim
end
def kU(ss:List Str):List Str:=cR (λi=>ss.getD i Tx) ss.length
def iq(ss:List Str):(kU ss).length=ss.length<->ss.Nodup:=by
 unfold kU;rw[pw];have e:(List.range ss.length).map (λi=>ss.getD i Tx)=ss:=by
  apply Xe;intro i;rw[Wr]
  by_cases h:i<ss.length
  .rw[Xs h,Wp h];show some (ss.getD i Tx)=_;rw[WD,Wp h];rfl
  .rw[WX (by rw[W1];omega),WX (by omega)];rfl
 rw[e]
section
def uQ(K:Frag)(xs:List V)(H:Hp)(Q:VK):Prop:=match xs with
 | [.ref d]=>∃ss:List Str,aV K H d (ss.map V.str)/\ss.length+1<scanBound/\∀q φ,H q=none->(∀h:SD,φ h->∃o es ep t,h.get? q=some o/\o.ExactSet/\o.data=.set es ep t/\t.fits es.size=true/\es.size=(kU ss).length)->Q (.ref q) (upd H q (.ext φ))
 |_=>False
def xH(hh:X.A.handled=none):bQ X (.type "set") (uQ X.K):=by
 intro R1 s σ H xs us Q I r h;unfold uQ at h;split at h
 .rename_i d;obtain⟨ss,hq,hb,q⟩:=h;obtain⟨u,rfl,rx⟩:=eZ r;cases rx;obtain⟨its,r',pl,hz⟩:=I.list hq;have hlen:=r'.length;rw[Wm]at hlen;have hs:its.toArray.size=ss.length:=by rw[Wt,<-hlen]
  refine B2 (knd:=PySem.strKind X.prog X.w) (λi=>ss.getD i Tx) hh pl.isList (λi v hv=>?_) (by rw[hs];exact hb) λh2 tk hS kp=>?_
  .rw[XB]at hv;have hi:i<its.length:=(Wz.mp hv).1;have hx:(ss.map V.str)[i]? =some (.str (ss.getD i Tx)):=by rw[Wr,WD,Wp (by omega)];rfl
   obtain⟨u,hu,ru⟩:=r'.get hx;rw[hv]at hu;cases hu;obtain⟨t,rfl⟩:=ru;exact⟨by simp[PySem.strKind,VP],rfl⟩
  .rw[hs]at hS;have k2:∀b u,s.heap.get? b=some u->h2.get? b=some u:=λb u e=>kp b u (Sl e) e;obtain⟨o,es,ep,t,h1,h2',h3,_,_,h6,h7,h8⟩:=hS;refine⟨.ref s.heap.objs.size,upd H s.heap.objs.size (.ext λh=>h.get? s.heap.objs.size=some o),I.laid k2 (Yd _) ?_,rfl,q _ _ (I.hok.fresh (Yd _)) λh e=>⟨o,es,ep,t,e,h2',h3,h7,h8⟩⟩;exact⟨h1,⟨o,h1⟩,λh1 h2 e k=>k o e⟩
 .exact h.elim
def yW(xs:List V)(H:Hp)(Q:VK):Prop:=match xs with
 | [.ref d]=>∃φ n,H d=some (.ext φ)/\n<=1000/\(∀h:SD,φ h->∃o es ep t,h.get? d=some o/\o.ExactSet/\o.data=.set es ep t/\t.fits es.size=true/\es.size=n)/\Q (.int n) H
 |_=>False
def jM:bQ X (.builtin "len") yW:=by
 intro R1 s σ H xs us Q I r h;unfold yW at h;split at h
 .rename_i d;obtain⟨φ,n,hd,hn,hφ,q⟩:=h;obtain⟨u,rfl,rx⟩:=eZ r;cases rx;obtain⟨p,_,_⟩:=(show cb X.prog X.w H s.heap d (.ext φ)from I.hok d _ hd);obtain⟨o,es,ep,t,h1,h2,h3,h4,h5⟩:=hφ _ p;subst h5;exact PySem.call_len_set h1 h2 h3 h4 (by omega) ⟨.int es.size,H,I.tok _,⟨_,rfl⟩,q⟩
 .exact h.elim
def yY(K:Frag)(hr:eG j X.A)(hK:X.K=K:=by rfl):bQ X (.type "set") (uQ K):=by subst hK;exact xH hr.hd
end
def pC{K:Frag}{σ:St}{H:Hp}{Q:VK}{te:TE}{d:Z1}{ss:List Str}(h:Ev te σ H (.ref d))(hd:aV K H d (ss.map V.str))(hl:ss.length<=1000)(q:∀H',ak H H'->Q (.int (kU ss).length) H'):cB yW (bg (cB (uQ K) (bg te cw)) cw) σ H Q:=
 h _ ⟨ss,hd,by show ss.length+1<4096;omega,λp φ hp hφ=>⟨φ,_,aj,Ye (kJ _ _) hl,hφ,q _ ((ak.refl H).upd hp)⟩⟩
section
variable{X:Cx}
def Aj(ks:List Bool):(List.range ks.length).any (λi=>ks.getD i false)=ks.any id:=by
 rw[YF,W8,W8]
 constructor
 .rintro⟨i,hi,e⟩;have hi:=WG.mp hi;rw[WD,Wp hi]at e;exact⟨_,WV hi,e⟩
 .rintro⟨b,hb,e⟩;obtain⟨i,hi,e2⟩:=X0.mp hb;refine⟨i,WG.mpr hi,?_⟩;rw[WD,Wp hi,e2];exact e
def Mq(K:Frag)(xs:List V)(H:Hp)(Q:VK):Prop:=match xs with
 | [.ref d]=>∃ks:List Bool,aV K H d (ks.map V.bl)/\Q (.bl (ks.any id)) H
 |_=>False
def Ba(hc:X.calm=true):bQ X (.builtin "any") (Mq X.K):=by
 intro R1 s σ H xs us Q I r h;unfold Mq at h;split at h
 .rename_i p;obtain⟨ks,hp,q⟩:=h;obtain⟨u,rfl,ru⟩:=eZ r;cases ru;obtain⟨its,rv,pl,hl⟩:=I.list hp;have hlen:=rv.length;rw[Wm]at hlen;refine call_any_walk (Tn pl.isList ?_);have hne:p≠s.heap.objs.size:=by obtain⟨o,ho,_⟩:=pl.isList;exact Yg (Sl ho)
  have W:=VU (prog:=X.prog) (w:=X.w) (A:=X.A.in1) (show X.A.in1.handled=none from I.ok.hd hc) s.heap.objs.size p hne its.toArray;have hpush:∀o b ob,s.heap.get? b=some ob->(s.heap.push o).get? b=some ob:=λo b ob e=>Sj _ e;refine⟨_,_,_,_,_,_,λi=>ks.getD i false,rfl,W,⟨⟨_,Sm _ rfl,rfl,rfl⟩,pl.isList.at λo e=>hpush _ _ o e⟩,uC rv,λh' tk k=>?_⟩;have e:(List.range its.toArray.size).any (λi=>ks.getD i false)=ks.any id:=by rw[<-Aj,Wt,<-hlen]
  rw[e];refine⟨.bl _,H,I.kept λb ob e=>k b ob ?_ (hpush _ b ob e),rfl,q⟩;intro hb;have:b=s.heap.objs.size:=by simpa using hb
  subst this;exact Sc (Sl e) (Yk _)
 .exact h.elim
def Rz(K:Frag)(hc:X.calm=true:=by rfl)(hK:X.K=K:=by rfl):bQ X (.builtin "any") (Mq K):=by subst hK;exact Ba hc
end
def Thg(H:Hp):V->Prop
 | .non=>True
 | .bl _=>True
 | .int _=>True
 | .str z=>z.length<=1000
 | .ref a=>(∃xs,H a=some (.lst xs))\/(∃xs,H a=some (.tup xs))\/(∃kvs,H a=some (.dK kvs))
 |_=>False
def pG(T:BT)(H:Hp):V->Bool
 | .bl _=>fV .bool T
 | .int _=>fV .int T
 | .str _=>fV .str T
 | .ref a=>match H a with
   |some (.lst _)=>fV .list T
   |some (.tup _)=>fV .tuple T
   |some (.dK _)=>fV .dict T
   |_=>false
 |_=>false
def tupOf(H:Hp):V->Option (List V)
 | .ref a=>match H a with
   |some (.tup xs)=>some xs
   |_=>none
 |_=>none
def lstOf(H:Hp):V->Option (List V)
 | .ref a=>match H a with
   |some (.lst xs)=>some xs
   |_=>none
 |_=>none
def fB(H:Hp):Nat->V->Prop
 |0,v=>Thg H v
 |n+1,v=>Thg H v/\∀xs,(tupOf H v=some xs\/lstOf H v=some xs)->∀x∈xs,fB H n x
def fB.thg(h:fB H n v):Thg H v:=by
 cases n with
 |zero=>exact h
 |succ n=>exact h.1
def Bz:V->Bool
 | .int _=>true
 |_=>false
def amongB(v:V)(a b:Int):Bool:=match v with
 | .int i=>decide (a<=i/\i<=b)
 |_=>false
def wordB(v:V)(ws:List Str):Bool:=match v with
 | .str z=>decide (z∈ws)
 |_=>false
section
variable{K:Frag}{σ:St}{H H':Hp}{te ta tb:TE}{ws:List Str}
def Thg.same(h:Thg H v)(s:ak H H'):Thg H' v:=by
 cases v with
 |ref a=>
  rcases h with⟨xs,e⟩|⟨xs,e⟩|⟨xs,e⟩
  .exact .inl ⟨xs,s _ _ e⟩
  .exact .inr (.inl ⟨xs,s _ _ e⟩)
  .exact .inr (.inr ⟨xs,s _ _ e⟩)
 |_=>exact h
def iu(h:Thg H v)(s:ak H H'):tupOf H' v=tupOf H v:=by
 cases v with
 |ref a=>
  rcases h with⟨xs,e⟩|⟨xs,e⟩|⟨xs,e⟩<;>simp only[tupOf,e,s _ _ e]
 |_=>rfl
def jE(h:Thg H v)(s:ak H H'):lstOf H' v=lstOf H v:=by
 cases v with
 |ref a=>
  rcases h with⟨xs,e⟩|⟨xs,e⟩|⟨xs,e⟩<;>simp only[lstOf,e,s _ _ e]
 |_=>rfl
theorem fB.same:∀{v:V},fB H n v->ak H H'->fB H' n v:=by
 induction n with
 |zero=>intro v h s;exact Thg.same h s
 |succ n ih=>
  intro v h s;refine⟨h.1.same s,λxs hx x hm=>ih (h.2 xs ?_ x hm) s⟩;rw[iu h.1 s,jE h.1 s]at hx;exact hx
def jw(h:tupOf H v=some xs):∃a,v=.ref a/\H a=some (.tup xs):=by
 cases v with
 |ref a=>
  simp only[tupOf]at h;split at h
  .rename_i e;cases h;exact⟨a,rfl,e⟩
  .cases h
 |_=>cases h
def fL(h:lstOf H v=some xs):∃a,v=.ref a/\H a=some (.lst xs):=by
 cases v with
 |ref a=>
  simp only[lstOf]at h;split at h
  .rename_i e;cases h;exact⟨a,rfl,e⟩
  .cases h
 |_=>cases h
def pP(h:Ev te σ H v)(t:Thg H v):Ev (Mh T te) σ H (.bl (pG T H v)):=λQ q=>h _ (by
 cases v with
 |ref a=>
  rcases t with⟨xs,e⟩|⟨xs,e⟩|⟨xs,e⟩<;>(simp only[y9,e];simp only[pG,e]at q;exact q)
 |non=>exact q
 |bl b=>exact q
 |int b=>exact q
 |str b=>exact q
 |_=>exact t.elim)
def By(t:Thg H v):(pG .int H v&& !pG .bool H v)=Bz v:=by
 cases v with
 |ref a=>rcases t with⟨xs,e⟩|⟨xs,e⟩|⟨xs,e⟩<;>(simp only[pG,e];rfl)
 |non=>rfl
 |bl b=>rfl
 |int b=>rfl
 |str b=>rfl
 |_=>exact t.elim
def BO(t:Thg H v):pG .str H v=(match v with| .str _=>true|_=>false):=by
 cases v with
 |ref a=>rcases t with⟨xs,e⟩|⟨xs,e⟩|⟨xs,e⟩<;>(simp only[pG,e];rfl)
 |non=>rfl
 |bl b=>rfl
 |int b=>rfl
 |str b=>rfl
 |_=>exact t.elim
def Kz(t:Thg H v):pG .tuple H v=(tupOf H v).isSome:=by
 cases v with
 |ref a=>rcases t with⟨xs,e⟩|⟨xs,e⟩|⟨xs,e⟩<;>(simp only[pG,tupOf,e];rfl)
 |non=>rfl
 |bl b=>rfl
 |int b=>rfl
 |str b=>rfl
 |_=>exact t.elim
def CT(t:Thg H v):pG .list H v=(lstOf H v).isSome:=by
 cases v with
 |ref a=>rcases t with⟨xs,e⟩|⟨xs,e⟩|⟨xs,e⟩<;>(simp only[pG,lstOf,e];rfl)
 |non=>rfl
 |bl b=>rfl
 |int b=>rfl
 |str b=>rfl
 |_=>exact t.elim
def pI(z:Str)(ws:List Str):Ka (.str z) (ws.map V.str)=decide (z∈ws):=by
 unfold Ka;rw[Xh]
 by_cases h:z∈ws
 .rw[R6 h];exact W8.mpr ⟨z,h,by simp[eqV]⟩
 .rw[R7 h];apply Xz.mpr;intro y hy;have:y≠z:=λe=>h (e▸hy);simp[eqV,this]
def nc(ss:List Str):(ss.map V.str).all flatV=true:=WC.mpr λx hx=>by obtain⟨z,_,rfl⟩:=Wo.mp hx;rfl
def xA(ha:Ev ta σ H (.str z))(hb:Ev tb σ H (.ref p))(h:aV K H p (ws.map V.str)\/dU K H p (ws.map V.str)):Ev (eP K .In ta tb) σ H (.bl (decide (z∈ws))):=λQ q=>ha _ (hb _ (by
 rw[mh];refine⟨p,_,rfl,h,rfl,nc ws,?_⟩;rw[pI];exact q))
end
def sortsL:List Str:=["leap","slide","jump"]
def aimsL:List Str:=["go","hit","any"]
def endsL:List Str:=["without","home"]
def cW:List Str:=["lost","even","won"]
def tupB(H:Hp)(v:V)(n:Int):Bool:=match tupOf H v with
 |some xs=>decide ((xs.length:Int)=n)
 |none=>false
def pA(H:Hp)(v:V)(a b:Int):Bool:=match lstOf H v with
 |some xs=>decide (a<=(xs.length:Int)/\(xs.length:Int)<=b)
 |none=>false
def limS(so:Str):Int:=if so="leap"then 3 else 1
def oE(so:Str)(x y:V):Bool:=amongB x (-limS so) (limS so)&&amongB y (-limS so) (limS so)&& !(decide (x=.int 0)&&decide (y=.int 0))
def jV(xs:List V)(ws:List Str):Bool:=match xs with
 | [k,.str so,.str ai,x,y]=>wordB k ws&&decide (so∈sortsL)&&decide (ai∈aimsL)&& !(decide (so="jump")&& !decide (ai="hit"))&&oE so x y
 |_=>false
def gn(H:Hp)(v:V)(ws:List Str):Bool:=match tupOf H v with
 |some xs=>jV xs ws
 |none=>false
def yQ(xs:List V)(A B:List Str):Bool:=match xs with
 | [a,b]=>wordB a A&&wordB b B
 |_=>false
def gz(H:Hp)(v:V)(A B:List Str):Bool:=match tupOf H v with
 |some xs=>yQ xs A B
 |none=>false
def pairsB(H:Hp)(v:V)(A B:List Str):Bool:=match lstOf H v with
 |some vs=>decide (vs.length<=6)&&vs.all (λx=>gz H x A B)
 |none=>false
def eO(H:Hp)(v:V):Str:=match tupOf H v with
 |some (.str a::_)=>a
 |_=>Tx
def jB(H:Hp)(v:V):Str:=match tupOf H v with
 |some (_:: .str b::_)=>b
 |_=>Tx
def turnsB(H:Hp)(v:V)(ws:List Str):Bool:=pairsB H v ws ws&&match lstOf H v with
 |some vs=> !(vs.any λx=>decide (jB H x∈vs.map (eO H)))&&decide ((vs.map (eO H)).Nodup)
 |none=>false
def oF:Sp:=λvs H Q _=>∃v,vs=[v]/\Thg H v/\Q (.bl (Bz v)) H
def lV:Sp:=λvs H Q _=>∃v a b,vs=[v,.int a,.int b]/\Thg H v/\Q (.bl (amongB v a b)) H
def gY(K:Frag)(H:Hp)(d:Z1)(ws:List Str):Prop:=aV K H d (ws.map V.str)\/dU K H d (ws.map V.str)
def jA(K:Frag):Sp:=λvs H Q _=>∃v d ws,vs=[v,.ref d]/\Thg H v/\gY K H d ws/\Q (.bl (wordB v ws)) H
def oG:Sp:=λvs H Q _=>∃v n,vs=[v,.int n]/\Thg H v/\Q (.bl (tupB H v n)) H
def rT:Sp:=λvs H Q _=>∃v a b,vs=[v,.int a,.int b]/\Thg H v/\Q (.bl (pA H v a b)) H
def yj:Sp:=λvs H Q _=>∃so x y,vs=[.str so,x,y]/\Thg H x/\Thg H y/\Q (.bl (oE so x y)) H
def yn(K:Frag):Sp:=λvs H Q _=>∃v d ws,vs=[v,.ref d]/\fB H 1 v/\gY K H d ws/\Q (.bl (gn H v ws)) H
def yo(K:Frag):Sp:=λvs H Q _=>∃v d e A B,vs=[v,.ref d,.ref e]/\fB H 1 v/\gY K H d A/\gY K H e B/\Q (.bl (gz H v A B)) H
def uK(K:Frag):Sp:=λvs H Q _=>∃v d e A B,vs=[v,.ref d,.ref e]/\fB H 2 v/\gY K H d A/\gY K H e B/\∀H',ak H H'->Q (.bl (pairsB H v A B)) H'
def uH(K:Frag):Sp:=λvs H Q _=>∃v d ws,vs=[v,.ref d]/\fB H 2 v/\gY K H d ws/\∀H',ak H H'->Q (.bl (turnsB H v ws)) H'
def yv(K:Frag):Sp:=λvs H Q _=>∃v d ws,vs=[v,.ref d]/\fB H 2 v/\gY K H d ws/\∀H',ak H H'->Q (.bl (pairsB H v endsL ws)) H'
def D3(ha:Ev ta σ H (.bl a))(h1:a=true->tb σ H Q)(h2:a=false->Q (.bl false) H):rC ta tb σ H Q:=ha _ (by
 cases a with
 |true=>exact h1 rfl
 |false=>exact h2 rfl)
def DM{K:Frag}{σ:St}{H:Hp}{Q:VK}{ta tb:TE}{op:CmpOp}(h:ta σ H λx H1=>tb σ H1 λy H2=>bT K op x y H2 Q):eP K op ta tb σ H Q:=h
def At(h:pairsB H v A B=true):∃xs,lstOf H v=some xs/\xs.length<=6/\∀x∈xs,∃c f1 f2,x=.ref c/\H c=some (.tup [.str f1,.str f2]):=by
 unfold pairsB at h;cases e1:lstOf H v with
 |none=>rw[e1]at h;cases h
 |some xs=>
  rw[e1]at h;have h:=h;rw[YC]at h;refine⟨xs,rfl,Sa h.1,λx hx=>?_⟩;have hp:=WC.mp h.2 x hx;unfold gz at hp;cases e2:tupOf H x with
  |none=>rw[e2]at hp;cases hp
  |some ys=>
   rw[e2]at hp;obtain⟨c,rfl,hc⟩:=jw e2;have hp:=hp
   match ys,hp,hc with
   | [a,b],hp,hc=>
     have hp:(wordB a A&&wordB b B)=true:=hp;rw[YC]at hp;cases a with
     |str f1=>
      cases b with
      |str f2=>exact⟨c,f1,f2,rfl,hc⟩
      |_=>cases hp.2
     |_=>cases hp.1
   | [],hp,_=>cases hp
   | [_],hp,_=>cases hp
   |_::_::_::_,hp,_=>cases hp
structure RG0(P:Ss)(w:World)(K:Frag)(mg:Sf)(R4:SD):Prop where
 is_whole:fC P w K mg R4 "is_whole" ["thing"] 1 oF
structure RG1(P:Ss)(w:World)(K:Frag)(mg:Sf)(R4:SD):Prop where
 is_among:fC P w K mg R4 "is_among" ["thing","least","most"] 2 lV
structure RG2(P:Ss)(w:World)(K:Frag)(mg:Sf)(R4:SD):Prop where
 is_word:fC P w K mg R4 "is_word" ["thing","words"] 1 (jA K)
 is_tuple_of:fC P w K mg R4 "is_tuple_of" ["thing","many"] 1 oG
structure RG3(P:Ss)(w:World)(K:Frag)(mg:Sf)(R4:SD):Prop extends RG2 P w K mg R4 where
 is_step:fC P w K mg R4 "is_step" ["sort","across","up"] 3 yj
structure RG4(P:Ss)(w:World)(K:Frag)(mg:Sf)(R4:SD):Prop where
 is_list_of:fC P w K mg R4 "is_list_of" ["thing","least","most"] 1 rT
 is_pair:fC P w K mg R4 "is_pair" ["thing","firsts","seconds"] 2 (yo K)
structure RG5(P:Ss)(w:World)(K:Frag)(mg:Sf)(R4:SD):Prop where
 are_pairs:fC P w K mg R4 "are_pairs" ["thing","firsts","seconds"] 3 (uK K)
def letB:V->Bool
 | .str z=>match z.cps.toList with
   | [c]=>decide (97<=c/\c<=122)
   |_=>false
 |_=>false
def iL:V->Str
 | .str z=>z
 |_=>Tx
def kindsB(H:Hp)(v:V):Bool:=match lstOf H v with
 |some xs=>decide (1<=xs.length/\xs.length<=6)&&xs.all letB&&decide ((xs.map iL).Nodup)
 |none=>false
def rulesB(H:Hp)(v:V)(ws:List Str):Bool:=match lstOf H v with
 |some xs=>decide (xs.length<=24)&&xs.all (λx=>gn H x ws)
 |none=>false
def OU:("a":Str).cps.toList=[97]:=by decide+kernel
def OT:("z":Str).cps.toList=[122]:=by decide+kernel
def Lw{c d:Nat}:([c]<[d])<->c<d:=by
 constructor
 .intro h;cases h with
  |rel h=>exact h
  |cons h=>cases h
 .intro h;exact List.Lex.rel h
def Fw{K:Frag}{σ:St}{H:Hp}{ta tb tc:TE}{x y z:Str}(ha:Ev ta σ H (.str x))(hb:Ev tb σ H (.str y))(hc:Ev tc σ H (.str z)):Ev (nj K .LtE .LtE ta tb tc) σ H (.bl (!decide (y.cps.toList<x.cps.toList)&& !decide (z.cps.toList<y.cps.toList))):=λQ q=>ha _ (hb _ (by
 rw[qM,r_b];cases h: !decide (y.cps.toList<x.cps.toList)with
 |true=>
  rw[h]at q;exact hc _ q
 |false=>
  rw[h]at q;exact q))
def mP:Sp:=λvs H Q _=>∃v,vs=[v]/\Thg H v/\Q (.bl (letB v)) H
def uM:Sp:=λvs H Q _=>∃v,vs=[v]/\fB H 1 v/\∀H',ak H H'->Q (.bl (kindsB H v)) H'
def uI(K:Frag):Sp:=λvs H Q _=>∃v d ws,vs=[v,.ref d]/\fB H 2 v/\gY K H d ws/\∀H',ak H H'->Q (.bl (rulesB H v ws)) H'
def pB(h:letB v=true):∃c,v=.str (one c)/\Ltr c:=by
 cases v with
 |str z=>
  match e:z.cps.toList with
  | [c]=>
    simp only[letB,e]at h;exact⟨c,by rw[str_ext (x:=z) (y:=one c) (by rw[e])],Sa (p:=97<=c/\c<=122) h⟩
  | []=>simp only[letB,e]at h;cases h
  |_::_::_=>simp only[letB,e]at h;cases h
 |_=>cases h
structure FP(K:Frag)(C:Z1):Prop where
 cl:x5 K C
 board:dG K C "board"
 kinds:dG K C "kinds"
 rules:dG K C "rules"
 turns:dG K C "turns"
 ends:dG K C "ends"
 stuck:dG K C "stuck"
def gf1(b:Z1):List (Str×V):=putF "board" (.ref b) []
def gf2(b k:Z1):List (Str×V):=putF "kinds" (.ref k) (gf1 b)
def gf3(b k r:Z1):List (Str×V):=putF "rules" (.ref r) (gf2 b k)
def gf4(b k r t:Z1):List (Str×V):=putF "turns" (.ref t) (gf3 b k r)
def Fi(b k r t e:Z1):List (Str×V):=putF "ends" (.ref e) (gf4 b k r t)
def jp(b k r t e:Z1)(st:Str):List (Str×V):=putF "stuck" (.str st) (Fi b k r t e)
section
variable{b k r t e:Z1}{st:Str}
def Dh:(jp b k r t e st).lookup ("board":Str)=some (.ref b):=by unfold jp Fi gf4 gf3 gf2 gf1;rw[aK,R8 (by decide+kernel),aK,R8 (by decide+kernel),aK,R8 (by decide+kernel),aK,R8 (by decide+kernel),aK,R8 (by decide+kernel),aK,R9 rfl]
def Dg:(jp b k r t e st).lookup ("kinds":Str)=some (.ref k):=by unfold jp Fi gf4 gf3 gf2;rw[aK,R8 (by decide+kernel),aK,R8 (by decide+kernel),aK,R8 (by decide+kernel),aK,R8 (by decide+kernel),aK,R9 rfl]
def Df:(jp b k r t e st).lookup ("rules":Str)=some (.ref r):=by unfold jp Fi gf4 gf3;rw[aK,R8 (by decide+kernel),aK,R8 (by decide+kernel),aK,R8 (by decide+kernel),aK,R9 rfl]
def Dd:(jp b k r t e st).lookup ("turns":Str)=some (.ref t):=by unfold jp Fi gf4;rw[aK,R8 (by decide+kernel),aK,R8 (by decide+kernel),aK,R9 rfl]
def Fh:(jp b k r t e st).lookup ("ends":Str)=some (.ref e):=by unfold jp Fi;rw[aK,R8 (by decide+kernel),aK,R9 rfl]
def De:(jp b k r t e st).lookup ("stuck":Str)=some (.str st):=by unfold jp;rw[aK,R9 rfl]
def L4:(gf1 b).length<=1/\(gf2 b k).length<=2/\(gf3 b k r).length<=3/\(gf4 b k r t).length<=4/\(Fi b k r t e).length<=5:=by have a1:(gf1 b).length<=1:=df "board" (.ref b) [];have a2:(gf2 b k).length<=(gf1 b).length+1:=df "kinds" (.ref k) (gf1 b);have a3:(gf3 b k r).length<=(gf2 b k).length+1:=df "rules" (.ref r) (gf2 b k);have a4:(gf4 b k r t).length<=(gf3 b k r).length+1:=df "turns" (.ref t) (gf3 b k r);have a5:(Fi b k r t e).length<=(gf4 b k r t).length+1:=df "ends" (.ref e) (gf4 b k r t);omega
end
structure kA(C:Z1)(H:Hp)(p b:Z1)(ks rs ts es:List V)(st:Str):Prop where
 ex:∃dx kq rq tq eq,H p=some (.ins C dx (jp b kq rq tq eq st))/\H kq=some (.lst ks)/\H rq=some (.lst rs)/\H tq=some (.lst ts)/\H eq=some (.lst es)
section
variable{K:Frag}{C:Z1}{H H':Hp}{p b:Z1}{ks rs ts es:List V}{st:Str}
def kA.same(G:kA C H p b ks rs ts es st)(s:ak H H'):kA C H' p b ks rs ts es st:=by obtain⟨dx,kq,rq,tq,eq,a,c,d,e,f⟩:=G.ex;exact⟨dx,kq,rq,tq,eq,s _ _ a,s _ _ c,s _ _ d,s _ _ e,s _ _ f⟩
theorem kA.board(G:kA C H p b ks rs ts es st)(D:FP K C):Fl K H p "board" (.ref b):=by obtain⟨dx,kq,rq,tq,eq,a,_⟩:=G.ex;exact⟨C,dx,_,a,D.cl,D.board,Dh⟩
theorem kA.kinds(G:kA C H p b ks rs ts es st)(D:FP K C):∃q,Fl K H p "kinds" (.ref q)/\H q=some (.lst ks):=by obtain⟨dx,kq,rq,tq,eq,a,c,d,e,f⟩:=G.ex;exact⟨kq,⟨C,dx,_,a,D.cl,D.kinds,Dg⟩,c⟩
theorem kA.rules(G:kA C H p b ks rs ts es st)(D:FP K C):∃q,Fl K H p "rules" (.ref q)/\H q=some (.lst rs):=by obtain⟨dx,kq,rq,tq,eq,a,c,d,e,f⟩:=G.ex;exact⟨rq,⟨C,dx,_,a,D.cl,D.rules,Df⟩,d⟩
theorem kA.turns(G:kA C H p b ks rs ts es st)(D:FP K C):∃q,Fl K H p "turns" (.ref q)/\H q=some (.lst ts):=by obtain⟨dx,kq,rq,tq,eq,a,c,d,e,f⟩:=G.ex;exact⟨tq,⟨C,dx,_,a,D.cl,D.turns,Dd⟩,e⟩
theorem kA.ends(G:kA C H p b ks rs ts es st)(D:FP K C):∃q,Fl K H p "ends" (.ref q)/\H q=some (.lst es):=by obtain⟨dx,kq,rq,tq,eq,a,c,d,e,f⟩:=G.ex;exact⟨eq,⟨C,dx,_,a,D.cl,D.ends,Fh⟩,f⟩
theorem kA.stuck(G:kA C H p b ks rs ts es st)(D:FP K C):Fl K H p "stuck" (.str st):=by obtain⟨dx,kq,rq,tq,eq,a,_⟩:=G.ex;exact⟨C,dx,_,a,D.cl,D.stuck,De⟩
end
section
def wQ(t:Thg H v)(s:ak H H'):gz H' v A B=gz H v A B:=by unfold gz;rw[iu t s]
def wL(t:Thg H v)(s:ak H H'):gn H' v ws=gn H v ws:=by unfold gn;rw[iu t s]
def AS(t:Thg H v)(s:ak H H'):eO H' v=eO H v:=by unfold eO;rw[iu t s]
def Aa(t:Thg H v)(s:ak H H'):jB H' v=jB H v:=by unfold jB;rw[iu t s]
def wa{xs:List V}(h:∀x∈xs,f x=g x):xs.all f=xs.all g:=by
 induction xs with
 |nil=>rfl
 |cons a r ih=>rw[WE,WE,h a (by simp),ih λx hx=>h x (by simp[hx])]
def D0{xs:List V}(h:∀x∈xs,f x=g x):xs.any f=xs.any g:=by
 induction xs with
 |nil=>rfl
 |cons a r ih=>rw[WS,WS,h a (by simp),ih λx hx=>h x (by simp[hx])]
def iQ(t:fB H 2 v)(s:ak H H'):pairsB H' v A B=pairsB H v A B:=by
 unfold pairsB;rw[jE t.1 s];cases e:lstOf H v with
 |none=>rfl
 |some xs=>
  show(_&&xs.all _)=(_&&xs.all _);rw[wa (g:=λx=>gz H x A B) λx hx=>wQ (t.2 xs (.inr e) x hx).thg s]
def kh(t:fB H 2 v)(s:ak H H'):rulesB H' v ws=rulesB H v ws:=by
 unfold rulesB;rw[jE t.1 s];cases e:lstOf H v with
 |none=>rfl
 |some xs=>
  show(_&&xs.all _)=(_&&xs.all _);rw[wa (g:=λx=>gn H x ws) λx hx=>wL (t.2 xs (.inr e) x hx).thg s]
def j9(t:fB H 2 v)(s:ak H H'):turnsB H' v ws=turnsB H v ws:=by
 unfold turnsB;rw[iQ t s,jE t.1 s];cases e:lstOf H v with
 |none=>rfl
 |some xs=>
  have tx:∀x∈xs,Thg H x:=λx hx=>(t.2 xs (.inr e) x hx).thg;have em:=WK λx hx=>AS (tx x hx) s;show(_&&((!xs.any λx=>decide (jB H' x∈xs.map (eO H')))&&decide ((xs.map (eO H')).Nodup)))=(_&&((!xs.any λx=>decide (jB H x∈xs.map (eO H)))&&decide ((xs.map (eO H)).Nodup)));rw[em,D0 (g:=λx=>decide (jB H x∈xs.map (eO H))) λx hx=>by rw[Aa (tx x hx) s]]
end
def yu(K:Frag)(C:Z1):Sp:=λvs H Q _=>∃p b kd rd td ed dx ws rs ts es st,vs=[.ref p,.ref b,.ref kd,.ref rd,.ref td,.ref ed,.str st]/\H p=some (.ins C dx [])/\H kd=some (.lst (ws.map V.str))/\H rd=some (.lst rs)/\H td=some (.lst ts)/\H ed=some (.lst es)/\
 fB H 1 (.ref kd)/\fB H 2 (.ref rd)/\fB H 2 (.ref td)/\fB H 2 (.ref ed)/\kindsB H (.ref kd)=true/\rulesB H (.ref rd) ws=true/\turnsB H (.ref td) ws=true/\pairsB H (.ref ed) endsL ws=true/\st∈cW/\st.length<=1000/\
 ∀H',kA C H' p b (ws.map V.str) rs ts es st->SameBut p H H'->Q .non H'
structure RU(P:Ss)(w:World)(K:Frag)(mg:Sf)(R4:SD):Prop where
 is_list_of:fC P w K mg R4 "is_list_of" ["thing","least","most"] 1 rT
 is_letter:fC P w K mg R4 "is_letter" ["thing"] 1 mP
 is_rule:fC P w K mg R4 "is_rule" ["thing","kinds"] 4 (yn K)
structure RS(P:Ss)(w:World)(K:Frag)(mg:Sf)(R4:SD):Prop where
 are_kinds:fC P w K mg R4 "are_kinds" ["thing"] 2 uM
 are_rules:fC P w K mg R4 "are_rules" ["thing","kinds"] 5 (uI K)
 is_turns:fC P w K mg R4 "is_turns" ["thing","kinds"] 4 (uH K)
 is_ends:fC P w K mg R4 "is_ends" ["thing","kinds"] 4 (yv K)
 is_word:fC P w K mg R4 "is_word" ["thing","words"] 1 (jA K)
def oi{K:Frag}{σ:St}{H:Hp}{to te:TE}{u:TS}{D:j6}{f:Str}{p C dx d:Z1}{fs:List (Str×V)}{xs:List V}(he:Ev te σ H (.ref d))(hd:H d=some (.lst xs))(ho:∀H',Ev to σ H' (.ref p))(hp:H p=some (.ins C dx fs))(hc:x5 K C)(hn:dG K C f)(hl:fs.length<1000)(h2:∀q,H q=none->u D σ (upd (upd H q (.lst xs)) p (.ins C dx (putF f (.ref q) fs)))):cm (Ah K to (cB (vB K) (bg te cw)) f) u D σ H:=
 he _ ⟨xs,.inl (aV.of hd),λq hq=>ho _ _ ⟨p,C,dx,fs,rfl,by rw[av (ay hp hq)];exact hp,hc,hn,hl,h2 q hq⟩⟩
end L2
namespace L2
open PySem
def hJ{N P:List Str}{sc:T8}(a:sc.kind=.function:=by rfl)(b:sc.isCoroutine=false:=by rfl)(c:sc.isGenerator=false:=by rfl)(d:N.Nodup:=by decide+kernel)(e:N.take P.length=P:=by rfl)(f:∀x∈P,sc.names.lookup x=some .local\/sc.names.lookup x=some .cell:=by decide+kernel)(g:∀y∈sc.names,y.2≠.free:=by decide+kernel):aN N P sc:=⟨a,b,c,d,e,f,g⟩
end L2
namespace L2
open PySem PySem.Spec PyProof.Rows
def Bf(H:Hp):V->Prop
 | .non=>True
 | .bl _=>True
 | .int _=>True
 | .str z=>z.length<=1000
 | .ref a=>(∃xs,H a=some (.lst xs))\/(∃xs,H a=some (.tup xs))
 |_=>False
def jX(H:Hp):Nat->V->Prop
 |0,v=>Bf H v
 |n+1,v=>Bf H v/\∀xs,(tupOf H v=some xs\/lstOf H v=some xs)->∀x∈xs,jX H n x
def Bf.thg(h:Bf H v):Thg H v:=by
 cases v with
 |ref a=>
  rcases h with h|h
  .exact .inl h
  .exact .inr (.inl h)
 |_=>exact h
theorem jX.n:∀{n:Nat}{v:V},jX H n v->fB H n v
 |0,v,h=>Bf.thg h
 |n+1,v,h=>⟨h.1.thg,λxs hx x hm=>(h.2 xs hx x hm).n⟩
def jX.flat{n:Nat}(h:Bf H v)(f:flatV v=true):jX H n v:=by
 cases n with
 |zero=>exact h
 |succ n=>
  refine⟨h,λxs hx=>?_⟩;cases v with
  |ref a=>cases f
  |_=>rcases hx with z|z<;>cases z
theorem jX.lst{n:Nat}{xs:List V}(h:H a=some (.lst xs))(hx:∀x∈xs,jX H n x):jX H (n+1) (.ref a):=⟨.inl ⟨xs,h⟩,λys hy=>by
 rcases hy with z|z
 .simp only[tupOf,h]at z;cases z
 .simp only[lstOf,h]at z;cases z;exact hx⟩
theorem jX.tup{n:Nat}{xs:List V}(h:H a=some (.tup xs))(hx:∀x∈xs,jX H n x):jX H (n+1) (.ref a):=⟨.inr ⟨xs,h⟩,λys hy=>by
 rcases hy with z|z
 .simp only[tupOf,h]at z;cases z;exact hx
 .simp only[lstOf,h]at z;cases z⟩
section
def Mu(xs:List V)(H:Hp)(Q:VK):Prop:=match xs with
 | [.int i]=>Q (.int (if i<0 then -i else i)) H
 |_=>False
def rB:bQ X (.builtin "abs") Mu:=by
 intro R1 s σ H xs us Q I r h;unfold Mu at h;split at h
 .rename_i i;obtain⟨u,rfl,tk,rfl⟩:=eZ r;exact call_abs_int λu tk=>⟨.int _,H,I.tok _,⟨u,rfl⟩,h⟩
 .exact h.elim
end
section
def Dy(ha:Ev ta σ H (.int i)):Ev (cB Mu (bg ta cw)) σ H (.int (if i<0 then -i else i)):=λQ q=>ha _ q
end
def PJ:V->Bool
 | .ref _=>true
 |_=>false
def jq{K:Frag}{H:Hp}{n:Nat}{x:V}(h:(flatV x||PJ x)=true):rJ K H n x x true:=by
 cases hf:flatV x with
 |true=>
  have:=rJ.flat (K:=K) (H:=H) (n:=n) hf hf;rw[DB hf]at this;exact this
 |false=>
  cases x with
  |ref a=>exact .same
  |_=>first|(cases hf;done)|(rw[hf]at h;cases h)
section
def Rw(K:Frag){lo hi:Option S8}(he:PE X e te)(hl:PO X lo tl)(hu:PO X hi th)(hK:X.K=K:=by rfl):PE X (.Subscript e (.Slice lo hi none p2) pos) (Ri (K5 K) te tl th):=by subst hK;exact vk KM he hl hu
end
section
def Pe{l:Z1}{i:Int}{P:V->Hp->Prop}(h:∀Q:VK,(∀v H',P v H'->Q v H')->te σ H Q)(h2:∀v H',P v H'->Ev to σ H' (.ref l)/\Ev ti σ H' (.int i)/\∃xs,H' l=some (.lst xs)/\0<=i/\i<xs.length/\D.nx σ (upd H' l (.lst (xs.set i.toNat v)))):tAsg te (gSub to ti J3) D σ H:=
 h _ λv H' p=>by obtain⟨ho,hi,xs,hl,h0,h1,q⟩:=h2 v H' p;refine ho _ (hi _ ⟨l,xs,i,i.toNat,rfl,rfl,hl,?_,q⟩);unfold ixN;rw[R9 h0,R9 h1]
end
structure ZAp(z TI TO i1 i2:Z1):Prop where
 a:TI≠z
 b:TO≠z
 c:i1≠z
 d:i2≠z
 e:TI≠TO
 f:TO≠i1
 g:TO≠i2
 h:i1≠i2
 i:TI≠i1
 j:TI≠i2
section
variable{X:Cx}{R1:Sh}{σ:St}{H:Hp}{s:So}{h':SD}
def aT.turnedN{t':Nat}{fp:List Z1}(I:aT X R1 σ H s)(k:∀b ob,b∉fp->s.heap.get? b=some ob->h'.get? b=some ob)(hf:∀b∈fp,j5 X R1 H b):aT X R1 σ H {s with heap:=h',toks:=t'}:=by
 have nf:∀b u,H b=some u->b∉fp:=λb u q z=>by rw[(hf b z).1]at q;cases q
 have nl:X.env.locals∉fp:=λz=>(hf _ z).2.1 rfl;refine I.step (λb hb=>⟨(hf b hb).2.2.2.1,(hf b hb).2.1,(hf b hb).2.2.2.2.1,(hf b hb).2.2.2.2.2⟩) (λb ob _ _ hc q _=>k b ob hc q) (λb ob _ _ hc q _=>⟨ob.slots,k b ob hc q⟩)
  (λ_ _ _ _ n=>n) (λb ob hc q=>⟨ob,k b ob hc q⟩) (λ_ _ q=>q) (λ_ _ _ q=>q) (λb ps q=>⟨#[],by rw[q];simp⟩) (λm hm=>?_) (λb u q=>?_) I.bare
 .obtain⟨ob,es,ep,ho,r⟩:=hm;exact⟨ob,es,ep,k _ ob nl ho,r⟩
 .refine(I.hok b u q).stay (λc v hc z=>k c v ?_ z) (λc z=>z) λc xs z=>z
  rcases hc with z|z
  .rw[z];exact nf b u q
  .exact nf c _ z
def aT.turned_laidN{t':Nat}{fp:List Z1}{a:Z1}{o:HO}(I:aT X R1 σ H s)(k:∀b ob,b∉fp->s.heap.get? b=some ob->h'.get? b=some ob)(hf:∀b∈fp,j5 X R1 H b)(hp:s.heap.objs.size<=a)(new:cb X.prog X.w (upd H a o) h' a o):aT X R1 σ (upd H a o) {s with heap:=h',toks:=t'}:=by
 have hn:=I.hok.fresh hp;have nf:∀b u,H b=some u->b∉fp:=λb u q z=>by rw[(hf b z).1]at q;cases q
 have nl:X.env.locals∉fp:=λz=>(hf _ z).2.1 rfl;refine I.step (λb hb=>⟨(hf b hb).2.2.2.1,(hf b hb).2.1,(hf b hb).2.2.2.2.1,(hf b hb).2.2.2.2.2⟩) (λb ob _ _ hc q _=>k b ob hc q) (λb ob _ _ hc q _=>⟨ob.slots,k b ob hc q⟩)
  (λb ob hc q n=>by rw[av (Yg (Yi (Sl q) hp))];exact n) (λb ob hc q=>⟨ob,k b ob hc q⟩) (λb xs q=>by rw[av (ay q hn)];exact q) (λb ob u q=>by rw[av (ay q hn)];exact q)
  (λb ps q=>⟨#[],by rw[av (ay q hn),q];simp⟩) (λm hm=>?_) (λb u q=>?_) I.bare
 .obtain⟨ob,es,ep,ho,r⟩:=hm;exact⟨ob,es,ep,k _ ob nl ho,r⟩
 .by_cases hb:b=a
  .subst hb;rw[aj]at q;cases q;exact new
  .rw[av hb]at q;refine(I.hok b u q).stay (λc v hc z=>k c v ?_ z) (λc z=>by rw[av (ay z hn)];exact z) λc xs z=>by rw[av (ay z hn)];exact z
   rcases hc with z|z
   .rw[z];exact nf b u q
   .exact nf c _ z
end
section
variable{K:Frag}{te ta tb:TE}{σ:St}{H:Hp}{Q:VK}
def lT(P:St->Hp->Prop)(hu:∀σ' H',P σ' H'->u D σ' H')(h:(∀σ' H',P σ' H'->u D σ' H')->cm (qd c t1 e) u D σ H):cm (qd c t1 e) u D σ H:=h hu
def Px(h:Ev te σ H (.ref d))(hd:aV K H d ys\/dU K H d ys)(q:∀l,H l=none->Q (.ref l) (upd H l (.lst ys))):cB (vB K) (bg te cw) σ H Q:=h _ ⟨ys,hd,q⟩
def pZ(h:te σ H (λv H'=>D.nx (σ.set i (some v)) H')):tAsg te (gName i) D σ H:=h
def bo(h:Ev te σ H v)(q:ta' σ H (λxs H2=>R (v::xs) H2)):bg te ta' σ H R:=h _ q
def dM(h:te σ H (λx H1=>ta' σ H1 (λxs H2=>R (x::xs) H2))):bg te ta' σ H R:=h
def de(q:R [] H):cw σ H R:=q
def dR(q:t σ H (λvs H2=>vs.length<=h9/\∀p,H2 p=none->Q (.ref p) (upd H2 p (.lst vs)))):rR t σ H Q:=q
def pV(h:ta σ H λx H1=>tb σ H1 λy H2=>lO .Add x y H2 Q):iJ .Add ta tb σ H Q:=h
def mF(ha:H a=some (.lst xs))(hb:H b=some (.lst ys))(hz:xs.length+ys.length<=1000)(q:∀p,H p=none->Q (.ref p) (upd H p (.lst (xs++ys)))):lO .Add (.ref a) (.ref b) H Q:=by rw[Co];exact⟨a,b,xs,ys,rfl,rfl,ha,hb,Ye hz (by decide),q⟩
end
section
def Lv(xs:List V)(H:Hp)(Q:VK):Prop:=match xs with
 | [.int i,.int j]=>Q (.int (if j > i then j else i)) H
 |_=>False
def A6(hc:X.calm=true):bQ X (.builtin "max") Lv:=(A7 hc).imp λxs H Q h=>by
 unfold Lv at h;split at h
 .exact⟨_,_,rfl,h⟩
 .exact h.elim
end
section
def L5(ha:Ev ta σ H (.int i))(hb:Ev tb σ H (.int j)):Ev (cB Lv (bg ta (bg tb cw))) σ H (.int (if j > i then j else i)):=λQ q=>ha _ (hb _ q)
end
section
def Ft(ha:Ev ta σ H (.int i))(h:i.natAbs.log2<1920):Ev (cB wD (bg ta cw)) σ H (.str (toString i)):=λQ q=>ha _ ⟨h,q⟩
def Cy{ss:List Str}{i:Int}(h0:0<=i)(h1:i<ss.length):∃s,oh (ss.map V.str) i=some (.str s)/\s∈ss:=by obtain⟨v,e1,e2⟩:=Cw (xs:=ss.map V.str) h0 (by rw[Wm];exact h1);obtain⟨s,hs,rfl⟩:=Wo.mp e2;exact⟨s,e1,hs⟩
end
def Fs{K:Frag}{h:SD}{C:Z1}{bmB:List Z0}{newId:String}(X:K.In h)(q:Zs K C bmB newId=true):∃bm N nm qn bs hdct sn sub ab col dd k0 k1 k2 k3 k5 mN,h.get? C=some (Uz nm qn C N bs bm hdct sn sub ab col dd k0 k1 k2 k3 k5 newId)/\h.Ns N mN/\mN "__init__"=none/\Wf h bmB bm:=by
 unfold Zs at q;split at q
 .rename_i dd cd sl ho;split at q
  .rename_i C' bm k0 k1 k2 k3 n k5 hm hs;simp only[YC,beq_iff_eq,YH]at q;obtain⟨⟨⟨⟨⟨rfl,rfl⟩,hdel⟩,ht⟩,hok⟩,hni⟩:=q;obtain⟨nm,bs,mro,ns,qn,hd,sn,sub,ab,col,del⟩:=cd;dsimp only at hm hdel hok hni;subst hm hdel;have hsl:sl= #[k0,k1,k2,k3,some (.builtin n),k5]:=by obtain⟨l⟩:=sl;simp only at hs;rw[hs]
   subst hsl;exact⟨bm,ns,nm,qn,bs,hd,sn,sub,ab,col,dd,k0,k1,k2,k3,k5,_,X _ _ ho,.of_isNs (ZQ X hok),PySem.W.nsMap_none_of_in X hok hni,ZR X ht⟩
  .cases q
 .cases q
def KB(ta:TA)(G:Hp->Prop):TS:=λ_ σ H=>ta σ H λvs H1=>vs.length<=h9/\G H1
def iA{X:Cx}{x:Str}{C:Z1}{e₀:S8}{rest:List S8}{np cpos pos:VL}{ta:TA}{G:Hp->Prop}{bmB:List Z0}{B newId initId:String}(FB:Vo B newId initId bmB)(hc:X.calm=true)(hg:Gl X x)(hm:X.mg x=some (.ref C))(q:Zs X.K C bmB newId=true)(ha:PA X (e₀::rest) ta)(hx:∀R1 σ H s h' e vs,aT X R1 σ H s->Us s.heap h' e (.ref C) vs->G H->X.xe (.ref e) {s with heap:=h'})(he:Sv (e₀::rest) X.env=(false,Tj e₀ X.env)::Sv rest X.env:=by rfl)(hpl:(Tl cpos (Sv rest X.env)).any (·.1)=false:=by rfl)(hdb:(x == ("__debug__":Str))=false:=by decide):PS X (.Raise (some (.Call (.Name x np) (e₀::rest) [] cpos)) none pos) (KB ta G):=by
 intro R1 s σ H D I h;obtain⟨tl,N,nm,qn,bs,hdct,sn,sub,ab,col,dd,k0,k1,k2,k3,k5,mN,hC,hN,hni,T⟩:=Fs I.ok.mod.kin q;refine wpAny_Raise_call_subT (C:=C) (nm:=nm) (q:=qn) (N:=N) (bs:=bs) (bm:=tl) (hdct:=hdct) (sn:=sn) (sub:=sub) (ab:=ab) (col:=col) (dd:=dd) (k0:=k0) (k1:=k1) (k2:=k2) (k3:=k3) (k5:=k5)
  FB (mN:=mN) (T.hasType FB.hasBase) (I.ok.hd hc) (by rw[he];show(false||(Tl cpos (Sv rest X.env)).any (·.1))=false;rw[hpl];rfl) hni (ig I hg hm ⟨rfl,?_⟩ hdb)
 have h2:=ha cpos R1 s σ H _ I h;rw[he]at h2 ⊢;refine TC (cK h2 λus s2 ⟨vs,H1,I1,r,z,g⟩=>?_);exact⟨rfl,by rw[<-r.length];exact z,I1.bk _ _ hC,hN.keeps I1.bk,T.keeps I1.bk,λh' e hm=>hx R1 σ H1 s2 h' e us I1 hm g⟩
def cb.obj(x:cb P w H h a o):∃u,h.get? a=some u:=by
 cases o with
 |lst xs=>obtain⟨_,_,_,_,e⟩:=x;exact⟨_,e⟩
 |tup xs=>obtain⟨_,_,_,o,e,_⟩:=x;exact⟨o,e⟩
 |dK kvs=>obtain⟨_,_,_,_,o,_,_,e,_⟩:=x;exact⟨o,e⟩
 |dT kvs=>obtain⟨_,_,_,_,o,_,_,e,_⟩:=x;exact⟨o,e⟩
 |set S n=>obtain⟨o,_,_,_,e,_⟩:=x;exact⟨o,e⟩
 |ins C dx fs=>obtain⟨_,_,_,e,_⟩:=x;exact⟨_,e⟩
 |own y=>exact x
 |xd fs=>obtain⟨_,⟨o,_,_,e,_⟩,_⟩:=x;exact⟨o,e⟩
 |rng lo hi=>obtain⟨_,_,_,e⟩:=x;exact⟨_,e⟩
 |frz ob u=>obtain⟨e,_⟩:=x;exact⟨_,e⟩
 |tbl ps=>exact⟨_,(show h.get? a=some _ from x)⟩
 |met f y=>exact⟨_,(show h.get? a=some _ from x)⟩
 |ext φ=>obtain⟨_,e,_⟩:=x;exact e
def Kp(P:Ss)(w:World):zN:=λR5 H s E e s'=>∃a cls a0 B H',e=.ref a/\s'.os=s.os/\Ux s'.gens/\s.heap.get? a=none/\H' a=none/\
 TQ B R5 a cls a0 s'.heap/\kT P w H' B/\Un (iI R5) [] H H' s.heap s'.heap/\(∀b o,s.heap.get? b=some o->H b=none->b∉iI R5->B.get? b=some o)/\
 (∀b o,s.heap.get? b=some o->b∉iI R5->∃o',B.get? b=some o')/\E cls none H'
def vC{P:Ss}{w:World}{K:Frag}{mg:Sf}{R4:SD}{N:List Str}{qual:Str}{scope:T8}{f:Z1}{cd:Z0}{A:S5}{R5:List Wd}{s:So}{H:Hp}{E:XK}{C:Z1}:∀R1 σ H1 s1 h' e vs,aT (iZ (Kp P w) P w K mg R4 N qual scope f cd A R5 s H E) R1 σ H1 s1->Us s1.heap h' e (.ref C) vs->E (.ref C) none H1->(iZ (Kp P w) P w K mg R4 N qual scope f cd A R5 s H E).xe (.ref e) {s1 with heap:=h'}:=by
 intro R1 σ H1 s1 h' e vs I hm hE;have fr:=I.ok.frames;have ST:=I.stack;have BU:Un (iI R5) [] H H1 s.heap s1.heap:=I.R4;have hin:∀env∈(SN qual scope s.heap.objs.size f cd::R5),∀b,env.frame=some b->b∈iI (SN qual scope s.heap.objs.size f cd::R5):=λenv he b hb=>WM.mpr ⟨env,he,hb⟩;have sub:∀b,b∈iI R5->b∈iI (SN qual scope s.heap.objs.size f cd::R5):=λb hb=>by obtain⟨env,he,hf⟩:=WM.mp hb;exact WM.mpr ⟨env,Wy _ he,hf⟩
 have notin:∀b o,s.heap.get? b=some o->b∉iI R5->b∉iI (SN qual scope s.heap.objs.size f cd::R5):=λb o q nb hb=>by
  obtain⟨env,he,hf⟩:=WM.mp hb
  rcases Wn.mp he with rfl|he
  .have:s.heap.objs.size=b:=Sd hf;rw[<-this]at q;exact Sc (Sl q) (Yk _)
  .exact nb (WM.mpr ⟨env,he,hf⟩)
 show Sn _ _ (UI _ _) _ _ _;refine wpAny_leaves_madeW (base:=Zu s1.heap (iI (SN qual scope s.heap.objs.size f cd::R5))) fr rfl (λb o q=>ZF _ q) (ZS ST hin) hm λh2 t x1 x2 x3 x4=>?_;have data:∀b o,s1.heap.get? b=some o->b∈iI R5->∃sl,h2.get? b=some {o with slots:=sl}:=λb o q hb=>by obtain⟨_,o',q',nd⟩:=ST.mem (sub b hb);rw[q]at q';cases q';exact x4 b o (hm.keeps b o q) nd
 refine⟨e,_,_,_,H1,rfl,I.os,I.bare,?_,?_,x1,?_,⟨λb o q n hb hx=>?_,λb o q n hb hx=>?_,BU.free,λb o q hx=>?_,BU.tups,BU.frzs,BU.tbls⟩,λb o q n hb=>?_,λb o q hb=>?_,hE⟩
 .cases q:s.heap.get? e with
  |none=>rfl
  |some o=>
   obtain⟨o',q'⟩:=BU.there e o q (by simp);rw[hm.new]at q';cases q'
 .cases q:H1 e with
  |none=>rfl
  |some o=>
   obtain⟨o',q'⟩:=(I.hok e o q).obj;rw[hm.new]at q';cases q'
 .intro b o q;refine(I.hok b o q).stay (λc v hc z=>Zl _ z λhb=>?_) (λ_ z=>z) λ_ _ z=>z;have fz:=I.stkFree c hb
  rcases hc with rfl|hc
  .rw[q]at fz;cases fz
  .rw[hc]at fz;cases fz
 .exact x1.1 b o (Zl _ (BU.keep b o q n hb hx) (notin b o q hb))
 .obtain⟨sl,q1⟩:=BU.slot b o q n hb hx;obtain⟨sl',q2⟩:=data b _ q1 hb;exact⟨sl',q2⟩
 .obtain⟨o',q1⟩:=BU.there b o q hx
  by_cases hb:b∈iI R5
  .obtain⟨sl,q2⟩:=data b _ q1 hb;exact⟨_,q2⟩
  .exact⟨o',x1.1 b o' (Zl _ q1 (notin b o q hb))⟩
 .exact Zl _ (BU.keep b o q n hb (by simp)) (notin b o q hb)
 .obtain⟨o',q1⟩:=BU.there b o q (by simp);exact⟨o',Zl _ q1 (notin b o q hb)⟩
section
variable{X:Cx}{R1:Sh}{σ:St}{H H':Hp}{s s':So}
abbrev Cx.hand(X:Cx)(e:Z1):Cx:={X with A:=X.A.mark (some (.ref e)),calm:=false}
theorem aT.hand(I:aT X R1 σ H s)(e:Z1):aT (X.hand e) R1 σ H s:=
 ⟨⟨I.ok.mod,I.ok.kind,I.ok.glob,I.ok.blt,I.ok.above,I.ok.inj,I.ok.has,I.ok.cab,λz=>(Bool.noConfusion z),I.ok.frames,I.ok.stk,I.ok.exf,I.ok.bs,I.ok.bsz,I.ok.noex,I.ok.exfs,I.ok.funs,I.ok.frf⟩,I.os,I.bare,I.R4,I.loc,I.cell,I.free,I.freeC,I.pin,I.hok,I.len⟩
def aT.unhand(ok:X.Ok)(I:aT (X.hand e) R1 σ H s):aT X R1 σ H s:=⟨ok,I.os,I.bare,I.R4,I.loc,I.cell,I.free,I.freeC,I.pin,I.hok,I.len⟩
def aT.flown{a:Z1}{cls a0:Z0}{B h5:SD}(I:aT X R1 σ H s)(os:s'.os=s.os)(bare:Ux s'.gens)(ff:s'.heap.FunFrames B X.stack)(fl:B.StaysIn h5)(hok:kT X.prog X.w H' B)(un:Un (iI X.stack) [] H H' s.heap s'.heap)(u:s'.heap.UpToSlots h5)(c1:∀b o,s.heap.get? b=some o->H b=none->b∉iI X.stack->B.get? b=some o)(c2:∀b o,s.heap.get? b=some o->b∉iI X.stack->∃o',B.get? b=some o'):aT X R1 σ H' {s' with heap:=h5}:=by
 refine I.call' os ⟨λb o q n hb _=>fl b o (c1 b o q n hb),λb o q n hb hx=>?_,un.free,λb o q hx=>?_,un.tups,un.frzs,un.tbls⟩ (hok.kept fl) bare (λb z=>Sc z (by simp))
 .obtain⟨sl,q1⟩:=un.slot b o q n hb hx;obtain⟨_,o',q',nd⟩:=ff.mem hb;rw[q1]at q';cases q';obtain⟨sl',q2⟩:=u b _ q1 nd;exact⟨sl',q2⟩
 .by_cases hb:b∈iI X.stack
  .obtain⟨_,o',q',nd⟩:=ff.mem hb;obtain⟨sl',q2⟩:=u b _ q' nd;exact⟨_,q2⟩
  .obtain⟨o',q'⟩:=c2 b o q hb;exact⟨o',fl b o' q'⟩
def aT.forget(I:aT X R1 σ H s)(hn':h'.Ns X.env.locals m')(hs:Td X.env.locals s.heap h'):aT X R1 (List.replicate X.N.length none) H {s with heap:=h',toks:=t'}:=by
 obtain⟨m,hn,_⟩:=id I.loc;obtain⟨oL,_,_,hoL,_⟩:=id hn;have old:∀b o,X.s₀.heap.get? b=some o->h'.get? b=s.heap.get? b:=λb o e=>hs.2 b (Yg (Yi (Sl e) I.ok.above));refine⟨I.ok,I.os,I.bare,⟨λb o e n hb hx=>?_,λb o e n hb hx=>?_,I.R4.free,λb o e hx=>?_,I.R4.tups,I.R4.frzs,I.R4.tbls⟩,⟨_,hn',λj y v e1 e2 e3=>?_⟩,λy c e=>?_,I.free,I.freeC,λp hp=>?_,λb ob e=>?_,by simp⟩
 .exact(old b o e).trans (I.R4.keep b o e n hb hx)
 .obtain⟨sl,e1⟩:=I.R4.slot b o e n hb hx;exact⟨sl,(old b o e).trans e1⟩
 .obtain⟨o',e1⟩:=I.R4.there b o e hx;exact⟨o',(old b o e).trans e1⟩
 .rw[XY]at e2;split at e2<;>cases e2
 .obtain⟨w',z⟩:=I.cell y c e;exact⟨w',z.sameBut hs (I.cne y c e)⟩
 .obtain⟨e,n,ne,nf,d⟩:=I.pin p hp;exact⟨(hs.2 p.1 ne).trans e,n,ne,nf,d⟩
 .refine(I.hok b ob e).stay (λc w' hc q=>(hs.2 c ?_).trans q) (λ_ q=>q) λ_ _ q=>q;rintro rfl;have fz:=I.free
  rcases hc with z|hc
  .rw[z,e]at fz;cases fz
  .rw[hc]at fz;cases fz
end
section
def Ew{f:Z1}{fd:SU}{CX:zN}{E:XK}{R1:Sh}{σ:St}{H:Hp}{s:So}{Q:VK}{us:List Z0}{vs:List V}{E':Sg}(F:bM X.prog X.w X.K X.mg X.R4 CX k f fd ps sp)(hr:eG k X.A)(hb:j1 X.K fd ps [])(I:aT X R1 σ H s)(r:bZ vs us)(h:sp vs H Q E)(hx:∀e s',CX X.stack H s E e s'->E' e s'):Sn (Su X.prog X.w) X.A (call (.ref f) us) (EP X R1 σ Q) E' s:=by
 have hl:(us++[]).length=ps.length:=by rw[WN,<-r.length];exact F.len _ _ _ _ h
 have hb':=hb s us I.kIn hl;rw[WN]at hb';refine Tr (S7 (F.run X.A X.stack s H ⟨us,[]⟩ us vs Q E hr I.env0 hb' r h) λr s' hq=>?_);cases r with
 |error e=>exact hx e s' hq
 |ok fl=>
  cases fl with
  |ret u=>exact I.after hq
  |next=>exact False.elim hq
  |brk=>exact False.elim hq
  |cont=>exact False.elim hq
end
end L2
namespace PySem.W
open PySem PySem.Spec PySem.Calls PyProof.Rows Builtin Builtin.ObjectAttr Builtin.Getset_descriptor
structure ExcC(K:Frag)(D:Z1):Prop where
 ga:Wh K (.ref D) "__getattribute__"=some (some (.builtin "BaseException.__getattribute__"))
 gh:Wh K (.ref D) "__getattr__"=some none
 ha:Wh K (.ref D) "__class__"=some (some (.builtin "object.__class__"))
 hn:specialIn K (.builtin "object.__class__") "__get__"=some (some (.builtin "getset_descriptor.__get__"))
 htk:takesIn K (.builtin "object.__class__")=some true
 hm:mroIn K D (.type "object")=some true
 hb:mroIn K D (.type "BaseException")=some true
 hc:(clsIn K D).isSome=true
section
variable{prog:Ss}{w:World}{A:S5}{E:Sg}{s:So}{K:Frag}{x D:Z1}{o:Obj}
def Qt(ho:h.get? x=some o)(hc:o.cls=.ref D):Wk M h (typeOf (.ref x)) (.ref D):=hc▸(Looks.ld ho).andThen .now
def ON(F:ExcC K D)(X:K.In h):Wk M h (find (.ref x) (.ref D) "__class__") (.bind (.builtin "getset_descriptor.__get__") (.builtin "object.__class__")):=
 (UH X F.ha).andThen ((show Wk M h (getOf (some (.builtin "object.__class__"))) (some (.builtin "getset_descriptor.__get__"))from looks_specialIn X F.hn).andThen
  ((show Wk M h (dataDescriptor? (some (.builtin "object.__class__")) (some (.builtin "getset_descriptor.__get__"))) (some (.builtin "getset_descriptor.__get__",.builtin "object.__class__"))from(looks_takesIn X F.htk).andThen .now).andThen (Looks.tag .now)))
def zP(F:ExcC K D)(X:K.In s.heap)(ho:s.heap.get? x=some o)(hc:o.cls=.ref D)(h:R (.ok (.ret (.ref D))) s):TN (Su prog w) A (.call (.builtin "getset_descriptor.__get__") ⟨[.builtin "object.__class__",.ref x,tp],[]⟩) R s:=by
 obtain⟨hh,g,dr,t,os⟩:=s;have L0:=Qt (M:=Su prog w) ho hc;have L1:=VB (M:=Su prog w) X F.hm;refine Th KF.slot_gs.plain KF.entry_gs (KF.slot_gs.check _ _ _ _ _ _ _ _ KF.type_class (KF.args_gs _ _ _) ?_);unfold Builtin.«getset_descriptor.__get__» descrGet;rw[dga_obj];refine Si (Sk ?_);unfold descrGetter descrCheckInstance descrNameAndClass VT;simp only[KF.owner_class]
 repeat lk
 refine⟨TR _ (by decide+kernel),S6 KF.entry_class ?_⟩;unfold Builtin.«object.__class__» shownTypeOf
 repeat lk
 first|exact h|(rw[hc];exact h)|skip
def Kw(F:ExcC K D)(X:K.In s.heap)(ho:s.heap.get? x=some o)(hc:o.cls=.ref D)(hq:Q () s):Sn M A (checkBuiltinCall "BaseException.__getattribute__" ⟨[.ref x,nameV],[]⟩) Q E s:=by
 obtain⟨hh,g,dr,t,os⟩:=s;have L0:=Qt (M:=M) ho hc;have L1:=VB (M:=M) X F.hb;have LI:Wk M hh (VT (.ref x) (.type "BaseException")) true:=L0.andThen L1;have hk:builtinKind "BaseException.__getattribute__"=some .slot:=by decide+kernel
 have hsplit:splitId "BaseException.__getattribute__"=some ("BaseException","__getattribute__"):=by decide+kernel
 have ha:=PySem.F.args_bexc_ga (.ref x) nameV;simp only[checkBuiltinCall,hk,hsplit];refine Si (LI.at ?_)
 repeat (any_goals (first|assumption|wp_step))
def Kv(F:ExcC K D)(X:K.In s.heap)(ho:s.heap.get? x=some o)(hc:o.cls=.ref D)(h:Q (some (.ref D)) {s with toks:=s.toks+1}):Sn (Su prog w) A (getAttr? (.ref x) "__class__") Q E s:=by obtain⟨hh,g,d,t,os⟩:=s;have L0:=Qt (M:=Su prog w) ho hc;have L1:=UH (M:=Su prog w) X F.ga;have L2:=UH (M:=Su prog w) X F.gh;have L3:=ON (M:=Su prog w) (x:=x) F X;unfold getAttr? getAttrBy? getAttrBy;refine Si (wpAny_mkText (Si (Tb (SE (Si (L0.at (Si (L1.at ?_))))))));dsimp only;rw[R8 (λz:(onTheHeap (Sx D)&&(TX "BaseException.__getattribute__" == TX "object.__getattribute__"))=true=>Sc (YS.mp z).2 (by decide+kernel))];unfold getAttrByItsOwn hookBefore;rw[R9 (show onTheHeap (Sx D)=true from rfl)];refine Si (L2.at ?_);refine Si (Tb (SE ?_));unfold callGetattribute;rw[R8 (by decide)];unfold boundAndCalled;refine Si (T2 (PySem.F.attr_ValueError.ga.bind (.ref x)) ?_);refine Tr (Th PySem.F.attr_ValueError.ga.plain PySem.F.entry_bexc_ga (Kw F X ho hc ?_));unfold Builtin.«object.__getattribute__»;refine Si (Sk ?_);refine Si (Sk ?_);refine Si (L0.at ?_);refine Si (L3.at ?_);show Sn _ _ (V4 [_] (call (.builtin "getset_descriptor.__get__") [.builtin "object.__class__",.ref x,.ref D]) >>= ret) _ _ _;refine Si (SE (Tr (zP (s:=⟨hh,g,d,t+1,os⟩) F X ho hc ?_)));refine Sk ?_;exact handed_on rfl (Sk h)
def kitx_exc(F:ExcC K D):KitX K (.ref x) (.ref D) (λh=>∃o,h.get? x=some o/\o.cls=.ref D) where
 ty:=λ_ _ _ ⟨o,ho,hc⟩=>Qt ho hc
 it:=λ_ _ X _=>by
  obtain⟨cdD,hcD⟩:=Y8.mp F.hc;unfold clsIn at hcD;split at hcD
  .rename_i c' d' cd' sl' ho;intro A' Q' E' s' k q;unfold isType loadHead;exact Si (Vy (k _ _ (X _ _ ho)) (Sk q))
  .cases hcD
 ne:=λh tp dd its n sl X htp=>by
  obtain⟨cdD,hcD⟩:=Y8.mp F.hc;refine Bool.eq_false_iff.mpr λq=>?_;have e:=Value.ref.inj (beq_iff_eq.mp q);subst e;unfold clsIn at hcD;split at hcD
  .rename_i c' d' cd' sl' ho;have z:=(X _ _ ho).symm.trans htp;cases z
  .cases hcD
 ca:=λX ⟨o,ho,hc⟩ k=>Kv F X ho hc k
end
end PySem.W
namespace L2
open PySem PySem.Spec PyProof.Rows
section
structure nN(k:Nat)(A:S5):Prop where
 dp:A.depth+3*k+5<UT
 un:A.units+16*k+200<Tz
def eG.n(r:eG k A)(v:Option Z0):nN k (A.mark v):=⟨r.dp,r.un⟩
abbrev Cx.uncalm(X:Cx)(A:S5):Cx:={X with A:=A,calm:=false}
theorem aT.uncalm{X:Cx}{R1:Sh}{σ:St}{H:Hp}{s:So}(I:aT X R1 σ H s){A:S5}(hA:A.frames=some X.stack):aT (X.uncalm A) R1 σ H s:=
 ⟨⟨I.ok.mod,I.ok.kind,I.ok.glob,I.ok.blt,I.ok.above,I.ok.inj,I.ok.has,I.ok.cab,λz=>(Bool.noConfusion z),hA,I.ok.stk,I.ok.exf,I.ok.bs,I.ok.bsz,I.ok.noex,I.ok.exfs,I.ok.funs,I.ok.frf⟩,I.os,I.bare,I.R4,I.loc,I.cell,I.free,I.freeC,I.pin,I.hok,I.len⟩
abbrev RG(P:Ss)(w:World)(K:Frag)(mg:Sf)(R4:SD)(N:List Str)(qual:Str)(scope:T8)(f:Z1)(cd:Z0)(A:S5)(R5:List Wd)(s:So)(H:Hp):Cx:=
 ((iZ fM P w K mg R4 N qual scope f cd {A with handled:=none} R5 s H E0).uncalm (A.deeper (SN qual scope s.heap.objs.size f cd))).nox
end
end L2
namespace L2
open PySem
def dZ(e:Z1)(dx:Option Z1)(h:SD):Prop:= ∃oe vs,h.get? e=some oe/\oe.data=.fields vs/\vs[2]? =some .none/\oe.dict=dx
def pR(o:Obj)(f:Array Z0->Array Z0):(SW f o).dict=o.dict:=by unfold SW;split<;>rfl
section
def dZ.set1(c:dZ e dx h):dZ e dx (h.update e (SW (·.setIfInBounds 1 v))):=by obtain⟨oe,vs,he,hd,h2,h4⟩:=c;have hd3:=Tf hd (·.setIfInBounds 1 v);exact⟨_,_,SJ (SW (·.setIfInBounds 1 v)) he (Tk hd3),hd3,by rw[Array.getElem?_setIfInBounds_ne (by decide)];exact h2,(pR _ _).trans h4⟩
def dZ.other(c:dZ e dx h)(hn:T≠e):dZ e dx (h.update T f):=by obtain⟨oe,vs,he,hd,h2,h4⟩:=c;exact⟨oe,vs,by rw[SA _ _ hn];exact he,hd,h2,h4⟩
theorem dZ.push(c:dZ e dx h):dZ e dx (h.push o):=by obtain⟨oe,vs,he,hd,h2,h4⟩:=c;exact⟨oe,vs,Sj _ he,hd,h2,h4⟩
def rp(hfr:A.frames=some (env::R5))(hl:s.heap.FunFrames R4 (env::R5))(hf:env.frame=some L)(he:s.heap.get? e=some oe)(hd:oe.data=.fields vs)(h2:vs[2]? =some .none)(h4:oe.dict=dx)(h:∀h',dZ e dx h'->(∀b,b≠e->b∉(env::R5).filterMap (·.frame)->s.heap.get? b≠none->h'.get? b=s.heap.get? b)->(∃T oT ts oe' vs',T≠e/\h'.get? e=some oe'/\oe'.data=.fields vs'/\vs'[1]? =some (.ref T)/\h'.get? T=some oT/\oT.data=.fields ts/\3<ts.size)->Q () {s with heap:=h'}):Sn M A (do let a<-frameOf env;let pl<-entryPlaceOf L hadNext;let b<-EntryCells.newEntry head a .none (T3 L) .none pl;setField (.ref e) 1 b) Q E s:=by
 have hene:e∉(env::R5).filterMap (·.frame):=λhm=>by obtain⟨_,o,ho,hnf⟩:=hl.mem hm;rw[he]at ho;injection ho with ho;subst ho;exact hnf vs hd
 refine Si (wpAny_frameOf_fun hfr hl hf λh₁ hs₁=>?_);refine Si (wpAny_entryPlaceOf λpl hpl=>?_);unfold EntryCells.newEntry newFields;refine Si (Sz ?_ (hpl.sizeOk5 _ _ _ _ _));have he₁:=(hs₁.2.1 e hene).trans he;have c1:dZ e dx h₁:=⟨oe,vs,he₁,hd,h2,h4⟩;have hsz:2<vs.size:=(YZ.mp h2).1;have hTe:h₁.objs.size≠e:=Yl (Sl he₁);refine SX (Sj _ he₁) hd (by omega) (h _ c1.push.set1 (λb hb hnb hx=>?_) ?_)
 .rw[SA _ _ (Ne.symm hb)];cases q:s.heap.get? b with
  |none=>exact Sc q hx
  |some o=>exact Sj _ ((hs₁.2.1 b hnb).trans q)
 .have hd3:=Tf hd (·.setIfInBounds 1 (Sx h₁.objs.size));have hsz1:1<vs.size:=by omega
  have g3:=(SA (h₁.push {cls:=.type "traceback",dict:=none,data:=.fields ([head,.ref L,.none,T3 L,.none]++(if pl.isEmpty then List.replicate 6 SC else pl)).toArray}) (SW (·.setIfInBounds 1 (Sx h₁.objs.size))) (Ne.symm hTe)).trans (Sm h₁ rfl);refine⟨h₁.objs.size,_,_,_,_,hTe,SJ (SW (·.setIfInBounds 1 (Sx h₁.objs.size))) (Sj _ he₁) (Tk hd3),hd3,?_,g3,rfl,?_⟩
  .simp[hsz1]
  .simp only[Wt,Wq,Wx,W5]<;>omega
def lL{oe:Obj}{vs:Array Z0}{oT:Obj}{ts:Array Z0}{fl:Option Z1}(c:dZ e dx s.heap)(he:s.heap.get? e=some oe)(hd:oe.data=.fields vs)(h1:vs[1]? =some (.ref T))(hTe:T≠e)(hT:s.heap.get? T=some oT)(hdT:oT.data=.fields ts)(h3:3<ts.size)(h:∀h',dZ e dx h'->Q () {s with heap:=h'}):Sn M A (Ui (.ref e) fl) Q E s:=by unfold Ui;refine Si (SH he hd h1 ?_);rw[R9 (show(Sx T != SC)=true from by simp)];exact SX hT hdT h3 (h _ (c.other hTe))
def rn(hfr:A.frames=some (env::R5))(hl:s.heap.FunFrames R4 (env::R5))(hf:env.frame=some L)(he:s.heap.get? e=some oe)(hd:oe.data=.fields vs)(h1:vs[1]? =some .none)(h2:vs[2]? =some .none)(h4:oe.dict=dx)(h:∀h',dZ e dx h'->Q () {s with heap:=h'}):Sn M A (UI env (.ref e)) Q E s:=by unfold UI UN;simp only[hf];refine Si (Si (SH he hd h1 ?_));rw[R8 (by decide)];refine rp hfr hl hf he hd h2 h4 λh' c k ⟨T,oT,ts,oe',vs',hTe,g1,g2,g3,g4,g5,g6⟩=>?_;exact lL c g1 g2 g3 hTe g4 g5 g6 h
def DI{oe oT:Obj}{vs ts:Array Z0}(hfr:A.frames=some (env::R5))(hl:s.heap.FunFrames R4 (env::R5))(hf:env.frame=some L)(he:s.heap.get? e=some oe)(hd:oe.data=.fields vs)(h1:vs[1]? =some (.ref T))(h2:vs[2]? =some .none)(h4:oe.dict=dx)(hTe:T≠e)(hT:s.heap.get? T=some oT)(hdT:oT.data=.fields ts)(h3:ts[3]? =some .none)(h:∀h',dZ e dx h'->Q () {s with heap:=h'}):Sn M A (UN (.ref e) env) Q E s:=by
 unfold UN;simp only[hf];refine Si (SH he hd h1 ?_);rw[R9 (show(Sx T != SC)=true from by simp)];refine Si (SH hT hdT h3 ?_);rw[R8 (show¬((SC == T3 L)=true)from by simp[T3])];refine Si (SX hT hdT (YZ.mp h3).1 ?_);have other:∀b,b≠T->(s.heap.update T (SW (·.setIfInBounds 3 SC))).get? b=s.heap.get? b:=λb hb=>SA _ _ (Ne.symm hb);have noRecord:∀b o,s.heap.get? b=some o->(∀vs,o.data≠.fields vs)->b≠T:=λb o hb hnf q=>by rw[q,hT]at hb;injection hb with hb;subst hb;exact hnf ts hdT
 exact rp hfr (hl.of_keeps λb o hb hnf=>⟨o,(other b (noRecord b o hb hnf)).trans hb,rfl⟩) hf ((other e (Ne.symm hTe)).trans he) hd h2 h4 λh' c _ _=>h h' c
end
def qC:entryFor table "proto.unchain"=some Builtin.«proto.unchain» :=entryFor_of_tree (by kernel_rfl)
def qj:plainId "proto.unchain"=true:=by decide+kernel
section
def kZ(hh:A.handled=some (.ref e))(hc:dZ e dx s.heap)(ho:s.heap.get? a=some o)(hd:o.data=.fields vs)(hz:2<vs.size)(hne:e≠a)(h:E (.ref a) {s with heap:=s.heap.update a (SW (·.setIfInBounds 2 (.ref e)))}):Sn (Su prog w) A (V1 (.ref a):Sem α) Q E s:=by
 obtain⟨oe,ws,he,hde,h2,_⟩:=hc;simp only[V1];refine Si (U7 ?_);rw[hh];have hn:(Sx e != Sx a)=true:=by simp only[bne_iff_ne,ne_eq];intro z;exact hne (Value.ref.inj z)
 dsimp only;rw[R9 hn];refine Si (SE (UP (S6 qC ?_)));rw[S4 qj _];unfold Builtin.«proto.unchain»;dsimp only;refine Si (SH he hde h2 ?_);rw[R9 (show(SC == SC)=true from rfl)];refine Si (Sk ?_);refine Sk ?_;simp only[updateField];refine Si (Si (wpAny_load ho ?_));rw[hd];dsimp only;rw[R9 hz];exact wpAny_update ho (Vx h)
def pp(hh:A.handled=some (.ref e))(hc:dZ e dx s.heap)(hne:it≠e)(hit:s.heap.IsListIter it l i)(hl:s.heap.IsList l items)(hx:items[i]? =none)(hQ:∀h',Ul it s.heap h'->Q none {s with heap:=h'}):Sn (Su prog w) A (TM (.ref it)) Q E s:=by
 obtain⟨o,ho,hc',hd⟩:=id hit;obtain⟨ol,hol,_,nl,hdl⟩:=hl;unfold TM;refine Si (Tb (SB (name:=TB "__next__") hit.typeIs slot_listiter_next
  (SK slot_listiter_next hit.typeIs entry_listiter_next ?_ (args_listiter_next _))))
 show Sn _ _ (VO (.ref it) 0 >>= _) _ _ s;refine Si (SH ho hd (x:=.ref l) rfl ?_);show Sn _ _ (if(Sx l == SC)=true then _ else _) _ _ s;rw[R8 (show¬((Sx l == SC)=true)from YD)];show Sn _ _ (VO (.ref it) 1 >>= _) _ _ s;refine Si (SH ho hd (x:=.int i 0) rfl ?_);show Sn _ _ (V8 (.ref l) >>= _) _ _ s;refine Si (SY hol hdl ?_);simp only[Yw,hx];refine Si (TL (Si (SX ho hd (by simp) ?_)));show Sn _ _ (V9 (.type "StopIteration") [] >>= _) _ _ _;refine Si ?_;simp only[V9,V3];refine Si (Sz ?_ (by size_fits));refine Si (m:=Tt _ _) (T2 (a:=SC) (by first|rfl|(simp only[Tt];rfl)) ?_)
 refine Sz ?_ (by size_fits);have c3:dZ e dx ((s.heap.update it (SW λx=>x.setIfInBounds 0 SC)).push {cls:=.type "tuple",data:=.seq #[]}):=(hc.other hne).push;have ne:e≠((s.heap.update it (SW λx=>x.setIfInBounds 0 SC)).push {cls:=.type "tuple",data:=.seq #[]}).objs.size:=by obtain⟨oe,_,he,_⟩:=c3;exact Yg (Sl he)
 refine kZ (e:=e) (show A.in1.handled=some (.ref e)from hh) c3.push (Sm _ rfl) rfl (by simp;omega) ne ?_;refine Si (Tq (T:="StopIteration") (b:=true) ⟨_,SJ _ (Sm _ rfl) (Tk (Tf (by rfl) _)),Ur _ _⟩ T4 ?_);refine Sk (hQ _ λb ob hb q=>?_);have q2:((s.heap.update it (SW λx=>x.setIfInBounds 0 SC)).push {cls:=.type "tuple",data:=.seq #[]}).get? b=some ob:=Sj _ (by rw[SA _ _ (Ne.symm hb)];exact q);rw[SA _ _ (λz=>Sc (Sl q2) (by rw[<-z];exact Yk _))];exact Sj _ q2
def qA(hh:A.handled=some (.ref e))(hc:dZ e dx s.heap)(hne:it≠e)(hit:s.heap.IsTupleIter it l i)(hl:s.heap.IsTuple l items)(hx:items[i]? =none)(hQ:∀h',Ul it s.heap h'->Q none {s with heap:=h'}):Sn (Su prog w) A (TM (.ref it)) Q E s:=by
 obtain⟨o,ho,hc',hd⟩:=id hit;obtain⟨ol,hol,_,nl,hdl⟩:=hl;unfold TM;refine Si (Tb (SB (name:=TB "__next__") hit.typeIs S3
  (SK S3 hit.typeIs T1 ?_ (TW _))))
 show Sn _ _ (VO (.ref it) 0 >>= _) _ _ s;refine Si (SH ho hd (x:=.ref l) rfl ?_);show Sn _ _ (if(Sx l == SC)=true then _ else _) _ _ s;rw[R8 (show¬((Sx l == SC)=true)from YD)];show Sn _ _ (VO (.ref it) 1 >>= _) _ _ s;refine Si (SH ho hd (x:=.int i 0) rfl ?_);show Sn _ _ (V8 (.ref l) >>= _) _ _ s;refine Si (SY hol hdl ?_);simp only[Yw,hx];refine Si (TL (Si (SX ho hd (by simp) ?_)));show Sn _ _ (V9 (.type "StopIteration") [] >>= _) _ _ _;refine Si ?_;simp only[V9,V3];refine Si (Sz ?_ (by size_fits));refine Si (m:=Tt _ _) (T2 (a:=SC) (by first|rfl|(simp only[Tt];rfl)) ?_)
 refine Sz ?_ (by size_fits);have c3:dZ e dx ((s.heap.update it (SW λx=>x.setIfInBounds 0 SC)).push {cls:=.type "tuple",data:=.seq #[]}):=(hc.other hne).push;have ne:e≠((s.heap.update it (SW λx=>x.setIfInBounds 0 SC)).push {cls:=.type "tuple",data:=.seq #[]}).objs.size:=by obtain⟨oe,_,he,_⟩:=c3;exact Yg (Sl he)
 refine kZ (e:=e) (show A.in1.handled=some (.ref e)from hh) c3.push (Sm _ rfl) rfl (by simp;omega) ne ?_;refine Si (Tq (T:="StopIteration") (b:=true) ⟨_,SJ _ (Sm _ rfl) (Tk (Tf (by rfl) _)),Ur _ _⟩ T4 ?_);refine Sk (hQ _ λb ob hb q=>?_);have q2:((s.heap.update it (SW λx=>x.setIfInBounds 0 SC)).push {cls:=.type "tuple",data:=.seq #[]}).get? b=some ob:=Sj _ (by rw[SA _ _ (Ne.symm hb)];exact q);rw[SA _ _ (λz=>Sc (Sl q2) (by rw[<-z];exact Yk _))];exact Sj _ q2
end
end L2
namespace PySem
def RI (M:Model) (Γ:Ctx) (p:Pos) (t:Sem Fin) (fs:List Frame) (s:Shared) (e:End) (s':Shared):Prop:=match fs with
 | F :: fs=>(∃ r s₁,Runs M (Γ.over (F :: fs)) p t [] s (.ret r) s₁∧match F with
   | .ret k _ _ _ c₁ p₁ _=>Runs M (Γ.goto c₁) p₁ (k r) fs s₁ e s'
   | .gen g k _ c₁ p₁=>Runs M (Γ.goto c₁) p₁ (k (End.ret r).result) fs (s₁.setGen g .finished) e s') ∨
  ∃ v g₀ l₀ k₀ c₀ p₀ fs₀ s₁,Runs M (Γ.over (F :: fs)) p t [] s (.susp v g₀ l₀ k₀ c₀ p₀ fs₀) s₁∧match splitAtGen (F :: fs) with
   | none=>e=.susp v g₀ l₀ k₀ c₀ p₀ (fs₀ ++ F :: fs)∧s'=s₁
   | some (pre,(g,k,c₁,p₁),rest)=>Runs M (Γ.goto c₁) p₁ (k (.yielded v)) rest (s₁.setGen g (End.susp v g₀ l₀ k₀ c₀ p₀ (fs₀ ++ pre)).genState) e s'
 | []=>match t with
  | .pure (.done f)=>e=.ret (.ok f)∧s'=s
  | .pure (.again c)=>Runs M (Γ.goto c) p (M.den c) [] s e s'
  | .raise x=>e=.ret (.error x)∧s'=s
  | .rule _ k=>Runs M Γ p (k ()) [] s e s'
  | .at q k=>Runs M Γ q (k ()) [] s e s'
  | .load a _ k=>∃ o,s.heap.get? a=some o∧Runs M Γ p (k o) [] s e s'
  | .update a _ f k=>Runs M Γ p (k ()) [] { s with heap:=s.heap.update a f } e s'
  | .loadIfAlive a k=>Runs M Γ p (k (s.heap.get? a)) [] s e s'
  | .point _ k=>Runs M Γ p (k ()) [] s e s'
  | .alloc o k=>Runs M Γ p (k s.heap.objs.size) [] { s with heap:=s.heap.push o } e s'
  | .fresh k=>Runs M Γ p (k s.toks) [] { s with toks:=s.toks + 1 } e s'
  | .ask k=>Runs M Γ p (k ⟨M.prog,M.w.params⟩) [] s e s'
  | .choose src n k=>Runs M Γ p (k (M.w.draws src (s.drawn.get src) % n)) [] { s with drawn:=s.drawn.bump src } e s'
  | .os q _ k=>Runs M Γ p (k (Os.step s.os q).2) [] { s with os:=(Os.step s.os q).1 } e s'
  | .handled own k=>Runs M Γ p (k (if own then Γ.own else Γ.handled)) [] s e s'
  | .genState g k=>∃ st,s.gens[g]?=some st∧Runs M Γ p (k st.seen) [] s e s'
  | .stack k=>Runs M Γ p (k ((Γ.code,p) :: Γ.below)) [] s e s'
  | .thread k=>Runs M Γ p (k 0) [] s e s'
  | .newGen c k=>Runs M Γ p (k s.gens.size) [] { s with gens:=s.gens.push (.fresh c) } e s'
  | .call c h g l k=>(∃ r s₁,Runs M (Γ.enter c h p) p (M.den c) [] s (.ret r) s₁∧Runs M Γ p (k r) [] s₁ e s')∨∃ v g₀ l₀ k₀ c₀ p₀ fs,Runs M (Γ.enter c h p) p (M.den c) [] s (.susp v g₀ l₀ k₀ c₀ p₀ fs) s'∧e=.susp v g₀ l₀ k₀ c₀ p₀ (fs ++ [.ret k h g l Γ.code p []])
  | .yield v g l k=>e=.susp v g l k Γ.code p []∧s'=s
  | .resume g r _ k=>∃ st,s.gens[g]?=some st∧match st with
   | .fresh c=>(r=.send .none∧∃ e₁ s₁,Runs M (Γ.wake c p) p (M.den c) [] (s.setGen g .running) e₁ s₁∧Runs M Γ p (k e₁.result) [] (s₁.setGen g e₁.genState) e s')∨(∃ v,r=.send v∧v ≠ .none∧Runs M Γ p (k .justStarted) [] s e s')∨∃ x,r=.throw x∧Runs M Γ p (k (.raised x)) [] (s.setGen g .finished) e s'
   | .suspended k₀ _ c₀ p₀ fs _=>∃ e₁ s₁,Runs M (Γ.wake c₀ p) p₀ (k₀ r) fs (s.setGen g .running) e₁ s₁∧Runs M Γ p (k e₁.result) [] (s₁.setGen g e₁.genState) e s'
   | .running=>Runs M Γ p (k .running) [] s e s'
   | .finished=>Runs M Γ p (k .finished) [] s e s'
  | _=>True
theorem Runs.inv {M:Model} {Γ:Ctx} {p:Pos} {t:Sem Fin} {fs:List Frame} {s s':Shared} {e:End} (h:Runs M Γ p t fs s e s'):RI M Γ p t fs s e s':=by
 cases h with
 | done=>exact ⟨rfl,rfl⟩
 | raise=>exact ⟨rfl,rfl⟩
 | yield=>exact ⟨rfl,rfl⟩
 | load a b=>exact ⟨_,a,b⟩
 | genState a b=>exact ⟨_,a,b⟩
 | call a b=>exact .inl ⟨_,_,a,b⟩
 | callSusp a=>exact .inr ⟨_,_,_,_,_,_,_,a,rfl⟩
 | resumeFresh a b _ c=>exact ⟨_,a,.inl ⟨rfl,_,_,b,c⟩⟩
 | resumeSuspended a b _ c=>exact ⟨_,a,_,_,b,c⟩
 | resumeJustStarted a b c=>exact ⟨_,a,.inr (.inl ⟨_,rfl,b,c⟩)⟩
 | resumeThrowFresh a b=>exact ⟨_,a,.inr (.inr ⟨_,rfl,b⟩)⟩
 | resumeRunning a b=>exact ⟨_,a,b⟩
 | resumeFinished a b=>exact ⟨_,a,b⟩
 | segRet a b=>exact .inl ⟨_,_,a,b⟩
 | segGen a b=>exact .inl ⟨_,_,a,b⟩
 | segSuspOut a b=>exact .inr ⟨_,_,_,_,_,_,_,_,b,by rw [a];exact ⟨rfl,rfl⟩⟩
 | segSuspGen a b _ c=>exact .inr ⟨_,_,_,_,_,_,_,_,b,by rw [a];exact c⟩
 | _=>assumption
theorem Runs.det {M:Model} {Γ:Ctx} {p:Pos} {t:Sem Fin} {fs:List Frame} {s s':Shared} {e:End} (h:Runs M Γ p t fs s e s'):∀ {e2:End} {s2:Shared},Runs M Γ p t fs s e2 s2 → e=e2∧s'=s2:=by
 induction h with
 | done=>intro _ _ h;have h:=h.inv;exact ⟨h.1.symm,h.2.symm⟩
 | raise=>intro _ _ h;have h:=h.inv;exact ⟨h.1.symm,h.2.symm⟩
 | yield=>intro _ _ h;have h:=h.inv;exact ⟨h.1.symm,h.2.symm⟩
 | load hg _ ih=>intro _ _ h;obtain ⟨o,a,b⟩:=h.inv;rw [hg] at a;cases a;exact ih b
 | genState hg _ ih=>intro _ _ h;obtain ⟨o,a,b⟩:=h.inv;rw [hg] at a;cases a;exact ih b
 | call _ _ ih1 ih2 =>
  intro _ _ h
  rcases h.inv with ⟨_,_,a,b⟩ | ⟨_,_,_,_,_,_,_,a,_⟩
  · obtain ⟨x,rfl⟩:=ih1 a;cases x;exact ih2 b
  · cases (ih1 a).1
 | callSusp _ ih =>
  intro _ _ h
  rcases h.inv with ⟨_,_,a,b⟩ | ⟨_,_,_,_,_,_,_,a,rfl⟩
  · cases (ih a).1
  · obtain ⟨x,rfl⟩:=ih a;cases x;exact ⟨rfl,rfl⟩
 | resumeFresh hg _ _ _ ih1 ih2 =>
  intro _ _ h
  obtain ⟨o,a,b⟩:=h.inv
  rw [hg] at a;cases a
  rcases b with ⟨_,_,_,a,b⟩ | ⟨_,e,n,_⟩ | ⟨_,e,_⟩
  · obtain ⟨rfl,rfl⟩:=ih1 a;exact ih2 b
  · cases e;exact absurd rfl n
  · cases e
 | resumeSuspended hg _ _ _ ih1 ih2=>intro _ _ h;obtain ⟨o,a,b⟩:=h.inv;rw [hg] at a;cases a;obtain ⟨_,_,a,b⟩:=b;obtain ⟨rfl,rfl⟩:=ih1 a;exact ih2 b
 | resumeJustStarted hg n _ ih =>
  intro _ _ h
  obtain ⟨o,a,b⟩:=h.inv
  rw [hg] at a;cases a
  rcases b with ⟨e,_⟩ | ⟨_,_,_,b⟩ | ⟨_,e,_⟩
  · cases e;exact absurd rfl n
  · exact ih b
  · cases e
 | resumeThrowFresh hg _ ih =>
  intro _ _ h
  obtain ⟨o,a,b⟩:=h.inv
  rw [hg] at a;cases a
  rcases b with ⟨e,_⟩ | ⟨_,e,_⟩ | ⟨_,e,b⟩
  · cases e
  · cases e
  · cases e;exact ih b
 | resumeRunning hg _ ih=>intro _ _ h;obtain ⟨o,a,b⟩:=h.inv;rw [hg] at a;cases a;exact ih b
 | resumeFinished hg _ ih=>intro _ _ h;obtain ⟨o,a,b⟩:=h.inv;rw [hg] at a;cases a;exact ih b
 | segRet _ _ ih1 ih2 =>
  intro _ _ h
  rcases h.inv with ⟨_,_,a,b⟩ | ⟨_,_,_,_,_,_,_,_,a,_⟩
  · obtain ⟨x,rfl⟩:=ih1 a;cases x;exact ih2 b
  · cases (ih1 a).1
 | segGen _ _ ih1 ih2 =>
  intro _ _ h
  rcases h.inv with ⟨_,_,a,b⟩ | ⟨_,_,_,_,_,_,_,_,a,_⟩
  · obtain ⟨x,rfl⟩:=ih1 a;cases x;exact ih2 b
  · cases (ih1 a).1
 | segSuspOut hs _ ih =>
  intro _ _ h
  rcases h.inv with ⟨_,_,a,_⟩ | ⟨_,_,_,_,_,_,_,_,a,b⟩
  · cases (ih a).1
  · rw [hs] at b;obtain ⟨rfl,rfl⟩:=b;obtain ⟨x,rfl⟩:=ih a;cases x;exact ⟨rfl,rfl⟩
 | segSuspGen hs _ _ _ ih1 ih2 =>
  intro _ _ h
  rcases h.inv with ⟨_,_,a,_⟩ | ⟨_,_,_,_,_,_,_,_,a,b⟩
  · cases (ih1 a).1
  · rw [hs] at b;obtain ⟨x,rfl⟩:=ih1 a;cases x;exact ih2 b
 | again _ _ ih=>exact fun h=>ih h.inv
 | update _ _ ih=>exact fun h=>ih h.inv
 | choose _ _ ih=>exact fun h=>ih h.inv
 | _ _ ih=>exact fun h=>ih h.inv
def Sem.wp_and(M:Model)(Γ:Ctx)(t:Sem α):∀Q Q' E E' p s,wp M Γ t Q E p s->wp M Γ t Q' E' p s->wp M Γ t (λa p' s'=>Q a p' s'/\Q' a p' s') (λe p' s'=>E e p' s'/\E' e p' s') p s:=by
 induction t with
 |pure a=>intro Q Q' E E' p s h h';exact⟨h,h'⟩
 |raise e=>intro Q Q' E E' p s h h';exact⟨h,h'⟩
 |unsupported _=>intro Q Q' E E' p s h h';exact h
 |finish _=>intro Q Q' E E' p s h h';exact h
 |rule _ k ih=>intro Q Q' E E' p s h h';exact ih () Q Q' E E' p s h h'
 | «at» p' k ih=>intro Q Q' E E' p s h h';exact ih () Q Q' E E' p' s h h'
 |load a _ k ih=>intro Q Q' E E' p s h h';obtain⟨o,ho,h⟩:=h;obtain⟨o',ho',h'⟩:=h';rw[ho]at ho';cases ho';exact⟨o,ho,ih o Q Q' E E' p s h h'⟩
 |update a _ f k ih=>intro Q Q' E E' p s h h';exact⟨h.1,ih () Q Q' E E' p _ h.2 h'.2⟩
 |loadIfAlive a k ih=>intro Q Q' E E' p s h h';exact ih _ Q Q' E E' p s h h'
 |point _ k ih=>intro Q Q' E E' p s h h';exact ih () Q Q' E E' p s h h'
 |register _ _=>intro Q Q' E E' p s h h';exact h
 |alloc o k ih=>intro Q Q' E E' p s h h';exact ih _ Q Q' E E' p _ h h'
 |fresh k ih=>intro Q Q' E E' p s h h';exact ih _ Q Q' E E' p _ h h'
 |ask k ih=>intro Q Q' E E' p s h h';exact ih _ Q Q' E E' p s h h'
 |choose src m k ih=>intro Q Q' E E' p s h h';exact⟨h.1,ih _ Q Q' E E' p _ h.2 h'.2⟩
 |os q _ k ih=>intro Q Q' E E' p s h h';exact ih _ Q Q' E E' p _ h h'
 |call c hd _ _ k ih=>
  intro Q Q' E E' p s h h';obtain⟨r,s',hr,h⟩:=h;obtain⟨r2,s2,hr2,h'⟩:=h';obtain⟨x,rfl⟩:=Runs.det hr hr2;cases x;exact⟨r,s',hr,ih r Q Q' E E' p s' h h'⟩
 |handled own k ih=>intro Q Q' E E' p s h h';exact ih _ Q Q' E E' p s h h'
 |genState g k ih=>intro Q Q' E E' p s h h';obtain⟨st,hs,h⟩:=h;obtain⟨st',hs',h'⟩:=h';rw[hs]at hs';cases hs';exact⟨st,hs,ih _ Q Q' E E' p s h h'⟩
 |newGen c k ih=>intro Q Q' E E' p s h h';exact ih _ Q Q' E E' p _ h h'
 |resume g r _ k ih=>
  intro Q Q' E E' p s h h';obtain⟨res,s',hw,h⟩:=h;obtain⟨res2,s2,hw2,h'⟩:=h';have e:res=res2/\s'=s2:=by
   unfold Wakes at hw hw2;split at hw
   .exact hw.elim
   .split at hw
    .rename_i e0 _;rw[e0]at hw2;obtain⟨e1,s1,a,_,rfl,rfl⟩:=hw;obtain⟨e1',s1',a',_,rfl,rfl⟩:=hw2;obtain⟨rfl,rfl⟩:=Runs.det a a';exact⟨rfl,rfl⟩
    .rename_i e0 _ v hv;rw[e0]at hw2;cases v with
     |none=>exact Sc rfl hv
     |_=>exact⟨hw.1.trans hw2.1.symm,hw.2.trans hw2.2.symm⟩
    .rename_i e0 _ _;rw[e0]at hw2;exact⟨hw.1.trans hw2.1.symm,hw.2.trans hw2.2.symm⟩
   .rename_i e0;rw[e0]at hw2;obtain⟨e1,s1,a,_,rfl,rfl⟩:=hw;obtain⟨e1',s1',a',_,rfl,rfl⟩:=hw2;obtain⟨rfl,rfl⟩:=Runs.det a a';exact⟨rfl,rfl⟩
   .rename_i e0;rw[e0]at hw2;exact⟨hw.1.trans hw2.1.symm,hw.2.trans hw2.2.symm⟩
   .rename_i e0;rw[e0]at hw2;exact⟨hw.1.trans hw2.1.symm,hw.2.trans hw2.2.symm⟩
  obtain⟨rfl,rfl⟩:=e;exact⟨res,s',hw,ih res Q Q' E E' p s' h h'⟩
 |yield _ _ _ _=>intro Q Q' E E' p s h h';exact h
 |stack k ih=>intro Q Q' E E' p s h h';exact ih _ Q Q' E E' p s h h'
 |fork _ _=>intro Q Q' E E' p s h h';exact h
 |thread k ih=>intro Q Q' E E' p s h h';exact ih _ Q Q' E E' p s h h'
 |await _ _ _ _ _=>intro Q Q' E E' p s h h';exact h
def ip{α:Type}{M:Model}{A:S5}{s:So}{t:Sem α}{Q Q':α->So->Prop}{E E':Sg}(h:Sn M A t Q E s)(h':Sn M A t Q' E' s):Sn M A t (λa s'=>Q a s'/\Q' a s') (λe s'=>E e s'/\E' e s') s:=λΓ p hΓ=>Sem.wp_and M Γ t _ _ _ _ p s (h Γ p hΓ) (h' Γ p hΓ)
end PySem
namespace L2
open PySem PySem.Spec PyProof.Rows
section
def rM(hh:A.handled=some (.ref e))(hc:dZ e dx s.heap)(ht:IsTup s.heap t items)(hQ:∀h',Ul s.heap.objs.size s.heap h'->Q items.toList {s with heap:=h'}):Sn (Su prog w) A (unpackItems (.ref t) items.size none) Q E s:=by
 have hlt:t≠s.heap.objs.size:=by obtain⟨o,ho,_⟩:=ht;exact Yg (Sl ho)
 have hle:s.heap.objs.size≠e:=by obtain⟨o,_,ho,_⟩:=hc;exact Yl (Sl ho)
 unfold unpackItems;refine Si ?_;unfold notIterableAtAll;refine Si (UA ht.typeIs slot_tuple_iter.lookup ?_);refine Sk ?_;simp only[YG,if_false];refine Si (SE (iter_tuple ht ?_));refine Si (SE (draw_tuple hlt items.size 0 _ _ ⟨_,Sm _ rfl,rfl,rfl⟩ (ht.push _) (by omega) λh₁ hit₁ hs₁=>?_));have hall:List.take items.size (List.drop 0 items.toList)=items.toList:=by rw[Xd];exact WO (by simp)
 rw[hall,R8 (by simp)];have ht₁:=(ht.push _).extBut hs₁.extBut hlt;have hc₁:dZ e dx h₁:=by obtain⟨o,vs,h1,h2,h3⟩:=hc;exact⟨o,vs,hs₁.extBut e o (Ne.symm hle) (Sj _ h1),h2,h3⟩
 refine Si (SE (qA hh hc₁ hle hit₁ ht₁ (by simp) λh₂ he₂=>?_));simp only[Option.isSome_none,YG,if_false];refine Sk (hQ h₂ λb o hb q=>he₂ b o hb (hs₁.extBut b o hb (Sj _ q)))
def v9{x1}(hh:A.handled=some (.ref e))(hc:dZ e dx s.heap)(ht:IsTup s.heap t items)(hn:(To elts env).length=items.size)(hstar:(To elts env).findIdx? (·.1)=none)(h:∀h',Ul s.heap.objs.size s.heap h'->Sn (Su prog w) A (assignInOrder ((To elts env).map (·.2)) items.toList) Q E {s with heap:=h'}):Sn (Su prog w) A (VD (.Tuple elts x1 pos) env (.ref t)) Q E s:=by rw[assign_Tuple];refine Si (Ub ?_);unfold unpack;rw[hn,hstar];exact Si (SE (rM hh hc ht h))
end
def iK(cls:Z0)(dx:Option Z1)(a:Z1):HO:=.ext λh=>∃o vs,h.get? a=some o/\o.cls=cls/\o.data=.fields vs/\vs[2]? =some .none/\o.dict=dx
def iK.ctx(x:cb P w H h a (iK cls dx a)):dZ a dx h:=by obtain⟨⟨o,vs,h1,_,h2,h3⟩,_⟩:=(show cb P w H h a (.ext _)from x);exact⟨o,vs,h1,h2,h3⟩
def Ma(x:∃o,h.get? a=some o/\o.cls=cls)(c:dZ a dx h):∃o vs,h.get? a=some o/\o.cls=cls/\o.data=.fields vs/\vs[2]? =some .none/\o.dict=dx:=by obtain⟨o,h1,h2⟩:=x;obtain⟨o',vs,g1,g2,g3⟩:=c;rw[h1]at g1;cases g1;exact⟨o,vs,h1,h2,g2,g3⟩
section
def mY(hfr:A.frames=some (env::R5))(hf:env.frame=some L)(hfl:TQ R4 (env::R5) e cls a0 s.heap)(c:dZ e dx s.heap)(hQ:∀h',Heap.HeldW R4 (env::R5) e cls a0 L h'->s.heap.UpToSlots h'->dZ e dx h'->Q () {s with heap:=h'}):Sn M A (UN (.ref e) env) Q E s:=by obtain⟨_,_,f3,oe,vs,T,oT,ts,he,_,hd,h1,_,hTe,hT,hdT,h3⟩:=id hfl;obtain⟨oe',vs',g1,g2,g3,g4⟩:=c;rw[he]at g1;cases g1;rw[hd]at g2;cases g2;have x1:Sn M A (UN (.ref e) env) (λ_ s2=>∃h',s2={s with heap:=h'}/\Heap.HeldW R4 (env::R5) e cls a0 L h'/\s.heap.UpToSlots h') E s:=wpAny_looks_onW hfr hf hfl λh' a b=>⟨h',rfl,a,b⟩;have x2:Sn M A (UN (.ref e) env) (λ_ s2=>dZ e dx s2.heap) E s:=DI hfr f3 hf he hd h1 g3 g4 hTe hT hdT h3 λh' c=>c;exact SL (ip x1 x2) (λ_ s2 ⟨⟨h',e2,a,b⟩,c⟩=>by subst e2;exact hQ h' a b c) λ_ _ z=>z.1
def pD(hh:Heap.HeldW R4 l e cls a0 L s.heap)(c:dZ e dx s.heap)(hQ:∀h',TQ R4 l e cls a0 h'->s.heap.UpToSlots h'->dZ e dx h'->Q () {s with heap:=h'}):Sn M A (Ui (.ref e) none) Q E s:=by obtain⟨_,_,_,oe,vs,T,oT,ts,he,_,hd,h1,_,hTe,hT,hdT,h3⟩:=id hh;have x1:Sn M A (Ui (.ref e) none) (λ_ s2=>∃h',s2={s with heap:=h'}/\TQ R4 l e cls a0 h'/\s.heap.UpToSlots h') E s:=wpAny_landsW hh λh' a b=>⟨h',rfl,a,b⟩;have x2:Sn M A (Ui (.ref e) none) (λ_ s2=>dZ e dx s2.heap) E s:=lL c he hd h1 hTe hT hdT (YZ.mp h3).1 λh' c=>c;exact SL (ip x1 x2) (λ_ s2 ⟨⟨h',e2,a,b⟩,c⟩=>by subst e2;exact hQ h' a b c) λ_ _ z=>z.1
def xU(hh:TQ R4 l e cls a0 s.heap)(c:dZ e dx s.heap)(hQ:∀h',TQ R4 l e cls a0 h'->s.heap.UpToSlots h'->dZ e dx h'->Q () {s with heap:=h'}):Sn M A (Ui (.ref e) none) Q E s:=by obtain⟨_,_,_,oe,vs,T,oT,ts,he,_,hd,h1,_,hTe,hT,hdT,h3⟩:=id hh;have x1:Sn M A (Ui (.ref e) none) (λ_ s2=>∃h',s2={s with heap:=h'}/\TQ R4 l e cls a0 h'/\s.heap.UpToSlots h') E s:=lands_againW hh λh' a b=>⟨h',rfl,a,b⟩;have x2:Sn M A (Ui (.ref e) none) (λ_ s2=>dZ e dx s2.heap) E s:=lL c he hd h1 hTe hT hdT (YZ.mp h3).1 λh' c=>c;exact SL (ip x1 x2) (λ_ s2 ⟨⟨h',e2,a,b⟩,c⟩=>by subst e2;exact hQ h' a b c) λ_ _ z=>z.1
end
def jb(P:Ss)(w:World):zN:=λR5 H s E e s'=>∃dx,Kp P w R5 H s (λcls _ H'=>E cls dx H') e s'/\∃a,e=.ref a/\dZ a dx s'.heap
def dX{P:Ss}{w:World}{K:Frag}{mg:Sf}{R4:SD}{N:List Str}{qual:Str}{scope:T8}{f:Z1}{cd:Z0}{A:S5}{R5:List Wd}{s:So}{H:Hp}{E:XK}{C:Z1}:∀R1 σ H1 s1 h' e vs,aT (iZ (jb P w) P w K mg R4 N qual scope f cd A R5 s H E) R1 σ H1 s1->Us s1.heap h' e (.ref C) vs->E (.ref C) none H1->(iZ (jb P w) P w K mg R4 N qual scope f cd A R5 s H E).xe (.ref e) {s1 with heap:=h'}:=by
 intro R1 σ H1 s1 h' e vs I hm hE;have I':aT (iZ (Kp P w) P w K mg R4 N qual scope f cd A R5 s H (λcls _ H'=>E cls none H')) R1 σ H1 s1:=I.wish _;have x1:=vC R1 σ H1 s1 h' e vs I' hm hE;have fr:(A.deeper (SN qual scope s.heap.objs.size f cd)).frames=some (SN qual scope s.heap.objs.size f cd::R5):=I.ok.frames;have ST:s1.heap.FunFrames R4 (SN qual scope s.heap.objs.size f cd::R5):=I.stack;obtain⟨t,he,_,_⟩:=hm.there;have x2:Sn (Su P w) (A.deeper (SN qual scope s.heap.objs.size f cd)) (UI (SN qual scope s.heap.objs.size f cd) (.ref e)) (λ_ s2=>dZ e none s2.heap) (λ_ _=>False) {s1 with heap:=h'}:=
  rn (s:={s1 with heap:=h'}) fr (ST.of_keeps λb o hb _=>⟨o,hm.keeps b o hb,rfl⟩) rfl he rfl rfl rfl rfl λh2 c=>c
 exact SL (ip x1 x2) (λ_ s2 ⟨a,b⟩=>⟨none,a,e,rfl,b⟩) λ_ _ z=>z.2.elim
def fg.okX2{P:Ss}{w:World}{K:Frag}{mg:Sf}{R4:SD}{x qual:Str}{st:SQ}{f:Z1}{fd:SU}{N ps:List Str}{k:Nat}{sp:Sp}(F:fg K x qual st f fd)(S:aN N ps (ao st))(len:∀vs H Q E,sp vs H Q E->vs.length=ps.length)(hbody:∀cdv A R5 s H vs Q E,eG k (A.deeper (SN qual (ao st) s.heap.objs.size f cdv))->sp vs H Q E->
   ∃t,rH (iZ (jb P w) P w K mg R4 N qual (ao st) f cdv A R5 s H E) (eY st) t/\t {nx:=λ_ H'=>Q .non H',rt:=Q} (iM N vs) H):bM P w K mg R4 (jb P w) (k+1) f fd ps sp:=by
 obtain⟨oc,od,kV,doc,pm,an,cdv,ct,osl,rfl,lk,hcd⟩:=F.ex;exact Kd lk hcd S len λA R5 s H vs Q E hr hsp=>hbody cdv A R5 s H vs Q E hr hsp
section
variable{X:Cx}{R1:Sh}{σ:St}{H H':Hp}{s s':So}
def aT.track2(I:aT X R1 σ H s)(ho:∃o vs,s.heap.get? a=some o/\o.cls=cls/\o.data=.fields vs/\vs[2]? =some .none/\o.dict=dx)(hn:H a=none)(I1:aT X R1 σ H1 s1)(new:s1.heap.get? a=none):aT X R1 σ (upd H a (iK cls dx a)) s:=by
 have neq:∀b u,s1.heap.get? b=some u->b≠a:=λb u q z=>by rw[z,new]at q;cases q
 have neH:∀b u,H b=some u->b≠a:=λb u q z=>by rw[z,hn]at q;cases q
 refine⟨I.ok,I.os,I.bare,⟨I.R4.keep,I.R4.slot,λb o q n hx=>?_,I.R4.there,λb xs q=>?_,λb o u q=>?_,λb ps q=>?_⟩,I.loc,I.cell,?_,λx c q=>?_,λp hp=>?_,λb u q=>?_,I.len⟩
 .obtain⟨o',q'⟩:=I1.R4.there b o q hx;rw[av (neq b o' q')];exact I.R4.free b o q n hx
 .rw[av (neH b _ (I.R4.tups b xs q))];exact I.R4.tups b xs q
 .rw[av (neH b _ (I.R4.frzs b o u q))];exact I.R4.frzs b o u q
 .obtain⟨m,z⟩:=I.R4.tbls b ps q;exact⟨m,by rw[av (neH b _ z)];exact z⟩
 .obtain⟨m,⟨o,_,_,q,_⟩,_⟩:=I1.loc;rw[av (neq _ o q)];exact I.free
 .obtain⟨v,o,z,_⟩:=I1.cell x c q;rw[av (neq c o z)];exact I.freeC x c q
 .obtain⟨e,n,ne,nf,d⟩:=I.pin p hp;exact⟨e,by rw[av (neq _ _ (I1.pin p hp).1)];exact n,ne,nf,d⟩
 .by_cases hb:b=a
  .subst hb;rw[aj]at q;cases q;obtain⟨o,vs,h1,h2⟩:=ho;exact⟨⟨o,vs,h1,h2⟩,⟨o,h1⟩,λg1 g2 ⟨o',vs',y1,y2⟩ k=>⟨o',vs',k o' y1,y2⟩⟩
  .rw[av hb]at q;exact(I.hok b u q).stay (λ_ _ _ z=>z) (λc z=>by rw[av (neH c _ z)];exact z) λc xs z=>by rw[av (neH c _ z)];exact z
end
section
variable{X:Cx}{e:S8}{ts:Z1->TS}{p pos bpos np hpos tpos:VL}{k j i:Nat}{name xc n:Str}{C0:Z1}{b₀:SQ}{suite:List SQ}
def Py{R1:Sh}{σ:St}{H1:Hp}{s1 s':So}{D:j6}{e:Z0}{E:XK}(I1:aT X R1 σ H1 s1)(hn:∀e s,X.xe e s->False)(hstk:X.stack=X.env::X.R5)(hfr:X.env.frame=some X.env.locals)(hgc:Gl X xc)(hmc:X.mg xc=some (.ref C0))(hN:X.N.Nodup)(hi:X.N[i]? =some n)(hx:X.env.scope.names.lookup n=some .local)(hs:∀a,rH (X.hand a) (b₀::suite) (ts a))(z:jb X.prog X.w X.stack H1 s1 E e s')(hE:∀cls d H2,E cls d H2->Zp X.K cls (.ref C0)=some true/\∀a,H2 a=none->ts a {nx:=λ_ _=>False,rt:=D.rt} (σ.set i (some (.ref a))) (upd H2 a (iK cls d a)))(hdb:(xc == ("__debug__":Str))=false):Sn (Su X.prog X.w) X.A (UN e X.env) (λ_ s₂=>Sn (Su X.prog X.w) X.A (Ui e none) (λ_ s₃=>Sn (Su X.prog X.w) X.A (handleBy e X.env [.ExceptHandler (some (.Name xc np)) (some n) (b₀::suite) hpos]) (SP X R1 D) X.xe s₃) X.xe s₂) X.xe s':=by
 obtain⟨dx,⟨a,cls,a0,B,H',rfl,os,bare,new,ha,fl,hok,un,c1,c2,hE'⟩,a',ea,cx⟩:=z;cases ea;obtain⟨hit,hts⟩:=hE _ _ _ hE';have ff:=fl.2.2.1;rw[hstk]at fl;refine mY (I1.ok.frames.trans (by rw[hstk])) hfr fl cx λh4 hl4 u4 cx4=>?_;refine pD (s:={s' with heap:=h4}) hl4 cx4 λh5 fl5 u5 cx5=>?_;have I5:aT X R1 σ H' {s' with heap:=h5}:=I1.flown (a:=a) (cls:=cls) (a0:=a0) os bare ff fl5.1 hok un (u4.trans u5) c1 c2;have J5:=I5.hand a;refine wpAny_handleBy_cons (codeAny_handlers_test (ig (X:=X.hand a) J5 hgc hmc ?_ hdb)) (by intro q;cases q);have LT:PySem.W.Looks (Su X.prog X.w) h5 (typeOf (.ref a)) cls:=by obtain⟨ob,hob,hc⟩:=fl5.there;subst hc;exact(PySem.W.Looks.ld hob).andThen .now
 refine(PySem.W.exm_one (h:=h5) I5.kIn LT hit).here ?_;refine codeAny_handlers_suite_as ?_;refine xU (s:={s' with heap:=h5}) fl5 cx5 λh6 fl6 u6 cx6=>?_;have I6:aT X R1 σ H' {s' with heap:=h6}:=I1.flown (a:=a) (cls:=cls) (a0:=a0) os bare ff fl6.1 hok un ((u4.trans u5).trans u6) c1 c2;have I7:=I6.track2 (cls:=cls) (Ma fl6.there cx6) ha I1 new;refine oC (X:=X.hand a) (v:=.ref a) (I7.hand a) hN hi (.inl hx) rfl (λs7 I8=>?_) (.inr hx);refine SL (hs a R1 s7 _ _ _ I8 (hts a ha)) (λf s8 q=>?_) λ_ _ q=>(hn _ _ q).elim;cases f with
 |next=>obtain⟨_,_,_,q⟩:=q;exact q.elim
 |brk=>obtain⟨_,_,_,q⟩:=q;exact q.elim
 |cont=>obtain⟨_,_,_,q⟩:=q;exact q.elim
 |ret u=>
  obtain⟨v,σ',H8,J8,rv,q⟩:=q;have K8:=J8.unhand I1.ok;obtain⟨m,hm,_⟩:=K8.loc;refine wpAny_nameGoes hx hm (by rw[K8.ok.kind];rfl) λh9 m9 hm9 sb=>?_;exact⟨v,_,H8,K8.forget hm9 sb,rv,q⟩
end
structure RW(P:Ss)(w:World)(K:Frag)(mg:Sf)(R4:SD)(k:Nat)(f:Z1)(fd:SU)(ps:List Str)(sp:Sp):Prop where
 len:∀vs H Q E,sp vs H Q E->vs.length=ps.length
 run:∀A R5 s H args us vs Q e,A.handled=some (.ref e)->vs[0]? =some (.ref e)->nN k A->ux P w K mg R4 A R5 s H->VJ s fd args (ps.zip us)->bZ vs us->sp vs H Q E0->
  TN (Su P w) A (.call (.ref f) args) (CR fM R5 P w H s Q E0) s
section
variable{X:Cx}{a b e o:S8}{p pos:VL}{es:List S8}{t:TA}
def fg.okH{P:Ss}{w:World}{K:Frag}{mg:Sf}{R4:SD}{x qual:Str}{st:SQ}{f:Z1}{fd:SU}{N ps:List Str}{k:Nat}{sp:Sp}(F:fg K x qual st f fd)(S:aN N ps (ao st))(len:∀vs H Q E,sp vs H Q E->vs.length=ps.length)(hbody:∀cdv A R5 s H vs Q e,(A.deeper (SN qual (ao st) s.heap.objs.size f cdv)).handled=some (.ref e)->vs[0]? =some (.ref e)->nN k (A.deeper (SN qual (ao st) s.heap.objs.size f cdv))->sp vs H Q E0->
   ∃t,rH (RG P w K mg R4 N qual (ao st) f cdv A R5 s H) (eY st) t/\t {nx:=λ_ H'=>Q .non H',rt:=Q} (iM N vs) H):RW P w K mg R4 (k+1) f fd ps sp:=by
 obtain⟨oc,od,kV,doc,pm,an,cdv,ct,osl,rfl,lk,hcd⟩:=F.ex;refine⟨len,λA R5 s H args us vs Q ee hh hv hr e0 hb r hsp=>?_⟩;have hl:=len _ _ _ _ hsp;have KX:K.In s.heap:=e0.mod.kin.keeps λb o e=>(e0.bs b o e).1;have lim:s.heap.NoLimit:=e0.mod.nolimit.keeps λb o e=>(e0.bs b o e).1;have hkind:∀y∈ps.zip us,(ao st).names.lookup y.1=some .local\/((ao st).names.lookup y.1=some .cell/\((Wb (s.heap.objs.size+1) (ao st).names []).lookup y.1).isSome=true):=λ⟨n,v⟩ hy=>by
  rcases S.par n (Xo hy).1 with q|q
  .exact .inl q
  .exact .inr ⟨q,ZI _ _ _ (.inl q)⟩
 have hdp:A.depth<UT:=by have:=hr.dp;omega
 refine Vu hdp (KX _ _ lk) rfl S.co S.gen rfl (ZP KX hcd) (hb _ _ _ _ ?_);refine UQ S.kind hkind λenv he s1 x=>?_;subst he;refine⟨lim.keeps x.toInCall.keep,codeAny_func ?_⟩;have hr':nN k (A.deeper (SN qual (ao st) s.heap.objs.size f cdv)):=⟨by have:=hr.dp;show A.depth+1+3*k+5<_;omega,by have:=hr.un;show A.units+3+16*k+200<_;omega⟩;obtain⟨t,ht,hq⟩:=hbody cdv A R5 s H vs Q ee hh hv hr' hsp;have e0':ux P w K mg R4 {A with handled:=none} R5 s H:=⟨e0.frames,e0.mod,e0.bs,e0.bsz,e0.funs,e0.frf,e0.hok,e0.bare⟩;have I0:aT (iZ fM P w K mg R4 N qual (ao st) f cdv {A with handled:=none} R5 s H E0) [] (iM N vs) H s1:=qY S rfl e0' hl r x;have I:aT (RG P w K mg R4 N qual (ao st) f cdv A R5 s H) [] (iM N vs) H s1:=(I0.uncalm (Around.frames_deeper e0.frames)).wish _;refine SL (ht [] s1 (iM N vs) H _ I hq) (λfl s' hs=>?_) λe s' hs=>hs.elim;have fin:∀{σ':St}{H':Hp}{v:V}{u:Z0},aT (RG P w K mg R4 N qual (ao st) f cdv A R5 s H) [] σ' H' s'->bz v u->Q v H'->CE R5 P w H s Q u s':=
  λ{σ' H' v u} J rv q=>⟨v,H',J.os,J.bare,J.R4,J.hok,rv,q⟩
 cases fl with
 |ret u=>
  obtain⟨v,σ',H',J,rv,q⟩:=hs;exact fin J rv q
 |next=>
  obtain⟨σ',H',J,q⟩:=hs;exact fin (v:=V.non) (u:=SC) J rfl q
 |brk=>
  obtain⟨_,_,_,q⟩:=hs;exact False.elim q
 |cont=>
  obtain⟨_,_,_,q⟩:=hs;exact False.elim q
def xO(ea:Z1)(sp:Sp)(t:TA):TE:=λσ H Q=>t σ H λvs H1=>vs[0]? =some (.ref ea)/\sp vs H1 Q E0
structure MF(P:Ss)(w:World)(K:Frag)(mg:Sf)(R4:SD)(name:Str)(ps:List Str)(k:Nat)(sp:Sp):Prop where
 ex:∃f fd,RW P w K mg R4 k f fd ps sp/\mg name=some (.ref f)/\Zj K (.ref f)=true/\j1 K fd ps []
def LM(C:MF X.prog X.w X.K X.mg X.R4 name ps k sp)(hh:X.A.handled=some (.ref ea))(hr:nN j X.A)(ha:PA X (e::es) t)(hkj:k<=j:=by decide)(hp:(e::es).all fj=true:=by rfl)(hg:Gl X name:=by rfl)(hdb:(name == ("__debug__":Str))=false:=by decide):PE X (.Call (.Name name p) (e::es) [] pos) (xO ea sp t):=by
 obtain⟨f,fd,F,hm,hk,hb⟩:=C.ex;have hp':=hp;rw[WE,YC]at hp';intro R1 s σ H Q I h;refine Te (ig I hg hm ?_ hdb);refine Zw I.ok.mod.kin hk (cK (ha pos R1 s σ H _ I h) λus s1 ⟨vs,H1,I1,r,hv,q⟩=>⟨I1.kIn,?_⟩) (fF hp'.1) (gI hp'.2);have hl:(us++[]).length=ps.length:=by rw[WN,<-r.length];exact F.len _ _ _ _ q
 have hb':=hb s1 us I1.kIn hl;rw[WN]at hb';have hrk:nN k X.A:=⟨by have:=hr.dp;omega,by have:=hr.un;omega⟩;refine Tr (S7 (F.run X.A X.stack s1 H1 ⟨us,[]⟩ us vs Q ea hh hv hrk I1.env0 hb' r q) λr s' hq=>?_);cases r with
 |error e=>exact False.elim hq
 |ok fl=>
  cases fl with
  |ret u=>exact I1.after hq
  |next=>exact False.elim hq
  |brk=>exact False.elim hq
  |cont=>exact False.elim hq
def Ea(K:Frag)(ea:Z1)(g:TG)(tb:TS)(D:j6)(σ:St)(x:V)(H1:Hp):Prop:= ∃(a:Z1)(xs:List V)(cls:Z0)(dx:Option Z1)(Pv:Nat->St->Hp->Prop),x=.ref a/\aV K H1 a xs/\Pv 0 σ H1/\(∀i σ H,i<=xs.length->Pv i σ H->aV K H a xs/\H ea=some (iK cls dx ea))/\
 (∀(i:Nat) x σ H,xs[i]? =some x->Pv i σ H->g x σ H λσ2 H2=>tb {D with nx:=Pv (i+1),ct:=Pv (i+1),bk:=D.nx} σ2 H2)/\∀σ H,Pv xs.length σ H->D.nx σ H
def tForN(K:Frag)(ea:Z1)(tl:TE)(g:TG)(tb:TS):TS:=λD σ H=>tl σ H λx H1=>Ea K ea g tb D σ x H1
def xv{K:Frag}{ea:Z1}{tl:TE}{g:TG}{tb u:TS}{D:j6}{σ:St}{H:Hp}(h:tl σ H λx H1=>Ea K ea g tb {D with nx:=u D} σ x H1):cm (tForN K ea tl g tb) u D σ H:=h
def sQ{ea:Z1}{tg l:S8}{body:List SQ}{tl:TE}{g:TG}{tb:TS}(hp:PassesOwn (Su X.prog X.w) X.A X.env X.xe)(hh:X.A.handled=some (.ref ea))(hl:PE X l tl)(hg:PG X tg g)(hb:rH X body tb)(hs:∀x,T0 l X.env x=pure x:=by intro _;rfl):PS X (.For tg l body [] pos) (tForN X.K ea tl g tb):=by
 intro R1 s σ H D I h;refine wpAny_For (cK (hl R1 s σ H _ I h) λv s1 ⟨x,H1,I1,r1,a,xs,cls,dx,Pv,ex,hq,p0,hk,hs',hd⟩=>?_) hs;subst ex;cases r1;obtain⟨its,rv,p,hz⟩:=I1.list hq;refine Tn p.isList ?_;have fp0:=I1.fpOk (Yd _) (I1.hok.fresh (Yd _));have stat:∀{H':Hp},H' s1.heap.objs.size=none->j5 X R1 H' s1.heap.objs.size:=λhn=>⟨hn,fp0.2⟩;refine codeAny_forLoop_any (λn s'=>∃i σ' H',aT X R1 σ' H' s'/\s'.heap.IsListIter s1.heap.objs.size a i/\H' s1.heap.objs.size=none/\n=xs.length - i/\i<=xs.length/\Pv i σ' H') ?_ xs.length ⟨0,σ,H1,I1.kept λb o e=>Sj _ e,⟨_,Sm _ rfl,rfl,rfl⟩,fp0.1,by simp,Yh _,p0⟩;rintro n s3 ⟨i,σ3,H3,I3,st3,fr3,rfl,hi,p3⟩;obtain⟨hq3,he3⟩:=hk i σ3 H3 hi p3;obtain⟨its3,rv3,pl3,_⟩:=I3.list hq3;have hlen:=rv3.length;obtain⟨f0,f1,f2,f3,f4,f5⟩:=stat fr3
 by_cases hlt:i<xs.length
 .have hx:xs[i]? =some xs[i]:=Wp hlt;obtain⟨u,hu,ru⟩:=rv3.get hx;refine Tc hp (Vh st3 pl3.isList (x:=u) (by simpa using hu) λh' st' sb=>?_);have I4:aT X R1 σ3 H3 {s3 with heap:=h'}:=I3.turned (t':=s3.toks) (λb o hb e=>(sb.2 b hb).trans e) f0 f1 f3 f4 f5;obtain⟨o,eo,c,d⟩:=id st';refine Tc hp (vL (s:={s3 with heap:=h'}) eo c d (by decide) ?_);have ob:∀b∈[s1.heap.objs.size],∃o,h'.get? b=some o/\∀v,o.data≠.cell v:=λb hb=>by rw[Wu.mp hb];exact⟨o,eo,λv z=>by rw[d]at z;cases z⟩
  have I5:=I4.pinned (fp:=[s1.heap.objs.size]) (λb hb=>by rw[Wu.mp hb];exact stat fr3) ob;refine Tc hp (cK (hg _ _ σ3 H3 xs[i] u _ I5 ru (hs' i _ σ3 H3 hx p3)) λ_ s6 ⟨σ6,H6,I6,q6⟩=>?_);refine Tc hp (cK (hb _ s6 σ6 H6 _ I6 q6) λf s7 q7=>?_);have again:∀{σ7:St}{H7:Hp},aT X (R1++jD [s1.heap.objs.size] h') σ7 H7 s7->Pv (i+1) σ7 H7->∃m,m<xs.length - i/\∃i σ' H',aT X R1 σ' H' s7/\s7.heap.IsListIter s1.heap.objs.size a i/\H' s1.heap.objs.size=none/\m=xs.length - i/\i<=xs.length/\Pv i σ' H':=λ{σ7 H7} I7 n7=>by have pn:=I7.pin (s1.heap.objs.size,o) (WL _ (WL _ (iD Wv eo)));exact⟨xs.length - (i+1),by omega,i+1,σ7,H7,I7.unpinned,⟨o,pn.1,c,d⟩,pn.2.1,rfl,hlt,n7⟩
  cases f with
  |next=>obtain⟨σ7,H7,I7,n7⟩:=q7;exact again I7 n7
  |cont=>obtain⟨σ7,H7,I7,n7⟩:=q7;exact again I7 n7
  |brk=>obtain⟨σ7,H7,I7,q7⟩:=q7;exact⟨σ7,H7,I7.unpinned,q7⟩
  |ret v=>obtain⟨x7,σ7,H7,I7,r7,q7⟩:=q7;exact⟨x7,σ7,H7,I7.unpinned,r7,q7⟩
 .have e:i=xs.length:=by omega
  subst e;have cx:=iK.ctx (I3.hok ea _ he3);have ne:s1.heap.objs.size≠ea:=λz=>by rw[z,he3]at fr3;cases fr3
  refine Tc hp (pp hh cx ne st3 pl3.isList (by simp;omega) λh' eb=>?_);exact UB ⟨σ3,H3,I3.turned (λb o hb e=>eb b o hb e) f0 f1 f3 f4 f5,hd σ3 H3 p3⟩
def Dj(K:Frag)(ea:Z1)(n:Nat)(t:FN):TG:=λv σ H Q=>∃a xs cls dx,v=.ref a/\dU K H a xs/\xs.length=n/\H ea=some (iK cls dx ea)/\t xs σ H Q
def yL{ea:Z1}{k:Nat}{t:FN}{n:Nat}(hh:X.A.handled=some (.ref ea))(h:My X es t)(hn:(To es X.env).length=n:=by rfl)(hst:(To es X.env).findIdx? (·.1)=none:=by rfl):PG X (.Tuple es k pos) (Dj X.K ea n t):=by intro R1 s σ H v u Q I r hw;obtain⟨a,xs,cls,dx,e1,hq,hl,he,hw⟩:=hw;subst e1;cases r;obtain⟨its,rv,ht,hz⟩:=I.tuple hq;refine v9 hh (iK.ctx (I.hok ea _ he)) ht (by simp[hn,<-hl,rv.length]) hst λh' hx=>?_;have I1:aT X R1 σ H {s with heap:=h'}:=I.kept (t':=s.toks) λb o e=>hx b o (Yg (Sl e)) e;exact h R1 _ σ H xs _ Q I1 (by simpa using rv) hw
end
structure Qo(P:Ss)(w:World)(K:Frag)(mg:Sf)(R4:SD)(name:Str)(C:Z1)(ps:List Str)(k:Nat)(sp:Sp):Prop where
 ex:∃f fd,Mk K C f/\bM P w K mg R4 (jb P w) k f fd ps sp/\mg name=some (.ref C)/\j1 K fd ps []
section
def AB{f:Z1}{fd:SU}{R1:Sh}{σ:St}{H:Hp}{s:So}{Q:VK}{us:List Z0}{vs:List V}{E:XK}{E':Sg}(M:Mk X.K C f)(F:bM X.prog X.w X.K X.mg X.R4 (jb X.prog X.w) k f fd ps sp)(hr:eG (k+1) X.A)(hb:j1 X.K fd ps [])(I:aT X R1 σ H s)(r:bZ vs us)(h:∀x dx,H x=none->H dx=none->dx≠x->sp (.ref x::vs) (upd (upd H dx (.own x)) x (.ins C dx [])) (λv H2=>v=.non/\Q (.ref x) H2) E)(hx:∀H1 s1 e s',aT X R1 σ H1 s1->jb X.prog X.w X.stack H1 s1 E e s'->E' e s'):Sn (Su X.prog X.w) X.A (call (.ref C) us) (EP X R1 σ Q) E' s:=by
 have hq:=h (s.heap.objs.size+1) s.heap.objs.size (I.hok.fresh (Yj _)) (I.hok.fresh (Yd _)) (Yg (Yr _));have I2:=aT.made (C:=C) I;have r2:bZ (V.ref (s.heap.objs.size+1)::vs) (Sx (s.heap.objs.size+1)::us):=.cons rfl r;have hl:(Sx (s.heap.objs.size+1)::us++[]).length=ps.length:=by have e:=r2.length;rw[F.len _ _ _ _ hq]at e;rw[WN];exact e.symm
 have hb':=hb _ (Sx (s.heap.objs.size+1)::us) I2.kIn hl;rw[WN]at hb';refine Tr (CS (f:=f) I.kIn M.makes M.init (beq_iff_eq.mp M.fn) (S7 (F.run _ X.stack _ _ ⟨Sx (s.heap.objs.size+1)::us,[]⟩ (Sx (s.heap.objs.size+1)::us) _ _ E (hr.make C us [])
  (I2.env0.make C us []) hb' r2 hq) λr s' hq'=>?_))
 cases r with
 |error e=>exact hx _ _ e s' I2 hq'
 |ok fl=>
  cases fl with
  |ret u=>
   obtain⟨v,H',I3,rv,ev,q3⟩:=I2.after hq';subst ev;exact⟨rv,⟨V.ref (s.heap.objs.size+1),H',I3,rfl,q3⟩⟩
  |next=>exact False.elim hq'
  |brk=>exact False.elim hq'
  |cont=>exact False.elim hq'
end
section
def FE(h:Av t σ H vs)(e:vs[0]? =some (.ref ea))(q:sp vs H Q E0):xO ea sp t σ H Q:=h _ ⟨e,q⟩
end
end L2
namespace L2
open PySem
def xW(xs:Array Nat):Prop:= ∀i j,i<j->j<xs.size->xs.getD i 0<xs.getD j 0
def ju{α:Type}{xs:Array α}{i:Nat}{d:α}(h:i<xs.size):xs.getD i d=xs[i]:=by simp[Array.getD,h]
def Mt{xs:Array Nat}{i d e:Nat}(h:i<xs.size):xs.getD i d=xs.getD i e:=by rw[ju h,ju h]
theorem pY(xs:Array Nat)(j:Nat)(hr:xW xs):∀f lo hi,hi - lo<=f->lo<=hi->hi<=xs.size->(∀k,k<lo->xs.getD k 0<j)->(∀k,hi<=k->k<xs.size->j<=xs.getD k 0)->Uq xs j f lo hi<=xs.size/\(∀k,k<Uq xs j f lo hi->xs.getD k 0<j)/\(∀k,Uq xs j f lo hi<=k->k<xs.size->j<=xs.getD k 0)
 |0,lo,hi,h1,h2,h3,h4,h5=>by
  have:lo=hi:=by omega
  subst this;exact⟨h3,h4,h5⟩
 |f+1,lo,hi,h1,h2,h3,h4,h5=>by
  unfold Uq
  by_cases h:lo<hi
  .rw[R9 h];have hm:(lo+hi) / 2<xs.size:=by omega
   dsimp only;rw[Mt hm]
   by_cases q:xs.getD ((lo+hi) / 2) 0<j
   .rw[R9 q];refine pY xs j hr f _ hi (by omega) (by omega) h3 (λk hk=>?_) h5
    by_cases e:k=(lo+hi) / 2
    .rw[e];exact q
    .exact Yo (hr k _ (by omega) hm) q
   .rw[R8 q];refine pY xs j hr f lo _ (by omega) (by omega) (by omega) h4 (λk hk hks=>?_)
    by_cases e:k=(lo+hi) / 2
    .rw[e];omega
    .have:=hr ((lo+hi) / 2) k (by omega) hks;omega
  .rw[R8 h];have:lo=hi:=by omega
   subst this;exact⟨h3,h4,h5⟩
def jO(xs:Array Nat)(j:Nat)(hr:xW xs):SI xs j<=xs.size/\(∀k,k<SI xs j->xs.getD k 0<j)/\(∀k,SI xs j<=k->k<xs.size->j<=xs.getD k 0):=
 pY xs j hr _ 0 xs.size (by omega) (Yh _) (Yd _) (λk hk=>by omega) (λk h1 h2=>by omega)
def xR(hr:xW xs)(h:i<xs.size):SI xs (xs.getD i 0+1)=i+1:=by
 obtain⟨h1,h2,h3⟩:=jO xs (xs.getD i 0+1) hr
 rcases Nat.lt_trichotomy (SI xs (xs.getD i 0+1)) (i+1)with q|q|q
 .have:=h3 i (by omega) h;omega
 .exact q
 .have:=h2 (i+1) (by omega);have:=hr i (i+1) (by omega) (by omega);omega
def v8(hr:xW xs):SI xs 0=0:=by
 obtain⟨h1,h2,h3⟩:=jO xs 0 hr
 rcases Nat.eq_zero_or_pos (SI xs 0)with q|q
 .exact q
 .have:=h2 0 q;omega
def xY(xs:Array Nat)(j:Nat):Prop:= ∀k,k<xs.size->¬xs.getD k 0=j
def Fm(hr:xW xs)(h:(xs[SI xs j]? == some j)=false):xY xs j:=by
 obtain⟨h1,h2,h3⟩:=jO xs j hr;intro k hk e
 rcases Nat.lt_trichotomy k (SI xs j)with q|q|q
 .have:=h2 k q;omega
 .rw[<-q,YX hk,<-ju hk,e]at h;simp at h
 .have a1:=hr (SI xs j) k q hk;have a2:=h3 (SI xs j) (Yd _) (by omega);omega
def sB:xW xs<->xs.toList.Pairwise (· < ·):=by
 rw[XD]
 constructor
 .intro h i j hi hj hij;have hi':i<xs.size:=by simpa using hi
  have hj':j<xs.size:=by simpa using hj
  have:=h i j hij hj';rw[ju hi',ju hj']at this;simpa using this
 .intro h i j hij hj;have hi:i<xs.size:=by omega
  have:=h i j (by simpa using hi) (by simpa using hj) hij;rw[ju hi,ju hj];simpa using this
def wM(hr:xW xs)(hf:xY xs j):xW (SetTable.insertAt xs (SI xs j) j):=by
 obtain⟨h1,h2,h3⟩:=jO xs j hr;have g:∀m(hm:m<xs.toList.length),xs.toList[m]=xs.getD m 0:=λm hm=>by
  have hm':m<xs.size:=by simpa using hm
  rw[ju hm'];simp
 rw[sB,SetTable.toList_insertAt,List.pairwise_append];have hp:=sB.mp hr;refine⟨hp.sublist (Xp _ _),XE.mpr ⟨λa ha=>?_,hp.sublist (Xu _ _)⟩,λa ha b hb=>?_⟩
 .obtain⟨k,hk,rfl⟩:=X1.mp ha;have hk':SI xs j+k<xs.size:=by simpa[Nat.add_comm]using hk
  have a1:=h3 (SI xs j+k) (by omega) hk';have a2:=hf _ hk';rw[g];omega
 .obtain⟨k,hk,rfl⟩:=List.mem_take_iff_getElem.mp ha;have hk1:k<SI xs j:=by omega
  have a1:=h2 k hk1;rw[g]
  rcases Wn.mp hb with rfl|hb
  .exact a1
  .obtain⟨m,hm,rfl⟩:=X1.mp hb;have hm':SI xs j+m<xs.size:=by simpa[Nat.add_comm]using hm
   have a2:=h3 (SI xs j+m) (by omega) hm';rw[g];omega
structure SG(led:Bool)(n:Nat)(t:SetTable):Prop where
 fits:t.fits n=true
 led:t.led=led
 ris:xW t.place
def kE(n:Nat):xW (Array.range n):=λi j h hj=>by
 have hj':j<n:=by simpa using hj
 rw[ju (by simpa using Yo h hj'),ju hj];simpa using h
def SG.plainOff{led:Bool}{n:Nat}(h:SG led n t)(b:Bool):SG led n {t with plain:=b}:=⟨by have:=h.fits;cases t;exact this,h.led,h.ris⟩
theorem SG.fresh(led:Bool):SG led 0 (SetTable.fresh 0 0 led):=⟨rfl,rfl,λi j _ hj=>Sc hj (by simp[SetTable.fresh])⟩
def qK{t:SetTable}{j:Nat}(hr:xW t.place)(h:t.slot j=.empty\/t.slot j=.dummy):xY t.place j:=by
 apply Fm hr;unfold SetTable.slot at h;dsimp only at h;cases e:(t.place[SI t.place j]? == some j)with
 |false=>rfl
 |true=>
  rw[e]at h;simp at h
theorem lB(hr:xW t.place)(hashAt:Nat->Int)(h:Int):∀f p,(∀d,p.dummy=some d->xY t.place d)->∀j o,U4 t hashAt h f p=some (.empty j o)->xY t.place j/\∀d,o=some d->xY t.place d
 |0,p,hp,j,o,e=>by simp[U4]at e
 |f+1,p,hp,j,o,e=>by
  unfold U4 at e;cases q:t.slot p.j with
  |empty=>
   rw[q]at e;simp at e;obtain⟨rfl,rfl⟩:=e;exact⟨qK hr (.inl q),hp⟩
  |dummy=>
   rw[q]at e;refine lB hr hashAt h f _ (λd hd=>?_) j o e;have:(t.advance {p with dummy:=some p.j}).dummy=some p.j:=by unfold SetTable.advance;split<;>rfl
   rw[this]at hd;cases hd;exact qK hr (.inr q)
  |live i=>
   rw[q]at e;dsimp only at e;split at e
   .cases e
   .refine lB hr hashAt h f _ (λd hd=>?_) j o e;have:(t.advance p).dummy=p.dummy:=by unfold SetTable.advance;split<;>rfl
    rw[this]at hd;exact hp d hd
def SG.lay{led:Bool}{es:Array (Int×Z0)}(g:SG led es.size t)(h:Int)(x:Z0):SG led (layNew t es h x).1.size (layNew t es h x).2.1:=by
 refine⟨layNew_fits t es h x,?_,?_⟩
 .unfold layNew;split
  .dsimp only;unfold SetTable.orStandIn;split
   .exact g.led
   .exact g.led
  .exact g.led
 .unfold layNew;split
  .rename_i slot d e;have hf:xY t.place slot:=by
    unfold SetTable.freeSlot at e;split at e
    .rename_i j o q;obtain⟨f1,f2⟩:=lB g.ris _ h _ _ (λd hd=>by simp[SetTable.probeStart]at hd) j o q;simp only[Option.some.injEq,Prod.mk.injEq]at e;obtain⟨e1,_⟩:=e;cases o with
     |none=>rw[<-e1];exact f1
     |some d=>rw[<-e1];exact f2 d rfl
    .cases e
   dsimp only;unfold SetTable.orStandIn;split
   .exact wM g.ris hf
   .exact kE _
  .exact kE _
theorem kY{α:Type}(f:Nat->Option (Nat×α))(hf:∀j p,f j=some p->p.1=j):∀(l:List Nat),l.Pairwise (· < ·)->((l.filterMap f).map (·.1)).Pairwise (· < ·)/\∀a∈(l.filterMap f).map (·.1),a∈l
 | [],_=>⟨by simp,by simp⟩
 |j::l,h=>by
  obtain⟨h1,h2⟩:=XE.mp h;obtain⟨i1,i2⟩:=kY f hf l h2;rw[Xa];cases e:f j with
  |none=>exact⟨i1,λa ha=>Wy _ (i2 a ha)⟩
  |some p=>
   have ep:=hf j p e;dsimp only;rw[WI,ep];refine⟨XE.mpr ⟨λa ha=>h1 a (i2 a ha),i1⟩,λa ha=>?_⟩
   rcases Wn.mp ha with rfl|ha
   .exact Wv
   .exact Wy _ (i2 a ha)
def vD{mask finger moves:Nat}{led plain:Bool}{hs:Array Int}{o:Array Nat}(h:SetTable.laid mask finger moves led plain hs=some (t,o)):t.led=led/\xW t.place:=by
 unfold SetTable.laid at h;cases e:SetTable.layClean mask hs with
 |none=>rw[e]at h;cases h
 |some owner=>
  rw[e]at h;simp only[Option.bind_eq_bind,Za,Option.pure_def,Option.some.injEq,Prod.mk.injEq]at h;obtain⟨rfl,_⟩:=h;refine⟨rfl,sB.mpr ?_⟩;dsimp only;have:=(kY (λj=>(owner.getD j none).map (j,·)) (λj p hp=>by
   obtain⟨a,_,rfl⟩:=Y7.mp hp;rfl) (List.range (mask+1)) List.pairwise_lt_range).1
  simpa using this
def SG.relay{led:Bool}{es:Array (Int×Z0)}{n:Nat}(g:SG led n t)(wanted:Nat):SG led (relayAll t es wanted).1.size (relayAll t es wanted).2.1:=by
 refine⟨relayAll_fits t es wanted,?_,?_⟩
 .unfold relayAll;split
  .rename_i t' o e;have:=vD e;dsimp only;split
   .exact this.1.trans g.led
   .exact g.led
  .exact g.led
 .unfold relayAll;split
  .rename_i t' o e;have:=vD e;dsimp only;split
   .exact this.2
   .exact kE _
  .exact kE _
def pQ{α:Type}{l:List α}{i:Nat}{x:α}(h:l[i]? =some x):(x::l.eraseIdx i).Perm l:=by
 have hi:=(Wz.mp h).1;have e:l=l.take i++x::l.drop (i+1):=by
  have e1:=(XF i l).symm;have e2:l.drop i=x::l.drop (i+1):=by rw[Xr hi];rw[Wp hi]at h;rw[Sd h]
  rw[e2]at e1;exact e1
 rw[List.eraseIdx_eq_take_drop_succ]
 conv=>rhs;rw[e]
 exact List.perm_middle.symm
theorem yB(next:Nat->Nat):∀(f k:Nat)(left:List α)(out:Array α),left.length<=f->(V2 next f k left out).toList.Perm (out.toList++left)
 |0,k,left,out,h=>by have:left=[]:=W6.mp (by omega);subst this;simp[V2]
 |f+1,k,left,out,h=>by
  unfold V2;split
  .rename_i x e;have hi:=(Wz.mp e).1;have hl:=X2 hi;refine(yB next f (k+1) _ _ (by omega)).trans ?_;rw[Y5,X3];exact List.Perm.append_left _ (pQ e)
  .rename_i e;have:left=[]:=by
    cases left with
    |nil=>rfl
    |cons a l=>
     rw[Wp (Nat.mod_lt _ (by simp))]at e;cases e
   subst this;simp
def Aq(next:Nat->Nat)(xs:Array α):(Uj next xs).toList.Perm xs.toList:=by have:=yB next xs.size 0 xs.toList #[] (by simp);simpa[Uj]using this
def it5(M:Nat):Nat->Nat->Nat
 |0,i=>i
 |n+1,i=>it5 M n ((i*5+1) % M)
def orb(M:Nat):Nat->Nat->List Nat
 |0,_=>[]
 |n+1,i=>i::orb M n ((i*5+1) % M)
def RV(M:Nat):Prop:=(∀e,e<M->e∈orb M M 0)/\it5 M M 0=0
def lp(mask:Nat)(h:Int):Nat->Nat×Nat
 |0=>(SetTable.bits h % (mask+1),SetTable.bits h)
 |n+1=>SetTable.leap mask (lp mask h n).1 (lp mask h n).2
def sl(mask:Nat)(h:Int)(n c:Nat):Nat:=(lp mask h n).1+c
def Lt2(n c n' c':Nat):Prop:=n<n'\/(n=n'/\c<c')
def Ok2(mask:Nat)(h:Int)(n c:Nat):Prop:=c<=SetTable.runEnd mask (lp mask h n).1 - (lp mask h n).1
def Mx(t:SetTable)(h:Int)(j:Nat):Prop:= ∃n c,Ok2 t.mask h n c/\sl t.mask h n c=j/\∀a b,Ok2 t.mask h a b->Lt2 a b n c->¬t.slot (sl t.mask h a b)=.empty
structure TGb(es:Array (Int×Z0))(t:SetTable):Prop where
 ps:t.place.size=es.size
 ris:xW t.place
 nd:t.dummies= #[]
 full:RV (t.mask+1)
 odd:t.mask % 2=1
 fit:t.place.size<=t.mask
 pl:∀i,i<es.size->Mx t (es.getD i (0,.none)).1 (t.place.getD i 0)
def dA:Slot "set_iterator" "__next__" "set_iterator.__next__":=
 .of (owner:="set_iterator") (n:="__next__") (by rw[Vr,Uu];kernel_rfl) (by decide+kernel) (by decide+kernel) (by decide+kernel) (by first|exact .inl (by decide+kernel)|exact .inr (by decide+kernel)) (by rw[VC];kernel_rfl)
def jK:entryFor table "set_iterator.__next__"=some Builtin.«set_iterator.__next__» :=entryFor_of_tree (by kernel_rfl)
def jP(a:Z0):Wj "set_iterator.__next__" ⟨[a],[]⟩:=by unfold Wj;kernel_rfl
def oP:Slot "set_iterator" "__iter__" "set_iterator.__iter__":=
 .of (owner:="set_iterator") (n:="__iter__") (by rw[Vr,Uu];kernel_rfl) (by decide+kernel) (by decide+kernel) (by decide+kernel) (by first|exact .inl (by decide+kernel)|exact .inr (by decide+kernel)) (by rw[VC];kernel_rfl)
def xC:entryFor table "set_iterator.__iter__"=some Builtin.«dict_keyiterator.__iter__» :=
 entryFor_alias (id':="dict_keyiterator.__iter__") (by kernel_rfl) rfl (by decide+kernel) (by kernel_rfl)
def xT(a:Z0):Wj "set_iterator.__iter__" ⟨[a],[]⟩:=by unfold Wj;kernel_rfl
def vS:entryFor table "set.__iter__"=some Builtin.«frozenset.__iter__» :=
 entryFor_alias (id':="frozenset.__iter__") (by kernel_rfl) rfl (by decide+kernel) (by kernel_rfl)
def ik(h:SD)(D:Z1)(es:Array (Int×Z0))(ep:Nat)(t:SetTable):Prop:= ∃o,h.get? D=some o/\o.ExactSet/\o.data=.set es ep t
def wc(h:SD)(I D:Z1)(first:Z0)(i n ep:Nat):Prop:= ∃o,h.get? I=some o/\o.cls=.type "set_iterator"/\o.data=.fields #[first,.int i 0,.ref D,.int n 0,.int ep 0]
section
variable{s:So}
def wc.ty(h:wc s.heap I D f i n ep):s.TypeIs (.ref I) "set_iterator":=let ⟨o,h1,h2,_⟩:=h;⟨o,h1,h2⟩
def wc.keep(x:wc h I D f i n ep)(k:∀o,h.get? I=some o->h'.get? I=some o):wc h' I D f i n ep:=let ⟨o,h1,r⟩:=x;⟨o,k o h1,r⟩
def ik.keep(x:ik h D es ep t)(k:∀o,h.get? D=some o->h'.get? D=some o):ik h' D es ep t:=let ⟨o,h1,r⟩:=x;⟨o,k o h1,r⟩
def wu{m:Sem Unit}{α:Type}{k:Unit->Sem α}{Q:α->So->Prop}(hm:∀Q':Unit->So->Prop,Q' () s->Sn M A m Q' E s)(h:Sn M A (k ()) Q E s):Sn M A (m >>= k) Q E s:=Si (hm _ h)
def nU(hS:ik s.heap D es ep t)(hf:t.fits es.size=true)(h:Q (es,ep,t) s):Sn (Su prog w) A (setState D) Q E s:=by obtain⟨o,ho,_,hd⟩:=hS;exact wpAny_setState_of ho hd hf h
def mH(h:Q (w.params.followText "set-order") s):Sn (Su prog w) A setsByText Q E s:=by unfold setsByText;exact Si (Vf (Sk h))
def qS(hS:ik s.heap D es ep t)(g:SG (!w.params.followText "set-order") es.size t)(hb:w.params.followText "set-order"=false)(hp:t.plain=true\/es.size<=1)(hi:SI t.place slot=i)(h:Q (match es[i]?,t.place[i]? with|some (_,x),some j=>some (x,j+1)|_,_=>none) s):Sn (Su prog w) A (VH D slot given ep) Q E s:=by
 unfold VH;refine Si (nU hS g.fits ?_);dsimp only;refine Si (mH ?_);rw[hb,R8 YD];split
 .rename_i q;have q:(!t.plain&&decide (es.size > 1))=true:=q
  rcases hp with hp|hp
  .rw[hp]at q;cases q
  .rw[R7 (by omega:¬es.size > 1),YJ]at q;cases q
 .refine wu (λQ' q=>?_) ?_
  .show Sn _ _ (if(!t.led&& !es.isEmpty)=true then _ else _) _ _ _;rw[g.led,hb];exact Sk q
  .rw[hi];exact Sk h
def qR(hS:ik s.heap D es ep t)(hf:t.fits es.size=true)(hb:w.params.followText "set-order"=true)(h:Q (((Uj (w.params.setOrder D ep) es)[given]?).map λe=>(e.2,slot)) s):Sn (Su prog w) A (VH D slot given ep) Q E s:=by unfold VH;refine Si (nU hS hf ?_);dsimp only;refine Si (mH ?_);rw[hb];show Sn _ _ (if(ep != ep)=true then _ else _) _ _ _;rw[R8 (by simp)];refine Si ?_;unfold setWalk;refine Si (nU hS hf ?_);dsimp only;refine Si (mH ?_);rw[hb];exact Si (Vf (Sk (Sk h)))
def xa(hS:ik s.heap D es ep t)(hf:t.fits es.size=true)(he:es[place]? =some e)(h:Q e.2 s):Sn (Su prog w) A (setNextDrawn D place ep) Q E s:=by unfold setNextDrawn;refine Si (nU hS hf ?_);dsimp only;rw[R8 (by simp),he];exact Sk h
end
def slotAt(t:SetTable)(i:Nat):Nat:=if i=0 then 0 else t.place.getD (i - 1) 0+1
def lW(hr:xW t.place)(hi:i<=t.place.size):SI t.place (slotAt t i)=i:=by
 unfold slotAt
 by_cases h:i=0
 .rw[R9 h,h];exact v8 hr
 .rw[R8 h,xR hr (by omega)];omega
section
def tR{I D:Z1}{o:Obj}{vs:Array Z0}{h:SD}{i:Nat}{x:Z0}(ho:h.get? I=some o)(hc:o.cls=.type "set_iterator")(hd:o.data=.fields vs):∃o',(h.update I (SW (·.setIfInBounds i x))).get? I=some o'/\o'.cls=.type "set_iterator"/\o'.data=.fields (vs.setIfInBounds i x):=
 ⟨_,SJ _ ho (Tk (Tf hd _)),(Ur ..).trans hc,Tf hd _⟩
end
section
def vJ{es:Array (Int×Z0)}{ep slot i next:Nat}{x:Z0}{Q:Option Z0->So->Prop}(hi:wc s.heap I D (.int slot 0) i es.size ep)(hS:ik s.heap D es ep t)(hf:t.fits es.size=true)(hn:∀(Q':Option (Z0×Nat)->So->Prop)(E':Sg),Q' (some (x,next)) s->Sn (Su prog w) A.in1 (VH D slot i ep) Q' E' s)(hQ:∀h',wc h' I D (.int next 0) (i+1) es.size ep->Td I s.heap h'->Q (some x) {s with heap:=h'}):Sn (Su prog w) A (TM (.ref I)) Q E s:=by have ty:=hi.ty;obtain⟨o,ho,hc,hd⟩:=hi;unfold TM;refine Si (Tb (SB (name:=TB "__next__") ty dA (SK dA ty jK ?_ (jP _))));show Sn _ _ (fieldsOf (.ref I) >>= _) _ _ s;refine Si (US ho hd ?_);show Sn _ _ (Ug D >>= _) _ _ s;unfold Ug;refine Si (Si (nU hS hf (Sk ?_)));dsimp only;rw[R8 (by simp)];show Sn _ _ (VH D (Int.toNat slot) (Int.toNat i) (Int.toNat ep) >>= _) _ _ s;rw[Yw,Yw,Yw];refine Si (hn _ _ ?_);dsimp only;refine Si (SX ho hd (by simp) ?_);obtain⟨o2,ho2,hc2,hd2⟩:=tR (D:=D) (i:=0) (x:=T3 next) ho hc hd;refine Si (SX ho2 hd2 (by simp) (Sk ⟨x,rfl,Sk (hQ _ ?_ ((SS ..).trans (SS ..)))⟩));obtain⟨o3,ho3,hc3,hd3⟩:=tR (D:=D) (i:=1) (x:=T3 ((i:Int)+1)) ho2 hc2 hd2;exact⟨o3,ho3,hc3,by rw[hd3];rfl⟩
def zy{es:Array (Int×Z0)}{ep slot i:Nat}{Q:Option Z0->So->Prop}(hh:A.handled=none)(hi:wc s.heap I D (.int slot 0) i es.size ep)(hS:ik s.heap D es ep t)(hf:t.fits es.size=true)(hn:∀(Q':Option (Z0×Nat)->So->Prop)(E':Sg),Q' none s->Sn (Su prog w) A.in1 (VH D slot i ep) Q' E' s)(hQ:∀h',Ul I s.heap h'->Q none {s with heap:=h'}):Sn (Su prog w) A (TM (.ref I)) Q E s:=by
 have ty:=hi.ty;obtain⟨o,ho,hc,hd⟩:=hi;unfold TM;refine Si (Tb (SB ty dA (SK dA ty jK ?_ (jP _))));show Sn _ _ (fieldsOf (.ref I) >>= _) _ _ s;refine Si (US ho hd ?_);unfold Ug;refine Si (Si (nU hS hf (Sk ?_)));dsimp only;rw[R8 (by simp)];rw[Yw,Yw,Yw];refine Si (hn _ _ ?_);dsimp only;refine Si (SX ho hd (by simp) ?_);refine Si ?_;simp only[V9,V3];refine Si (Sz ?_ (by size_fits));refine Si (T2 (by first|rfl|(simp only[Tt];rfl)) ?_)
 refine Sz ?_ (by size_fits);simp only[V1];refine Si (U7 ?_);rw[show A.in1.handled=none from hh];refine Si (Sk (Vx ?_));refine Si (Tq ⟨_,Sm _ rfl,rfl⟩ T4 ?_);exact Sk (hQ _ (((SS ..).extBut.push _).push _))
def Fb{es:Array (Int×Z0)}{ps:Array Z0}{ep i c k:Nat}{e:Int×Z0}{ot:Obj}{Q:Option Z0->So->Prop}(hi:wc s.heap I D (.ref T) i es.size ep)(hS:ik s.heap D es ep t)(hf:t.fits es.size=true)(hT:s.heap.get? T=some ot)(hTd:ot.data=.seq ps c)(hp:ps[i]? =some (.int k 0))(he:es[k]? =some e)(hQ:∀h',wc h' I D (.ref T) (i+1) es.size ep->Td I s.heap h'->Q (some e.2) {s with heap:=h'}):Sn (Su prog w) A (TM (.ref I)) Q E s:=by have ty:=hi.ty;obtain⟨o,ho,hc,hd⟩:=hi;unfold TM;refine Si (Tb (SB (name:=TB "__next__") ty dA (SK dA ty jK ?_ (jP _))));show Sn _ _ (fieldsOf (.ref I) >>= _) _ _ s;refine Si (US ho hd ?_);show Sn _ _ (Ug D >>= _) _ _ s;unfold Ug;refine Si (Si (nU hS hf (Sk ?_)));dsimp only;rw[R8 (by simp)];show Sn _ _ (V8 (.ref T) >>= _) _ _ s;refine Si (SY hT hTd ?_);dsimp only;rw[Yw,hp];dsimp only;rw[Yw,Yw];refine Si (xa hS hf he ?_);obtain⟨o3,ho3,hc3,hd3⟩:=tR (D:=D) (i:=1) (x:=T3 ((i:Int)+1)) ho hc hd;exact Si (SX ho hd (by simp) (Sk ⟨_,rfl,Sk (hQ _ ⟨o3,ho3,hc3,by rw[hd3];rfl⟩ (SS ..))⟩))
def L8(hh:A.handled=none)(hi:wc s.heap I D (.ref T) i es.size ep)(hS:ik s.heap D es ep t)(hf:t.fits es.size=true)(hT:s.heap.get? T=some ot)(hTd:ot.data=.seq ps c)(hp:ps[i]? =none)(hQ:∀h',Ul I s.heap h'->Q none {s with heap:=h'}):Sn (Su prog w) A (TM (.ref I)) Q E s:=by
 have ty:=hi.ty;obtain⟨o,ho,hc,hd⟩:=hi;unfold TM;refine Si (Tb (SB (name:=TB "__next__") ty dA (SK dA ty jK ?_ (jP _))));show Sn _ _ (fieldsOf (.ref I) >>= _) _ _ s;refine Si (US ho hd ?_);show Sn _ _ (Ug D >>= _) _ _ s;unfold Ug;refine Si (Si (nU hS hf (Sk ?_)));dsimp only;rw[R8 (by simp)];show Sn _ _ (V8 (.ref T) >>= _) _ _ s;refine Si (SY hT hTd ?_);dsimp only;rw[Yw,hp];dsimp only;refine Si (SX ho hd (by simp) ?_);obtain⟨o2,ho2,hc2,hd2⟩:=tR (D:=D) (i:=0) (x:=T3 0) ho hc hd;refine Si (SX ho2 hd2 (by simp) ?_);refine Si ?_;simp only[V9,V3];refine Si (Sz ?_ (by size_fits));refine Si (m:=Tt _ _) (T2 (a:=SC) (by first|rfl|(simp only[Tt];rfl)) ?_)
 refine Sz ?_ (by size_fits);simp only[V1];refine Si (U7 ?_);rw[show A.in1.handled=none from hh];refine Si (Sk (Vx ?_));refine Si (Tq (T:="StopIteration") (b:=true) ⟨_,Sm _ rfl,rfl⟩ T4 ?_);exact Sk (hQ _ ((((SS ..).trans (SS ..)).extBut.push _).push _))
def rX(hi:wc s.heap I D f i n ep)(h:Q (.ref I) s):Sn (Su prog w) A (pyIter (.ref I)) Q E s:=by refine wpAny_pyIter_slot hi.ty oP (SK oP hi.ty xC ?_ (xT _));exact Sk ⟨_,rfl,"set_iterator",_,hi.ty,dA.lookup,h⟩
end
def eK(es:Array (Int×Z0)):List Z0:=es.toList.map (·.2)
structure WS3(prog:Ss)(w:World)(s:So)(D:Z1)(vs:List Z0)(h':SD)(I:Z1):Prop where
 ex:∃fp St,(∀A':S5,A'.handled=none->Walks prog w A' I fp [I] vs.length (λi v=>vs[i]? =some v) St)/\St 0 h'/\(∀b∈fp,b=D\/s.heap.objs.size<=b)/\I∈fp/\(∀b∈fp,b<h'.objs.size)/\s.heap.objs.size<=I
section
def zR(hne:D≠I)(g:SG (!w.params.followText "set-order") es.size t)(hb:w.params.followText "set-order"=false)(hp:t.plain=true\/es.size<=1)(hh:A.handled=none):Walks prog w A I [I,D] [I] (eK es).length (λi v=>(eK es)[i]? =some v) (λi h=>i<=es.size/\wc h I D (.int (slotAt t i:Nat) 0) i es.size ep/\ik h D es ep t) where
 sub:=λb hb=>by
  have:b=I:=by simpa using hb
  simp[this]
 frame:=λi h h' st k=>⟨st.1,st.2.1.keep λo e=>k I (by simp) o e,st.2.2.keep λo e=>k D (by simp) o e⟩
 item:=λi s Q E hi st hQ=>by
  have hl:(eK es).length=es.size:=by simp[eK]
  have hi':i<es.size:=by omega
  have hps:t.place.size=es.size:=by have:=g.fits;unfold SetTable.fits at this;rw[YC]at this;exact beq_iff_eq.mp this.1
  have hv:(eK es)[i]? =some es[i].2:=by unfold eK;rw[Wr,YY,YX hi'];rfl
  refine vJ (x:=es[i].2) (next:=slotAt t (i+1)) st.2.1 st.2.2 g.fits (λQ' E' q=>qS st.2.2 g hb hp (lW g.ris (by omega)) ?_) λh' a b=>?_
  .rw[YX hi',YX (by omega)];have e:slotAt t (i+1)=t.place[i]+1:=by unfold slotAt;rw[R8 (Yt i),Nat.add_sub_cancel,ju (by omega)]
   rw[e]at q;exact q
  .exact hQ _ h' s.toks hv ⟨hi',a,st.2.2.keep λo e=>b.extBut D o hne e⟩ λc o hc e=>b.extBut c o (λz=>hc (by simp[z])) e
 done:=λs Q E st hQ=>by
   have hl:(eK es).length=es.size:=by simp[eK]
   have hps:t.place.size=es.size:=by have:=g.fits;unfold SetTable.fits at this;rw[YC]at this;exact beq_iff_eq.mp this.1
   rw[hl]at st;refine zy hh st.2.1 st.2.2 g.fits (λQ' E' q=>qS st.2.2 g hb hp (lW g.ris (by omega)) ?_) λh' a=>hQ h' s.toks λc o hc e=>a c o (λz=>hc (by simp[z])) e;rw[Y0 (Yd _)];exact q
 self:=λ_ _ _ _ st hQ=>rX st.2.1 hQ
def zQ(hne:D≠I)(hf:t.fits es.size=true)(hb:w.params.followText "set-order"=true)(hh:A.handled=none):Walks prog w A I [I,D] [I] (eK (Uj (w.params.setOrder D ep) es)).length (λi v=>(eK (Uj (w.params.setOrder D ep) es))[i]? =some v) (λi h=>wc h I D (.int (0:Nat) 0) i es.size ep/\ik h D es ep t) where
 sub:=λb hb=>by
  have:b=I:=by simpa using hb
  simp[this]
 frame:=λi h h' st k=>⟨st.1.keep λo e=>k I (by simp) o e,st.2.keep λo e=>k D (by simp) o e⟩
 item:=λi s Q E hi st hQ=>by
  have hi':i<(Uj (w.params.setOrder D ep) es).size:=by simpa[eK]using hi
  have hv:(eK (Uj (w.params.setOrder D ep) es))[i]? =some (Uj (w.params.setOrder D ep) es)[i].2:=by unfold eK;rw[Wr,YY,YX hi'];rfl
  refine vJ (x:=(Uj (w.params.setOrder D ep) es)[i].2) (next:=0) st.1 st.2 hf (λQ' E' q=>qR st.2 hf hb ?_) λh' a b=>?_
  .rw[YX hi'];exact q
  .exact hQ _ h' s.toks hv ⟨a,st.2.keep λo e=>b.extBut D o hne e⟩ λc o hc e=>b.extBut c o (λz=>hc (by simp[z])) e
 done:=λs Q E st hQ=>by refine zy hh st.1 st.2 hf (λQ' E' q=>qR st.2 hf hb ?_) λh' a=>hQ h' s.toks λc o hc e=>a c o (λz=>hc (by simp[z])) e;rw[Y0 (by simp[eK])];exact q
 self:=λ_ _ _ _ st hQ=>rX st.1 hQ
def Eh(hne:D≠I)(hT:T≠I)(hf:t.fits es.size=true)(ks:List Nat)(hk:∀k∈ks,k<es.size)(hh:A.handled=none):Walks prog w A I [I,D,T] [I] (ks.map λk=>(es.getD k (0,.none)).2).length (λi v=>(ks.map λk=>(es.getD k (0,.none)).2)[i]? =some v) (λi h=>wc h I D (.ref T) i es.size ep/\ik h D es ep t/\∃ot c,h.get? T=some ot/\ot.data=.seq (ks.map λ(k:Nat)=>UO k 0).toArray c) where
 sub:=λb hb=>by
  have:b=I:=by simpa using hb
  simp[this]
 frame:=λi h h' st k=>⟨st.1.keep λo e=>k I (by simp) o e,st.2.1.keep λo e=>k D (by simp) o e,let ⟨ot,c,h1,h2⟩:=st.2.2;⟨ot,c,k T (by simp) ot h1,h2⟩⟩
 item:=λi s Q E hi st hQ=>by
  have hi':i<ks.length:=by simpa using hi
  obtain⟨s1,s2,ot,c,h1,h2⟩:=st;have hki:=hk _ (WV hi');refine Fb s1 s2 hf h1 h2 (by simp[hi']) (YX hki) λh' a b=>?_;refine hQ _ h' s.toks ?_ ⟨a,s2.keep λo e=>b.extBut D o hne e,ot,c,b.extBut T ot hT h1,h2⟩ λc o hc e=>b.extBut c o (λz=>hc (by simp[z])) e;rw[Wr,Wp hi'];show some (es.getD ks[i] (0,.none)).2=_;rw[ju hki]
 done:=λs Q E st hQ=>by obtain⟨s1,s2,ot,c,h1,h2⟩:=st;exact L8 hh s1 s2 hf h1 h2 (by simp) λh' a=>hQ h' s.toks λc o hc e=>a c o (λz=>hc (by simp[z])) e
 self:=λ_ _ _ _ st hQ=>rX st.1 hQ
end
section
theorem DF:∀(n:Nat)(xs:List α)(s:So)(Q:List α->So->Prop),xs.length=n->(∀l d,l.Perm xs->Q l {s with drawn:=d})->Sn (Su prog w) A (drawOrder n xs) Q E s
 |0,xs,s,Q,hn,h=>by have:xs=[]:=W6.mp hn;subst this;exact Sk (h [] s.drawn (List.Perm.refl _))
 |n+1,[],s,Q,hn,h=>by cases hn
 |n+1,x::xs,s,Q,hn,h=>by
  show Sn _ _ (do let i<-choose .order (x::xs).length;_) _ _ s;refine Si ?_;intro Γ p hΓ;unfold choose;rw[Sem.wp_choose];refine⟨Yt _,?_⟩;have hi:(Su prog w).w.draws Source.order (s.drawn.get Source.order) % (x::xs).length<(x::xs).length:=Nat.mod_lt _ (Yu _);refine(Sk (M:=Su prog w) (A:=A) (E:=E) ?_) Γ p hΓ;rw[Wp hi];dsimp only;refine Si (DF n _ _ _ ?_ λl d hp=>?_)
  .rw[X2 hi];omega
  .exact Sk (h _ d ((List.Perm.cons _ hp).trans (pQ (Wp hi))))
end
section
def wN{es:Array (Int×Z0)}{l:List Nat}(h:l.Perm (List.range es.size)):(l.map λk=>(es.getD k (0,.none)).2).Perm (eK es):=by
 refine(h.map _).trans (List.Perm.of_eq ?_);unfold eK;apply Xe;intro i;have e0:es.toList[i]? =es[i]? :=YY;rw[Wr,Wr,e0]
 by_cases hi:i<es.size
 .rw[Xs hi,YX hi];show some (es.getD i (0,.none)).2=some es[i].2;rw[ju hi]
 .rw[WX (by simpa using hi),Y0 (by omega)];rfl
def C7(hS:ik s.heap D es ep t)(g:SG (!w.params.followText "set-order") es.size t)(hz:es.size<=h9)(hQ:∀(vs:List Z0)(h':SD)(I:Z1) d,vs.Perm (eK es)->WS3 prog w s D vs h' I->(∀b o,s.heap.get? b=some o->h'.get? b=some o)->Q (.ref I) {s with heap:=h',drawn:=d}):Sn (Su prog w) A (pyIter (.ref D)) Q E s:=by
 have ty:s.TypeIs (.ref D) "set":=let ⟨o,h1,h2,_⟩:=hS;⟨o,h1,h2.1⟩;have hlt:D<s.heap.objs.size:=let ⟨o,h1,_⟩:=hS;Sl h1;refine wpAny_pyIter_slot ty F.slot_set_iter (SK F.slot_set_iter ty vS ?_ (F.args_set_iter_1 _));show Sn _ _ (Vc D >>= _) _ _ s;unfold Vc Ug;refine Si (Si (Si (nU hS g.fits (Sk (Sk ?_)))));dsimp only;refine Si ?_;unfold setDrawn;refine Si (nU hS g.fits ?_);dsimp only;refine Si (mH (Sk ?_));have fin:∀(first:Z0)(h1:SD)(d:Drawn),(∀b o,s.heap.get? b=some o->h1.get? b=some o)->s.heap.objs.size<=h1.objs.size->(∀I h',wc h' I D first 0 es.size ep->ik h' D es ep t->D<I->s.heap.objs.size<=I->h1.objs.size<=I->I<h'.objs.size->(∀b o,h1.get? b=some o->h'.get? b=some o)->∃vs:List Z0,vs.Perm (eK es)/\WS3 prog w s D vs h' I)->
   Sn (Su prog w) A.in1 (do let n<-setEpoch D;let x<-newFields "set_iterator" [first,T3 0,.ref D,T3 es.size,T3 n];ret x) (λr s'=>∃v,r=.done (.ret v)/\∃T' r',s'.TypeIs v T'/\Vi (.type T') "__next__"=pure (some r')/\Q v s') E {s with heap:=h1,drawn:=d}:=λfirst h1 d k hs f=>by
  have hS1:ik h1 D es ep t:=hS.keep λo e=>k D o e;unfold setEpoch;refine Si (Si (nU hS1 g.fits (Sk ?_)));refine Si (Sz (Sk ?_) (by size_fits));have k2:∀b o,h1.get? b=some o->(h1.push {cls:=.type "set_iterator",data:=.fields #[first,.int 0 0,.ref D,.int es.size 0,.int ep 0]}).get? b=some o:=λb o e=>Sj _ e;have hI:wc (h1.push {cls:=.type "set_iterator",data:=.fields #[first,.int 0 0,.ref D,.int es.size 0,.int ep 0]}) h1.objs.size D first 0 es.size ep:=⟨_,Sm _ rfl,rfl,rfl⟩;obtain⟨vs,p,W⟩:=f _ _ hI (hS1.keep λo e=>k2 D o e) (Yi hlt hs) hs (Yd _) (by rw[SR];exact Yr _) k2;exact⟨_,rfl,"set_iterator",_,⟨_,Sm _ rfl,rfl⟩,dA.lookup,hQ vs _ _ d p W λb o e=>k2 b o (k b o e)⟩
 cases hb:w.params.followText "set-order"with
 |true=>
  rw[R8 (by simp)];refine Si (Sk (fin _ s.heap s.drawn (λ_ _ e=>e) (Yd _) λI h' a b c1 c2 c3 c4 k=>⟨_,(Aq (w.params.setOrder D ep) es).map _,⟨[I,D],_,λA' hA=>zQ (Yg c1) g.fits hb hA,⟨a,b⟩,?_,by simp,?_,c2⟩⟩))
  .intro x hx;simp only[Wn,WB,or_false]at hx
   rcases hx with rfl|rfl
   .exact .inr c2
   .exact .inl rfl
  .intro x hx;simp only[Wn,WB,or_false]at hx
   rcases hx with rfl|rfl
   .exact c4
   .exact Yo c1 c4
 |false=>
  split
  .rename_i hd;have hd:(!t.plain&&decide (es.size > 1))=true:=hd;refine Si (DF es.size (List.range es.size) s _ (by simp) λl d hp=>?_);refine Si (Sz ?_ ?_)
   .refine fin _ _ d (λb o e=>Sj _ e) (by rw[SR];exact Yj _) λI h' a b c1 c2 c3 c4 k=>⟨_,wN hp,⟨[I,D,s.heap.objs.size],_,λA' hA=>Eh (T:=s.heap.objs.size) (Yg c1) (Yg (Yi (by rw[SR];exact Yr _) c3)) g.fits l (λx hx=>by simpa using hp.mem_iff.mp hx) hA,⟨a,b,_,_,k _ _ (Sm _ rfl),rfl⟩,?_,by simp,?_,c2⟩⟩
    .intro x hx;simp only[Wn,WB,or_false]at hx
     rcases hx with rfl|rfl|rfl
     .exact .inr c2
     .exact .inl rfl
     .exact .inr (Yd _)
    .intro x hx;simp only[Wn,WB,or_false]at hx
     rcases hx with rfl|rfl|rfl
     .exact c4
     .exact Yo c1 c4
     .exact Nat.lt_of_le_of_lt c2 c4
   .have:=hp.length_eq;simp only[W1]at this;simp[sizeOk,this,hz]
  .rename_i hd;have hd:¬(!t.plain&&decide (es.size > 1))=true:=hd;have hp:t.plain=true\/es.size<=1:=by
    cases e:t.plain with
    |true=>exact .inl rfl
    |false=>
     right
     rw[e]at hd;simp at hd;omega
   refine Si (Sk (fin _ s.heap s.drawn (λ_ _ e=>e) (Yd _) λI h' a b c1 c2 c3 c4 k=>⟨_,List.Perm.refl _,⟨[I,D],_,λA' hA=>zR (Yg c1) g hb hp hA,⟨Yh _,a,b⟩,?_,by simp,?_,c2⟩⟩))
   .intro x hx;simp only[Wn,WB,or_false]at hx
    rcases hx with rfl|rfl
    .exact .inr c2
    .exact .inl rfl
   .intro x hx;simp only[Wn,WB,or_false]at hx
    rcases hx with rfl|rfl
    .exact c4
    .exact Yo c1 c4
end
def xm:Vi (.type "set") "__len__"=pure (some (.builtin "set.__len__")):=by rw[Vr,Uu];kernel_rfl
section
def Da(ty:s.TypeIs (.ref D) "set")(q:Q false s):Sn (Su prog w) A (UL (.ref D)) Q E s:=by
 unfold UL;refine Si (UA ty xm ?_);generalize hx:("set.__len__":String)=x0
 wp_delta
 rw[show splitId x0=some ("set","__len__")from by subst hx;decide+kernel];subst hx;refine Si (Tq (T:="set") (b:=true) ty (by rw[VC];kernel_rfl) ?_);refine Vq (λz=>Sc z (by decide)) (λ_=>Vq (λ_=>?_) (λz=>Sc (by decide+kernel) z));exact Si (Um ty (Sk q))
abbrev nF:Obj:={cls:=.type "list",data:=.seq ([]:List Z0).toArray}
def v3(hh:A.handled=none)(hS:ik s.heap D es ep t)(g:SG (!w.params.followText "set-order") es.size t)(hz:es.size<=h9)(q:∀(vs:List Z0)(h':SD) d tk,vs.Perm (eK es)->(∀b o,s.heap.get? b=some o->h'.get? b=some o)->s.heap.objs.size<h'.objs.size->s.toks<=tk->Q vs {s with heap:=h',drawn:=d,toks:=tk}):Sn (Su prog w) A (collect (.ref D)) Q E s:=by
 have hlt:D<s.heap.objs.size:=let ⟨o,h1,_⟩:=hS;Sl h1;unfold collect;refine Si (UP (S6 F.entry_proto_collect ?_));rw[S4 F.plain_proto_collect _];show Sn _ A.in1 (newList [] >>= λl=>again (.builtin "list.__iadd__" ⟨[l,.ref D],[]⟩)) _ _ s;refine Si (Sz (Sk ⟨Uw F.plain_list_iadd _,S6 F.entry_list_iadd ?_⟩));rw[S4 F.plain_list_iadd _];have kp:∀b o,s.heap.get? b=some o->(s.heap.push nF).get? b=some o:=λb o e=>Sj _ e;have hS1:ik (s.heap.push nF) D es ep t:=hS.keep λo e=>kp D o e;have ty1:U9 {s with heap:=s.heap.push nF} (.ref D) "set":=let ⟨o,h1,h2,_⟩:=hS1;⟨o,h1,h2.1⟩;have gL:(s.heap.push nF).get? s.heap.objs.size=some nF:=Sm _ rfl;show Sn _ A.in1 (UM (.ref s.heap.objs.size) (.ref D) (.ref s.heap.objs.size)) _ _ _;unfold UM;refine Si (Um ty1 ?_);have n1:TF (.ref s.heap.objs.size) (.ref D)=false:=by simp[TF,Yl hlt]
 rw[R8 (by rw[n1];decide)];refine Si (C7 (s:={s with heap:=s.heap.push nF}) hS1 g hz λvs h' I d hp W k=>?_);obtain⟨fp,St,W,st,f1,f2,f3,f4⟩:=W.ex;have hvl:vs.length<=h9:=by
  have:=hp.length_eq;have e:(eK es).length=es.size:=by simp[eK]
  omega
 have nS:s.heap.objs.size∉fp:=λz=>by
  rcases f1 _ z with e|e
  .exact Yl hlt e
  .have e:(s.heap.push nF).objs.size<=s.heap.objs.size:=e;rw[SR]at e;exact Yk _ e
 have ty2:U9 {s with heap:=h',drawn:=d} (.ref D) "set":=let ⟨o,h1,h2,_⟩:=hS1;⟨o,k _ _ h1,h2.1⟩;refine Si (SE (Da ty2 ?_));have gL2:=k _ _ gL;refine Vq (λ_=>?_) (λz=>Sc (by decide+kernel) z);refine Si (TL (Si ?_));show Sn _ _ (updateSeq s.heap.objs.size (·.push .none) >>= λ_=>updateSeq s.heap.objs.size (·.pop)) _ _ _;refine Si (Vp gL2 rfl ?_);have gL3:=SJ (Tu (·.push SC)) gL2 rfl;refine Vp (hz:=by seq_fits) gL3 rfl ?_;have gL4:=SJ (Tu (·.pop)) gL3 rfl;have oth:∀b o,b≠s.heap.objs.size->h'.get? b=some o->((h'.update s.heap.objs.size (Tu (·.push SC))).update s.heap.objs.size (Tu (·.pop))).get? b=some o:=
  λb o hb e=>(SA _ _ (Ne.symm hb)).trans ((SA _ _ (Ne.symm hb)).trans e)
 refine Sk ⟨Uw F.plain_extend_loop _,codeAny_extend_loopS (A:=A) (W A.in1 hh).toS hvl _ nS _ vs.length 0 _ _ _ rfl (Yh _) ((W A.in1 hh).frame 0 _ _ st λb hb o e=>oth b o (λz=>nS (z▸hb)) e) gL4 (ItemsOf.nil _) λs2 acc c hm gA hacc=>?_⟩;show Sn _ A (load s.heap.objs.size >>= _) _ _ s2;refine Si (wpAny_load gA ?_);have ea:acc.toList=vs:=by
  apply Xe;intro i;rw[YY]
  by_cases hi:i<acc.size
  .have:=hacc.2 i acc[i] (YX hi);rw[YX hi,this]
  .rw[Y0 (by omega),WX (by have:=hacc.1;omega)]
 refine Sk ?_;rw[ea];obtain⟨h2,g2,d2,t2,o2⟩:=s2;obtain rfl:g2=s.gens:=hm.gens;obtain rfl:d2=d:=hm.drawn;obtain rfl:o2=s.os:=hm.os;refine q vs _ _ _ hp (λb o e=>?_) (Sl gA) ?_
 .have hb:b≠s.heap.objs.size:=Yg (Sl e);refine hm.heap b o (λz=>?_) (oth b o hb (k b o (kp b o e)))
  rcases Wn.mp z with z|z
  .exact hb z
  .have z:b=I:=Wu.mp z;have e2:(s.heap.push nF).objs.size<=I:=f4;rw[SR]at e2;exact Sc (Sl e) (by rw[z];exact Nat.not_lt.mpr (Nat.le_of_succ_le e2))
 .exact hm.toks
end
def jQ{prog:Ss}{w:World}{κ:Type}[DecidableEq κ](knd:KeyKind prog w κ)(h:SD)(D:Z1)(S:κ->Bool)(n:Nat):Prop:=
 ∃es ep t,ik h D es ep t/\ElemsOf knd es.toList/\(∀k,S k=true<->∃e∈es.toList,knd.is k e.2=true)/\es.size<scanBound/\SG (!w.params.followText "set-order") es.size t/\es.size=n
section
variable{prog:Ss}{w:World}{κ:Type}[DecidableEq κ]{knd:KeyKind prog w κ}{A:S5}{E:Sg}{s:So}
def jQ.congr{h:SD}{D:Z1}{S S':κ->Bool}{n n':Nat}(x:jQ knd h D S n)(e1:∀k,S k=S' k)(e2:n=n'):jQ knd h D S' n':=by obtain rfl:S=S':=funext e1;subst e2;exact x
theorem jQ.keep{h h':SD}{D:Z1}{S:κ->Bool}{n:Nat}(x:jQ knd h D S n)(k:∀o,h.get? D=some o->h'.get? D=some o):jQ knd h' D S n:=let ⟨es,ep,t,h1,r⟩:=x;⟨es,ep,t,h1.keep k,r⟩
def ik.put(x:ik h D es ep t)(es':Array (Int×Z0))(t':SetTable):ik (h.update D (Vm es' t')) D es' (ep+1) t':=by obtain⟨o,ho,hx,hd⟩:=x;have e:=SJ (Vm es' t') ho (by rw[putSet_of es' t' hd];rfl);rw[putSet_of es' t' hd]at e;exact⟨_,e,hx,rfl⟩
def Cp(x:ik s.heap D es ep t)(hz:es'.size<scanBound)(q:Q () {s with heap:=s.heap.update D (Vm es' t')}):Sn (Su prog w) A (storeSet D es' t') Q E s:=by obtain⟨o,ho,_,hd⟩:=x;exact wpAny_storeSet_of ho hd q (fits_of_scanBound hz)
def Qi{D:Z1}{S:κ->Bool}{n:Nat}{k:κ}{x:Z0}{Q:Bool->So->Prop}(hk:knd.is k x=true)(hx:x.scannable=true)(hS:jQ knd s.heap D S n)(hr:n+1<scanBound)(q:∀h',Td D s.heap h'->jQ knd h' D (λk'=>S k'||decide (k'=k)) (if S k then n else n+1)->Q (!S k) {s with heap:=h'}):Sn (Su prog w) A (setAddHashed D x (knd.hash k)) Q E s:=by
 obtain⟨es,ep,t,o1,he,hm,hb,g,rfl⟩:=hS;obtain⟨o,ho,hx1,hd⟩:=id o1;unfold setAddHashed setAddHashedIn;refine SE (Si (nU o1 g.fits ?_));dsimp only;rw[byScan_of hx hb he,R9 rfl];unfold setAddByScan;refine Si (Si (TL (Si (wpAny_setScan_of hk ho hd g.fits he ?_))));cases hr2:es.toList.findIdx? (λe=>knd.is k e.2)with
 |some j=>
  dsimp only;obtain⟨hj,pj,_⟩:=List.findIdx?_eq_some_iff_getElem.mp hr2;have hs:S k=true:=(hm k).mpr ⟨_,WV hj,pj⟩;refine Sk (Sk ?_);have z:=q s.heap (Heap.SameBut.refl D s.heap) ⟨es,ep,t,o1,he,λk'=>?_,hb,g,by rw[hs];rfl⟩
  .rw[hs]at z;exact z
  .rw[YN,decide_eq_true_eq,<-hm k'];exact⟨λy=>y.elim id (λe=>e▸hs),.inl⟩
 |none=>
  dsimp only;have hs:S k=false:=by
   cases y:S k with
   |false=>rfl
   |true=>
    obtain⟨e,a1,a2⟩:=(hm k).mp y;have:=List.findIdx?_eq_none_iff.mp hr2 e a1;rw[a2]at this;cases this
  have p1:=layNew_perm t es (knd.hash k) x;have g1:=g.lay (knd.hash k) x;generalize layNew t es (knd.hash k) x=L at p1 g1 ⊢;obtain⟨es1,t1,wd,gv⟩:=L;dsimp only at p1 g1 ⊢;rw[Y5]at p1;have he1:ElemsOf knd es1.toList:=(he.push hk hx).perm p1;have hm1:=mem_push_iff hk hm p1;have hz1:es1.size=es.size+1:=by have:=p1.length_eq;simpa using this
  refine wu ?_ ?_
  .intro Q' y;cases gv
   .exact Sk y
   .exact TL y
  have fin:∀t2,SG (!w.params.followText "set-order") es1.size t2->Sn (Su prog w) A (do
    storeSet D es1 t2
    if(!wd&&t2.tooFull)=true then do
       (match (relayAll t2 es1 (T5 es1.size)).2.2 with|true=>rule "set.scan.the-table-gave-way" |false=>pure ())
       storeSet D (relayAll t2 es1 (T5 es1.size)).1 (relayAll t2 es1 (T5 es1.size)).2.1
       pure (some true)
     else pure (some true)) (λr s'=>Sn (Su prog w) A (match r with|some added=>pure added|none=>setAddHashedIn D x (knd.hash k) 99999) Q E s') E s:=λt2 g2=>by
   refine Si (Cp o1 (by omega) ?_);have o2:=o1.put es1 t2;have b2:=SS s.heap D (Vm es1 t2);split
   .have p3:=relayAll_perm t2 es1 (T5 es1.size);have g3:=g2.relay (es:=es1) (T5 es1.size);generalize relayAll t2 es1 (T5 es1.size)=R at p3 g3 ⊢;obtain⟨es3,t3,gv3⟩:=R;dsimp only at p3 g3 ⊢;have hz3:es3.size=es1.size:=by have:=p3.length_eq;simpa using this
    refine wu ?_ ?_
    .intro Q' y;cases gv3
     .exact Sk y
     .exact TL y
    refine Si (Cp o2 (by omega) (Sk (Sk ?_)));have z:=q _ (b2.trans (SS _ D (Vm es3 t3))) ⟨es3,_,t3,o2.put es3 t3,he1.perm p3,λk'=>(hm1 k').trans ⟨λ⟨e,y1,y2⟩=>⟨e,p3.mem_iff.mpr y1,y2⟩,λ⟨e,y1,y2⟩=>⟨e,p3.mem_iff.mp y1,y2⟩⟩,by omega,g3,by rw[hs,hz3,hz1];rfl⟩;rw[hs]at z;exact z
   .refine Sk (Sk ?_);have z:=q _ b2 ⟨es1,_,t2,o2,he1,hm1,by omega,g2,by rw[hs,hz1];rfl⟩;rw[hs]at z;exact z
  split
  .refine Si ?_;rw[hashByValue_scannable 8 hx];refine Sk ?_;cases plainKind x with
   |true=>exact fin t1 g1
   |false=>exact fin _ (g1.plainOff false)
  .exact Si (Sk (fin t1 g1))
end
section
def El(prog:Ss)(w:World)(m:Z1->Prop)(h:SD)(k:List Int)(e:Int×Z0):Prop:= ∃a,m a/\e=(tupleKeyHash (UJ prog w) k,.ref a)/\IsTupleKey (UJ prog w) h k a
end
section
def Rm(mask n:Nat):Prop:=(mask=7\/mask=31\/mask=127\/mask=511)/\n*5<mask*3
structure ST(prog:Ss)(w:World)(m:Z1->Prop)(h:SD)(es:Array (Int×Z0))(t:SetTable):Prop where
 el:∀e∈es.toList,∃k,El prog w m h k e
 nd:es.toList.Pairwise λe e'=>∀k,El prog w m h k e->¬El prog w m h k e'
 tg:TGb es t
 led:t.led= !w.params.followText "set-order"
 rm:Rm t.mask es.size
end
end L2
namespace L2
open PySem PySem.Spec PyProof.Rows
section
variable{prog:Ss}{w:World}{A:S5}{R:Result->So->Prop}{I:Z1}{fp wr:List Z1}{G:Array UX->Array UX->Prop}{n:Nat}{Pt:Nat->Z0->Prop}{St:Nat->So->Prop}{κ:Type}[DecidableEq κ]{knd:KeyKind prog w κ}
def Af(W:WalksS prog w A.in1 I fp wr G n Pt St)(D:Z1)(hD:D∉fp)(val:Nat->κ)(hv:∀i v,Pt i v->knd.is (val i) v=true/\v.scannable=true)(hb:n+1<scanBound):∀k i s,n - i=k->i<=n->St i s->jQ knd s.heap D (λx=>decide (x∈cR val i)) (cR val i).length->(∀s2,Moved (D::wr) G s s2->jQ knd s2.heap D (λx=>decide (x∈cR val n)) (cR val n).length->R (.ok (.ret .none)) s2)->TN (Su prog w) A (.builtin "set.update.loop" ⟨[.ref D,.ref I],[]⟩) R s:=by
 have nW:D∉wr:=λz=>hD (W.sub _ z);have up:∀b∈wr,b∈D::wr:=λb z=>Wy _ z;have mv:∀{s s2:So}{S:κ->Bool}{m:Nat},Moved wr G s s2->jQ knd s.heap D S m->jQ knd s2.heap D S m:=λhm x=>x.keep λo e=>hm.heap D _ nW e;intro k
 induction k with
 |zero=>
  intro i s e1 e2 st hS hR;have e3:i=n:=by omega
  subst e3;refine S6 TH ?_;rw[S4 Ti _];refine Si (W.done s _ _ st λs2 hm=>?_);exact Sk (hR s2 (hm.mono up) (mv hm hS))
 |succ k ih=>
  intro i s e1 e2 st hS hR;have e3:i<n:=by omega
  refine S6 TH ?_;rw[S4 Ti _];refine Si (W.item i s _ _ e3 st λv s2 hp st2 hm=>?_);obtain⟨kv,sv⟩:=hv i v hp;have hS2:=mv hm hS;refine Si (SE ?_);unfold setAdd;refine SE (Si (knd.pyHash kv ?_));have room:(cR val i).length+1<scanBound:=by have:=kJ val i;omega
  refine Qi kv sv hS2 room λh2 sb hS3=>?_;have hS4:jQ knd h2 D (λx=>decide (x∈cR val (i+1))) (cR val (i+1)).length:=by
   refine hS3.congr (λx=>?_) ?_
   .show(decide (x∈cR val i)||decide (x=val i))=decide (x∈vU (cR val i) (val i))
    unfold vU
    by_cases m:val i∈cR val i
    .rw[R9 m]
     by_cases e:x=val i
     .subst e;rw[R6 m];simp
     .rw[R7 e,YL]
    .rw[R8 m,YF];simp
   .show(if decide (val i∈cR val i)=true then _ else _)=(vU (cR val i) (val i)).length;unfold vU
    by_cases m:val i∈cR val i
    .rw[R9 (R6 m),R9 m]
    .rw[R8 (by rw[R7 m];decide),R8 m,Wq];rfl
  refine Sk ⟨Uw Ti _,ih (i+1) _ (by omega) e3 (W.frame _ s2 _ _ st2 (Yj _) λb hb o e=>?_) hS4 λs3 hm3 hS5=>?_⟩
  .exact(sb.2 b (λz:b=D=>hD (z▸hb))).trans e
  .refine hR s3 (Moved.trans W.gtrans ((hm.mono up).then_heap (Yj _) λb o hb e=>?_) hm3) hS5;exact(sb.2 b (λz:b=D=>hb (by rw[z];exact Wv))).trans e
end
section
variable{prog:Ss}{w:World}{A:S5}{E:Sg}{s:So}{κ:Type}[DecidableEq κ]{knd:KeyKind prog w κ}
def Ad(a:Z0)(q:Q1 (.ref s.heap.objs.size) {s with heap:=s.heap.push (dW (!w.params.followText "set-order"))}):TN (Su prog w) A (.call (.builtin "set.__new__") ⟨[.type "set",a],[]⟩) (wants Q1 E) s:=by
 refine UC ?_;refine Si (T2 (F.newCall_set_1 a) (Sk ⟨Uw F.plain_set_new _,S6 F.entry_set_new ?_⟩));rw[S4 F.plain_set_new _];unfold Builtin.«set.__new__» Builtin.Frozenset.newClass;have hsub:=sub_set_self;obtain⟨hp,g,d,tk,os⟩:=s;dsimp only
 wp_walk
 refine Vf (Sk ?_);dsimp only;simp only[newObj];refine Si (wpAny_alloc (Sk (Sk q)))
def Ae{l:Z1}{its:Array Z0}{Q:Sg}(val:Nat->κ)(hh:A.handled=none)(hl:s.heap.IsList l its)(hv:∀i v,its[i]? =some v->knd.is (val i) v=true/\v.scannable=true)(hb:its.size+1<scanBound)(k:∀h2 tk,jQ knd h2 s.heap.objs.size (λx=>decide (x∈cR val its.size)) (cR val its.size).length->(∀b o,b<s.heap.objs.size->s.heap.get? b=some o->h2.get? b=some o)->Q (.ref s.heap.objs.size) {s with heap:=h2,toks:=tk}):Sn (Su prog w) A (call (.type "set") [.ref l]) Q E s:=by
 obtain⟨c0,tl0,hmro⟩:=F.called_set.mro;have hmade:=F.called_set.made;have hsub:=F.called_set.sub;have n1:=F.called_set.notType;have n2:=F.called_set.canCreate;have n3:=F.typeCall_set_1 (.ref l);refine Tr (UC ?_);show Sn _ _ (callAny (.type "set") _) _ _ _;refine Sk ⟨TR _ (by decide+kernel),S6 F.entry_type_call ?_⟩;rw[Around.under_plain (Vt "set" [.ref l] []) rfl]
 repeat (any_goals (first|assumption|wp_step))
 refine S7 (Ad (.ref l) (E:=E) (Q1:=λo s1=>o=.ref s.heap.objs.size/\s1={s with heap:=s.heap.push (dW (!w.params.followText "set-order"))}) ⟨rfl,rfl⟩) λr s1 hr=>?_;cases r with
 |error e=>exact hr
 |ok fl=>
  cases fl with
  |ret ob=>
   obtain⟨rfl,rfl⟩:=hr;generalize hld:(!w.params.followText "set-order")=led;have g0:(s.heap.push (dW led)).get? s.heap.objs.size=some (dW led):=Sm _ rfl;have ty:U9 {s with heap:=s.heap.push (dW led)} (.ref s.heap.objs.size) "set":=⟨_,g0,rfl⟩;have m1:=F.called_set.init.lookup;have m2:=F.called_set.init.bind (.ref s.heap.objs.size)
   repeat (any_goals (first|assumption|wp_step))
   refine S7 (Th (R:=wants (λr s2=>r=.none/\∃h2 tk,s2={s with heap:=h2,toks:=tk}/\jQ knd h2 s.heap.objs.size (λx=>decide (x∈cR val its.size)) (cR val its.size).length/\
     (∀b o,b<s.heap.objs.size->s.heap.get? b=some o->h2.get? b=some o)) E) F.called_set.init.plain F.entry_set_init (check_set_init_1 ty ?_)) λr2 s2 hr2=>?_
   .obtain⟨⟨oc,od,oda,osl⟩,ho,hc,nl,hd⟩:=hl;simp only at hc hd;subst hc;subst hd;have hol:(s.heap.push (dW led)).get? l=some {cls:=.type "list",dict:=od,data:=.seq its nl,slots:=osl}:=Sj _ ho;have b1:=F.sub_list_set;have b2:=F.sub_list_frozenset;have b3:(UV "list" == UV "dict")=false:=by decide
    have hl1:(s.heap.push (dW led)).IsList l its:=⟨_,hol,rfl,nl,rfl⟩;unfold Builtin.«set.__init__» noKeywords UF;generalize hPI:pyIter=PI
    wp_walk
    subst hPI;refine Tn hl1 (Si (UP ?_));have hlt:l<s.heap.objs.size:=Sl ho;have h3:A.in1.in1.in1.handled=none:=by simp[hh]
    have sz:(s.heap.push (dW led)).objs.size=s.heap.objs.size+1:=SR ..;have ne1:l≠(s.heap.push (dW led)).objs.size:=by rw[sz];exact Yg (Yp hlt)
    have ne2:s.heap.objs.size∉[(s.heap.push (dW led)).objs.size,l]:=by
     rw[sz];intro z
     rcases Wn.mp z with z|z
     .exact Ys _ z.symm
     .exact Yl hlt (Wu.mp z)
    refine Af (knd:=knd) ((VU h3 _ l ne1 its).toS) s.heap.objs.size ne2 val hv hb (its.size - 0) 0 _ (by omega) (Yh _) ⟨⟨_,Sm _ rfl,rfl,rfl⟩,(hl1.push _)⟩ ?_ (λs3 hm hS3=>?_)
    .refine⟨#[],0,.fresh 0 0 led,⟨_,Sj _ g0,⟨rfl,rfl,rfl⟩,rfl⟩,λe he=>by simp at he,λx=>?_,by show(0:Nat)<scanBound;decide,by rw[hld];exact SG.fresh led,rfl⟩;show decide (x∈([]:List κ))=true<->_;simp
    .obtain⟨hh3,gg3,dd3,tk3,os3⟩:=s3;obtain rfl:gg3=s.gens:=hm.gens;obtain rfl:dd3=s.drawn:=hm.drawn;obtain rfl:os3=s.os:=hm.os;show Sn _ _ _ _ _ _;refine Sk ?_;show Sn _ _ (ret SC) _ _ _;refine Sk ⟨rfl,hh3,tk3,rfl,hS3,λb o hb2 e=>?_⟩;refine hm.heap b o ?_ (Sj _ (Sj _ e));rw[sz];intro z
     rcases Wn.mp z with z|z
     .exact Yg hb2 z
     .exact Yg (Yp hb2) (Wu.mp z)
   .cases r2 with
    |error e=>exact hr2
    |ok fl2=>
     cases fl2 with
     |ret r3=>
      obtain⟨rfl,h2,tk,rfl,hS2,kp⟩:=hr2
      repeat (any_goals (first|assumption|wp_step))
      exact k _ _ hS2 kp
     |_=>exact hr2.elim
  |_=>exact hr.elim
end
end L2
namespace L2
open PySem PySem.W PyProof.Rows
structure RM(n:Nat)(lt:Nat->Nat->Bool):Prop where
 tr:∀a b c,a<n->b<n->c<n->lt a b=true->lt b c=true->lt a c=true
 as:∀a b,a<n->b<n->lt a b=true->lt b a=false
 tt:∀a b,a<n->b<n->a≠b->lt a b=false->lt b a=true
section
variable{n:Nat}{lt:Nat->Nat->Bool}{s:So}{cmp:Nat->Nat->(Bool->So->Prop)->So->Prop}(O:RM n lt)(hc:∀i j(C:Bool->So->Prop),i<n->j<n->C (lt i j) s->cmp i j C s)
include O hc
omit O hc in
def Rv{p q:Array Nat}{n:Nat}(h:p.toList.Perm (List.range n))(e:q.Perm p):q.toList.Perm (List.range n):=(Array.perm_iff_toList_perm.mp e).trans h
end
end L2
namespace L2
open PySem PySem.Spec PyProof.Rows
theorem sR{κ:Type}[DecidableEq κ]:∀{l ns:List κ},l.Nodup->(∀k∈l,k∈ns)->ns.length=l.length->ns.Perm l
 | [],ns,_,_,h=>by have:ns=[]:=W6.mp h;rw[this]
 |a::l,ns,nd,h,hl=>by
  obtain⟨n1,n2⟩:=W2.mp nd;have ha:=h a (by simp);have hp:=List.perm_cons_erase ha;have hl2:=hp.length_eq;refine hp.trans (List.Perm.cons _ (sR n2 (λk hk=>?_) ?_))
  .have hne:k≠a:=λe=>n1 (e▸hk);exact(X4 hne).mpr (h k (Wy _ hk))
  .simp only[Wx]at hl hl2;omega
theorem yU{κ:Type}[DecidableEq κ](val:Nat->κ):∀i,(cR val i).Nodup
 |0=>by simp[cR]
 |i+1=>by
  have ih:=yU val i;show(vU (cR val i) (val i)).Nodup;unfold vU
  by_cases h:val i∈cR val i
  .rw[R9 h];exact ih
  .rw[R8 h,Xg];refine⟨ih,by simp,λa ha b hb e=>h ?_⟩;have:b=val i:=by simpa using hb
   rw[<-this,<-e];exact ha
section
def uP(hh:A.handled=none)(hS:jQ (UJ prog w) s.heap D (λx=>decide (x∈l)) l.length)(hn:l.Nodup)(h64:l.length<64)(q:∀(out:Array Z0)(ns':List Int)(h':SD)(p:Z1) e d tk,IntsAre out.toList ns'->ns'.Perm l->ns'.Pairwise (·<=·)->(∀b o,s.heap.get? b=some o->h'.get? b=some o)->s.heap.objs.size<=p->h'.get? p=some (Wg "list" out e)->s.toks<=tk->Q (.ref p) {s with heap:=h',drawn:=d,toks:=tk}):Sn (Su prog w) A (call (.builtin "sorted") [.ref D]) Q E s:=by
 obtain⟨es,ep,t,o1,he,hm,hb,g,hz⟩:=hS;refine Calls.call_function_entry kind_sorted plain_sorted entry_sorted (args_sorted1 _) ?_;unfold Builtin.«sorted»;refine Si (Sk ?_);refine Si (v3 (by exact hh) o1 g (fits_of_scanBound hb) λvs h1 d1 tk1 hp k1 hsz ht1=>?_);have hvl:vs.length=l.length:=by
  have e1:=hp.length_eq;have e2:(eK es).length=es.size:=by simp[eK]
  omega
 have hi:∀v∈vs,∃i t,v=UO i t:=λv hv=>by
  have hv:=hp.mem_iff.mp hv;obtain⟨e,h1,rfl⟩:=Wo.mp hv;obtain⟨⟨k,h2,_⟩,_⟩:=he e h1;cases h:e.2 with
  |int i t=>exact⟨i,t,rfl⟩
  |_=>rw[h]at h2;simp[UJ,VE]at h2
 obtain⟨ns,hI⟩:∃ns,IntsAre vs ns:=by
  clear hp hvl
  induction vs with
  |nil=>exact⟨[],.nil⟩
  |cons v vs ih=>
   obtain⟨i,t,rfl⟩:=hi v (by simp);obtain⟨ns,h⟩:=ih (λv hv=>hi v (Wy _ hv));exact⟨i::ns,.cons i t h⟩
 have hmem:∀k∈l,k∈ns:=λk hk=>by
  obtain⟨e,h1,h2⟩:=(hm k).mp (R6 hk);have hv:=hp.mem_iff.mpr (Wo.mpr ⟨e,h1,rfl⟩);have:∀{vs:List Z0}{ns:List Int},IntsAre vs ns->e.2∈vs->k∈ns:=λh=>by
   induction h with
   |nil=>intro z;cases z
   |cons n t h ih=>
    intro z
    rcases Wn.mp z with z|z
    .rw[z]at h2;have:n=k:=by simpa[UJ,VE]using h2
     rw[this];exact Wv
    .exact Wy _ (ih z)
  exact this hI hv
 have hnl:ns.length=l.length:=by
  have:∀{vs:List Z0}{ns:List Int},IntsAre vs ns->vs.length=ns.length:=λh=>by
   induction h with
   |nil=>rfl
   |cons n t h ih=>simp[ih]
  have:=this hI;omega
 have hpn:=sR hn hmem hnl;refine Si (wpAny_newList ?_);have gL:(h1.push (Wg "list" vs.toArray 0)).get? h1.objs.size=some (Wg "list" vs.toArray 0):=Sm _ rfl;refine Si (SE (SK slot_list_sort ⟨_,gL,rfl⟩ entry_list_sort (list_sort_tree gL hI (by omega) λout ns' a1 a2 a3=>⟨_,rfl,?_⟩) (args_list_sort _)));have gk:∀b o,h1.get? b=some o->(sortedHeap (h1.push (Wg "list" vs.toArray 0)) h1.objs.size vs out).get? b=some o:=λb o e=>by have hlt:=Sl e;rw[sortedHeap_old (Yg hlt) (by rw[SR];exact Yp hlt)];exact Sj _ e
 obtain⟨e2,he2⟩:=sortedHeap_at gL;exact Sk ⟨_,rfl,q out ns' _ _ e2 _ _ a1 (a2.trans hpn) a3 (λb o e=>gk b o (k1 b o e)) (Yq hsz) he2 ht1⟩
end
def wo(ns:List Int):List Int:=cR (λi=>ns.getD i 0) ns.length
def yV:x∈wo ns<->x∈ns:=by unfold wo;rw[px,oU]
def wm(ns:List Int):(wo ns).Nodup:=yU _ _
def BD(ns:List Int):(wo ns).length<=ns.length:=kJ _ _
def aT.drawn{X:Cx}{R1:Sh}{σ:St}{H:Hp}{s:So}(I:aT X R1 σ H s)(d:Drawn):aT X R1 σ H {s with drawn:=d}:=by cases I;constructor<;>assumption
section
variable{X:Cx}
def B5(P:Ss)(w:World)(K:Frag)(xs:List V)(H:Hp)(Q:VK):Prop:= ∃d ns,xs=[.ref d]/\aV K H d (ns.map V.int)/\ns.length+1<scanBound/\∀q,H q=none->Q (.ref q) (upd H q (.ext λh=>jQ (UJ P w) h q (λx=>decide (x∈wo ns)) (wo ns).length))
def wG(P:Ss)(w:World)(xs:List V)(H:Hp)(Q:VK):Prop:= ∃d l,xs=[.ref d]/\H d=some (.ext λh=>jQ (UJ P w) h d (λx=>decide (x∈l)) l.length)/\l.Nodup/\l.length<64/\∀(ns':List Int) q,ns'.Perm l->ns'.Pairwise (·<=·)->H q=none->Q (.ref q) (upd H q (.lst (ns'.map V.int)))
def xI(hh:X.A.handled=none):bQ X (.type "set") (B5 X.prog X.w X.K):=by
 intro R1 s σ H xs us Q I r h;obtain⟨d,ns,rfl,hq,hb,q⟩:=h;obtain⟨u,rfl,rx⟩:=eZ r;cases rx;obtain⟨its,r',pl,hz⟩:=I.list hq;have hlen:=r'.length;rw[Wm]at hlen;have hs:its.toArray.size=ns.length:=by rw[Wt,<-hlen]
 refine Ae (knd:=UJ X.prog X.w) (λi=>ns.getD i 0) hh pl.isList (λi v hv=>?_) (by rw[hs];exact hb) λh2 tk hS kp=>?_
 .rw[XB]at hv;have hi:i<its.length:=(Wz.mp hv).1;have hx:(ns.map V.int)[i]? =some (.int (ns.getD i 0)):=by rw[Wr,WD,Wp (by omega)];rfl
  obtain⟨u,hu,ru⟩:=r'.get hx;rw[hv]at hu;cases hu;obtain⟨t,rfl⟩:=ru;exact⟨intKind_is _ _ _ _,rfl⟩
 .rw[hs]at hS;have k2:∀b u,s.heap.get? b=some u->h2.get? b=some u:=λb u e=>kp b u (Sl e) e;have ho:∃o,h2.get? s.heap.objs.size=some o:=let ⟨_,_,_,⟨o,h1,_⟩,_⟩:=hS;⟨o,h1⟩;exact⟨.ref s.heap.objs.size,_,I.laid (t':=tk) k2 (Yd _) (show cb X.prog X.w _ h2 _ (.ext _)from⟨hS,ho,λh1 h2 e k=>e.keep k⟩),rfl,q _ (I.hok.fresh (Yd _))⟩
def v6(hh:X.A.handled=none):bQ X (.builtin "sorted") (wG X.prog X.w):=by
 intro R1 s σ H xs us Q I r h;obtain⟨d,l,rfl,hd,hn,h64,q⟩:=h;obtain⟨u,rfl,rx⟩:=eZ r;cases rx;obtain⟨p,_,_⟩:=(show cb X.prog X.w H s.heap d (.ext _)from I.hok d _ hd);refine uP hh p hn h64 λout ns' h2 a e dr tk a1 a2 a3 k2 hle ha ht=>?_;have hl:=a2.length_eq;have hz':(ns'.map V.int).length<=h9:=by rw[Wm,hl,Sw];omega
 exact⟨.ref a,_,(I.drawn dr).laid k2 hle (show cb X.prog X.w _ h2 _ (.lst (ns'.map V.int))from⟨hz',out.toList,e,kC a1,by simpa[Wg]using ha⟩),rfl,q ns' _ a2 a3 (I.hok.fresh hle)⟩
def PC(P:Ss)(w:World)(K:Frag)(hr:eG j X.A)(hP:X.prog=P:=by rfl)(hw:X.w=w:=by rfl)(hK:X.K=K:=by rfl):bQ X (.type "set") (B5 P w K):=by subst hP hw hK;exact xI hr.hd
def LC(P:Ss)(w:World)(hr:eG j X.A)(hP:X.prog=P:=by rfl)(hw:X.w=w:=by rfl):bQ X (.builtin "sorted") (wG P w):=by subst hP hw;exact v6 hr.hd
end
section
variable{P:Ss}{w:World}{K:Frag}{H:Hp}{Q:VK}
def Ac(hd:aV K H d (ns.map V.int))(hl:ns.length<=1000)(h64:(wo ns).length<64)(q:∀(ns':List Int) q H',ns'.Perm (wo ns)->ns'.Pairwise (·<=·)->H q=none->ak H H'->H' q=some (.lst (ns'.map V.int))->Q (.ref q) H'):B5 P w K [.ref d] H λu H2=>wG P w [u] H2 Q:=by refine⟨d,ns,rfl,hd,by show ns.length+1<4096;omega,λp hp=>⟨p,wo ns,rfl,aj,wm ns,h64,λns' r a1 a2 hr=>?_⟩⟩;have s1:ak H (upd H p (.ext λh=>jQ (UJ P w) h p (λx=>decide (x∈wo ns)) (wo ns).length)):=(ak.refl H).upd hp;exact q ns' r _ a1 a2 (s1.free hr) (s1.upd hr) aj
end
def nH(hu:X.A.units+20<Tz)(ho:PE X o td)(hi:PE X i ty)(hs:FO i:=by exact λ_ _=>rfl):PE X (.Subscript o i pos) (BL td ty):=ER (by omega) ho hi hs
section
def pk(x:Int×Int):List Int:=[x.1,x.2]
end
def x9(hc:Tv t σ H b)(h1:b=true->ta σ H Q)(h2:b=false->tb σ H Q):MI t ta tb σ H Q:=hc _ (by
 cases b with
 |true=>exact jG (h1 rfl)
 |false=>exact km (h2 rfl))
structure dI where
 kd:Str
 so:Str
 ai:Str
 ax:Int
 up:Int
abbrev dI.vs(r:dI):List V:=[.str r.kd,.str r.so,.str r.ai,.int r.ax,.int r.up]
def ic(H:Hp)(us:List (dI×Z1)):Prop:= ∀z∈us,H z.2=some (.tup z.1.vs)
def ic.same(h:ic H us)(s:ak H H'):ic H' us:=λz hz=>s _ _ (h z hz)
abbrev gx(us:List (dI×Z1)):List V:=us.map λz=>V.ref z.2
structure jY(H:Hp)(d:Z1)(ks:List Nat):Prop where
 at_:H d=some (.lst (ks.map iw))
 ltr:∀k∈ks,Ltr k
 l1:1<=ks.length
 l6:ks.length<=6
 nd:ks.Nodup
def jY.same(h:jY H d ks)(s:ak H H'):jY H' d ks:=⟨s _ _ h.at_,h.ltr,h.l1,h.l6,h.nd⟩
def yH{ss:List Str}{i:Int}(h0:0<=i)(h1:i<ss.length):∃s,oh (ss.map V.str) i=some (.str s)/\s∈ss:=by obtain⟨v,e1,e2⟩:=Cw (xs:=ss.map V.str) h0 (by rw[Wm];exact h1);obtain⟨s,hs,rfl⟩:=Wo.mp e2;exact⟨s,e1,hs⟩
def jY.pick(h:jY H d ks)(i:Int):∃k∈ks,oh (ks.map iw) (i % ((ks.map iw).length:Int))=some (iw k):=by
 have hl:(0:Int)<((ks.map iw).length:Int):=by rw[Wm];have:=h.l1;omega
 obtain⟨v,e1,e2⟩:=Cw (Yx i (by omega)) (Yy i hl);obtain⟨k,hk,rfl⟩:=Wo.mp e2;exact⟨k,hk,e1⟩
def zW(q:t σ H (λvs H2=>vs.length<=h9/\∀p,H2 p=none->Q (.ref p) (upd H2 p (.tup vs)))):zX t σ H Q:=q
structure mK(ks:List Nat)(u:dI):Prop where
 kd:∃c∈ks,u.kd=one c
 so:u.so∈sortsL
 ai:u.ai∈aimsL
 jh:u.so="jump"->u.ai="hit"
 ax: -(if u.so="leap"then 3 else 1)<=u.ax/\u.ax<=(if u.so="leap"then 3 else 1)
 up: -(if u.so="leap"then 3 else 1)<=u.up/\u.up<=(if u.so="leap"then 3 else 1)
 n0:¬(u.ax=0/\u.up=0)
def yr:Sp:=λvs H Q _=>∃c d ks,vs=[.int c,.ref d]/\jY H d ks/\∀t u H',mK ks u->H t=none->H' t=some (.tup u.vs)->ak H H'->Q (.ref t) H'
def rz{ta:TA}{te:TE}{src:List (Option Nat)}{σ rest:St}{H:Hp}{Q:VK}{n:Int}(hl:∀Q':List V->Hp->Prop,(∀H',ak H H'->Q' [.int n] H')->ta σ H Q')(h0:0<=n)(h1:n<=1000)(hs:gK src σ=none::rest)(R:Nat->Hp->V->Prop)(hR:∀i H H' v,R i H v->ak H H'->R i H' v)(he:∀(i:Nat) H',i<n.toNat->ak H H'->∀Q:VK,(∀v H2,R i H2 v->ak H' H2->Q v H2)->te (some (.int (0+(i:Int)))::rest) H' Q)(q:∀d H' ys,ak H H'->H' d=none->ys.length=n.toNat->(∀i y,ys[i]? =some y->R i H' y)->Q (.ref d) (upd H' d (.lst ys))):tComp (pJ ta) (gName 0) gJ te src σ H Q:=by
 refine hl _ λH0 s0=>⟨n,rfl,by omega,by omega,?_⟩;refine iF n.toNat (λi ys σ' H'=>ak H H'/\(∃v,σ'=v::rest)/\ys.length=i/\∀j y,ys[j]? =some y->R j H' y) (by rw[Sw];omega)
  (λi ys σ H h=>Ym h.2.2.1) (λi ys σ H _ hi=>hi) (λys σ H _=>Yd _) ⟨s0,⟨none,hs⟩,rfl,λj y hy=>by simp at hy⟩ ?_ ?_
 .rintro i ys _ H1 x H2 hi ⟨s1,⟨v0,rfl⟩,hl,hy⟩ ⟨rfl,rfl⟩ Kt Kf ht hf;simp only[gName,gJ,W4,if_true];exact(he i _ hi s1 _ λv H2 rv s2=>ht _ _ _ ⟨s1.trans s2,⟨_,rfl⟩,by rw[Wq,hl];rfl,λj y hm=>by
   by_cases hj:j<ys.length
   .rw[W3 hj]at hm;exact hR _ _ _ _ (hy j y hm) s2
   .rw[Xb (by omega)]at hm;have e0:j - ys.length=0:=by have:=(Wz.mp hm).1;simp at this;exact this
    rw[e0]at hm;have:v=y:=by simpa using hm
    subst this;have:j=i:=by omega
    subst this;exact rv⟩)
 .rintro ys _ H1 dd ⟨s1,_,hl,hy⟩ hd;exact q dd H1 ys s1 hd hl hy
def gZ(H:Hp)(zs:List ((Str×Str)×Z1)):Prop:= ∀z∈zs,H z.2=some (.tup [.str z.1.1,.str z.1.2])
def gZ.same(h:gZ H zs)(s:ak H H'):gZ H' zs:=λz hz=>s _ _ (h z hz)
abbrev dn(zs:List ((Str×Str)×Z1)):List V:=zs.map λz=>V.ref z.2
structure D8(ks:List Nat)(zs:List ((Str×Str)×Z1)):Prop where
 len:zs.length<=6
 kd:∀z∈zs,(∃a∈ks,z.1.1=one a)/\∃b∈ks,z.1.2=one b
 nd:(zs.map λz=>z.1.1).Nodup
 ap:∀z∈zs,∀y∈zs,¬z.1.2=y.1.1
def yR(h:one a=one b):a=b:=by unfold one at h;simp only[Str.mk.injEq]at h;have:=Se Array.toList h;simpa using this
theorem yF(F:Nat->Str×Str):∀ys o,(∀i y,ys[i]? =some y->∃a,y=.ref a/\H a=some (.tup [.str (F (o+i)).1,.str (F (o+i)).2]))->∃zs:List ((Str×Str)×Z1),ys=dn zs/\gZ H zs/\zs.length=ys.length/\∀i z,zs[i]? =some z->z.1=F (o+i)
 | [],o,_=>⟨[],rfl,λ_ z=>(nomatch z),rfl,λi z h=>by simp at h⟩
 |y::ys,o,h=>by
  obtain⟨a,rfl,ha⟩:=h 0 y rfl;obtain⟨zs,rfl,h1,h2,h3⟩:=yF F ys (o+1) λi y hy=>by obtain⟨a,e1,e2⟩:=h (i+1) y (by simpa using hy);exact⟨a,e1,by rw[show o+1+i=o+(i+1) by omega];exact e2⟩
  refine⟨(F o,a)::zs,rfl,λz hz=>?_,by simp,λi z hz=>?_⟩
  .rcases Wn.mp hz with rfl|hz
   .exact ha
   .exact h1 z hz
  .cases i with
   |zero=>
    have:(F o,a)=z:=by simpa using hz
    rw[<-this];rfl
   |succ i=>
    rw[h3 i z (by simpa using hz),show o+1+i=o+(i+1) by omega]
theorem fC.imp{P:Ss}{w:World}{K:Frag}{mg:Sf}{R4:SD}{name:Str}{ps:List Str}{k:Nat}{sp sp':Sp}(C:fC P w K mg R4 name ps k sp)(h:∀vs H Q E,sp' vs H Q E->sp vs H Q E):fC P w K mg R4 name ps k sp':=by obtain⟨f,fd,F,a,b,c⟩:=C.ex;exact⟨f,fd,F.imp h,a,b,c⟩
def Mr{P:Ss}{w:World}{K:Frag}{mg:Sf}{R4:SD}(C:fC P w K mg R4 "is_among" ["thing","least","most"] 2 lV):fC P w K mg R4 "is_among" ["thing","least","most"] 2 JX:=fC.imp C λvs H Q E h=>by obtain⟨t,a,b,rfl,q⟩:=h;exact⟨.int t,a,b,rfl,trivial,q⟩
def iX(h:H a=some (.lst xs)):lstOf H (.ref a)=some xs:=by simp only[lstOf,h]
def rP(h:H a=some (.tup xs)):tupOf H (.ref a)=some xs:=by simp only[tupOf,h]
def CI(a:Nat):(one a).length<=1000:=by show 1<=1000;decide
def KL(h:s∈sortsL):s.length<=1000:=(by decide:∀s∈sortsL,s.length<=1000) s h
def Ms(h:s∈aimsL):s.length<=1000:=(by decide:∀s∈aimsL,s.length<=1000) s h
def Rq(h:H d=some (.lst (gx us)))(R:ic H us)(g:∀z∈us,mK ks z.1):fB H 2 (.ref d):=by
 refine jX.n (jX.lst h λx hx=>?_);obtain⟨z,hz,rfl⟩:=Wo.mp hx;refine jX.tup (R z hz) λy hy=>?_;obtain⟨c,_,e⟩:=(g z hz).kd;simp only[dI.vs,Wn,WB,or_false]at hy
 rcases hy with rfl|rfl|rfl|rfl|rfl
 .exact jX.flat (show z.1.kd.length<=1000 by rw[e];exact CI c) rfl
 .exact jX.flat (KL (g z hz).so) rfl
 .exact jX.flat (Ms (g z hz).ai) rfl
 .exact jX.flat trivial rfl
 .exact jX.flat trivial rfl
def Cs(h:H d=some (.lst (dn zs)))(R:gZ H zs)(g:∀z∈zs,z.1.1.length<=1000/\z.1.2.length<=1000):fB H 2 (.ref d):=by
 refine jX.n (jX.lst h λx hx=>?_);obtain⟨z,hz,rfl⟩:=Wo.mp hx;refine jX.tup (R z hz) λy hy=>?_;simp only[Wn,WB,or_false]at hy
 rcases hy with rfl|rfl
 .exact jX.flat (g z hz).1 rfl
 .exact jX.flat (g z hz).2 rfl
theorem vy{α:Type}[DecidableEq α]:∀{m C:List α},m.Nodup->(∀x∈m,x∈C)->m.length<=C.length
 | [],_,_,_=>Yh _
 |x::m,C,nd,h=>by obtain⟨n1,n2⟩:=W2.mp nd;have hx:=h x Wv;have z:=vy (C:=C.erase x) n2 (λy hy=>(X4 (a:=y) (b:=x) (λe=>n1 (by rw[<-e];exact hy))).mpr (h y (Wy _ hy)));rw[List.length_erase_of_mem hx]at z;have:0<C.length:=List.length_pos_of_mem hx;rw[Wx];omega
section
variable{K:Frag}{σ:St}{H:Hp}{ta tb te:TE}
def xF(h:ta σ H λx H1=>tb σ H1 λy H2=>bT K op x y H2 (ib R)):iG (eP K op ta tb) σ H R:=h
end
def FA{K:Frag}{H:Hp}{n:Nat}{a b:Z1}(ha:H a=some (.lst []))(hb:H b=some (.lst [])):uw K H (n+1) (.ref a) (.ref b) true:=by have z:=uw.lst (n:=n) (es:=λ_=>true) (aV.of (K:=K) ha) (aV.of hb) rfl (λi x y hx=>by simp at hx);exact z
def Mg(h:Av t σ H vs)(q:sp vs H (ib λc H1=>R (!c) H1) E0):uE (iG (ia sp t)) σ H R:=h _ q
def cr(h:te σ H D.rt):jx te D σ H:=h
def tk3(s:Int)(x:Int×Int):List Int:=[s,x.1,x.2]
def Dl{K:Frag}{tl:TE}{g:TG}{tb:TS}{D:j6}{σ:St}{H:Hp}(P:V->Hp->Prop)(htl:∀Q:VK,(∀v H',P v H'->Q v H')->tl σ H Q)(h:∀v H',P v H'->∃d xs,v=.ref d/\dU K H' d xs/\∃Pv:Nat->St->Hp->Prop,Pv 0 σ H'/\(∀i σ H,i<=xs.length->Pv i σ H->dU K H d xs)/\
   (∀(i:Nat) x σ H,xs[i]? =some x->Pv i σ H->g x σ H λσ2 H2=>tb {D with nx:=Pv (i+1),ct:=Pv (i+1),bk:=D.nx} σ2 H2)/\(∀σ H,Pv xs.length σ H->D.nx σ H)):tFor (LU K tl) g tb D σ H:=
 htl _ λv H' p=>by obtain⟨d,xs,rfl,hq,Pv,a,b,c,e⟩:=h v H' p;exact⟨d,rfl,⟨xs,hq⟩,Fn Pv a b c e⟩
def Me{K:Frag}{op:CmpOp}{ta tb:TE}{σ:St}{H:Hp}{Q:VK}(h:ta σ H λx H1=>tb σ H1 λy H2=>bT K op x y H2 Q):eP K op ta tb σ H Q:=h
def DR(h:t σ H λvs H1=>sp vs H1 Q E0):ia sp t σ H Q:=h
def P8(xs:List V):cutV xs none (some 1)=xs.take 1:=by
 unfold cutV;rw[HT.sIx_none];have:HT.sIx xs.length xs.length (some 1)=min 1 xs.length:=HT.sIx_nat _ _ 1;rw[this,Xd,Yv];cases xs with
 |nil=>rfl
 |cons a l=>simp
def AZ{tl te:TE}{tt:TT}{src:List (Option Nat)}{σ rest:St}{H:Hp}{Q:VK}{z:Str}(hl:Ev tl σ H (.str z))(hz:z.length<=1000)(hs:gK src σ=none::rest)(p:Nat->Bool)(f:Nat->V)(ht:∀c H',c∈z.cps.toList->ak H H'->∀R:Bool->Hp->Prop,(∀H'',ak H' H''->R (p c) H'')->tt (some (.str (one c))::rest) H' R)(he:∀c H',c∈z.cps.toList->p c=true->ak H H'->Ev te (some (.str (one c))::rest) H' (f c))(q:∀H' d,ak H H'->H' d=none->Q (.ref d) (upd H' d (.lst ((z.cps.toList.filter p).map f)))):tComp (Fd tl) (gName 0) tt te src σ H Q:=by
 refine hl _ ?_;have zl:z.length=z.cps.toList.length:=rfl;refine iF z.length (λi ys σ' H'=>ak H H'/\(∃o0,σ'=o0::rest)/\ys=((z.cps.toList.take i).filter p).map f) (Ye hz (by decide)) (λi ys σ H h=>?_) (λi ys σ H h hi=>hi) (λys σ H h=>Yd _) ⟨ak.refl H,⟨_,hs⟩,rfl⟩ ?_ ?_
 .rw[h.2.2,Wm];refine Ye (WW _ _) ?_;rw[WJ];exact Nat.min_le_left _ _
 .rintro i ys _ H1 x H2 hi ⟨s1,⟨o0,rfl⟩,rfl⟩ ⟨rfl,c,hc,rfl⟩ Kt Kf kt kf;have hi':i<z.cps.toList.length:=by rw[<-zl];exact hi
  have ec:z.cps.toList[i]=c:=by rw[Wp hi']at hc;exact Sd hc
  have tk:z.cps.toList.take (i+1)=z.cps.toList.take i++[c]:=by rw[List.take_succ_eq_append_getElem hi',ec]
  have hm:=Ww hc;refine ht c _ hm s1 _ (λH3 s3=>?_);cases hp:p c with
  |true=>
   refine jG (he c _ hm hp (s1.trans s3) _ (kt _ _ _ ⟨s1.trans s3,⟨_,rfl⟩,?_⟩));rw[tk,WY,WA,WR,R9 hp];rfl
  |false=>
   refine km (kf _ _ ⟨s1.trans s3,⟨_,rfl⟩,?_⟩);rw[tk,WY,WA,WR,R8 (by rw[hp];decide)];simp
 .rintro ys σ' H' d ⟨s1,_,rfl⟩ hd;rw[zl,W7];exact q H' d s1 hd
def ou{K:Frag}{H:Hp}{n:Nat}{a b:Z1}{xs:List V}(ha:H a=some (.lst xs))(hb:H b=some (.lst [])):uw K H (n+1) (.ref a) (.ref b) (decide (xs=[])):=by
 cases xs with
 |nil=>exact FA ha hb
 |cons x xs=>exact uw.len (aV.of ha) (aV.of hb) (by simp)
section
variable{K:Frag}{σ:St}{H:Hp}{ta tb te:TE}{x:V}
def Dx(ha:Ev ta σ H x)(hb:Ev tb σ H .non):Ev (eP K .Is ta tb) σ H (.bl (decide (x=.non))):=λQ q=>ha _ (hb _ (by
 cases x<;>exact q))
end
def C6{K:Frag}{ta ti:TE}{σ:St}{H:Hp}{Q:VK}(h:ta σ H λx H1=>ti σ H1 λy H2=>LR K x y H2 Q):nM K ta ti σ H Q:=h
def BI(h:Av t σ H vs)(hl:vs.length<=1000)(q:∀p,H p=none->Q (.ref p) (upd H p (.tup vs))):zX t σ H Q:=h _ ⟨Ye hl (by decide),q⟩
def qE:Sy "ValueError"=some (.type "ValueError"):=by decide+kernel
structure Kq(mg:Sf)(K:Frag)(D:Z1)(b1 b2 b3 b4 b5 b6 b7 b8 b9:Bool):Prop where
 x:PySem.W.ExcC K D
 f1:∃c,mg "BadBoard"=some (.ref c)/\Zf K (.ref D) (.ref c)=some b1
 f2:∃c,mg "BadGame"=some (.ref c)/\Zf K (.ref D) (.ref c)=some b2
 f3:∃c,mg "BadLine"=some (.ref c)/\Zf K (.ref D) (.ref c)=some b3
 f4:∃c,mg "BadPlace"=some (.ref c)/\Zf K (.ref D) (.ref c)=some b4
 f5:∃c,mg "NoMove"=some (.ref c)/\Zf K (.ref D) (.ref c)=some b5
 f6:∃c,mg "TooWide"=some (.ref c)/\Zf K (.ref D) (.ref c)=some b6
 f7:∃c,mg "NoWord"=some (.ref c)/\Zf K (.ref D) (.ref c)=some b7
 f8:∃c,mg "Over"=some (.ref c)/\Zf K (.ref D) (.ref c)=some b8
 f9:∃c,mg "NothingBack"=some (.ref c)/\Zf K (.ref D) (.ref c)=some b9
 v:Zf K (.ref D) (.type "ValueError")=some true
 one:([V.bl b1,.bl b2,.bl b3,.bl b4,.bl b5,.bl b6,.bl b7,.bl b8,.bl b9].countP λz=>eqV z (.bl true))=1
def lM{K:Frag}{D:Z1}{v:Z0}{b:Bool}(h:Zm K D v=some b):(PySem.W.clsIn K D).isSome=true:=by
 unfold Zm at h;cases e:PySem.W.clsIn K D with
 |none=>rw[e]at h;cases h
 |some _=>rfl
def Ez:∀u,bz (.ref c) u->u=.ref c:=λ_ h=>h
def KS:∀u,bz (.ty n) u->u=.type n:=λ_ h=>h
def nN.hu(r:nN k A):A.units+20<Tz:=by have:=r.un;omega
def OV{K:Frag}{te:TE}{tl th:TO}{σ:St}{H:Hp}{Q:VK}(h:te σ H λx H1=>tl σ H1 λl H2=>th σ H2 λu H3=>KO K x l u H3 Q):Bc K te tl th σ H Q:=h
def zD{K:Frag}{tl:TE}{g:TG}{tt:TT}{te:TE}{src:List (Option Nat)}{σ:St}{H:Hp}{Q:VK}(q:tl σ H λx H2=>∃a,x=.ref a/\(∃xs,aV K H2 a xs)/\gq g tt te src σ Q (Km K a) H2):tComp (iS K tl) g tt te src σ H Q:=q
def OW{K:Frag}{te:TE}{tl th:TO}{σ:St}{H:Hp}{Q:VK}{a:Z1}{xs:List V}{lo hi:Option Int}(ha:Ev te σ H (.ref a))(hl:∀Q:Option Int->Hp->Prop,Q lo H->tl σ H Q)(hh:∀Q:Option Int->Hp->Prop,Q hi H->th σ H Q)(hx:dU K H a xs)(hw:¬(HT.sIx xs.length 0 lo=0/\HT.sIx xs.length xs.length hi=xs.length))(q:∀p,H p=none->Q (.ref p) (upd H p (.tup (cutV xs lo hi)))):Ri (K5 K) te tl th σ H Q:=ha _ (hl _ (hh _ ⟨a,xs,rfl,hx,hw,q⟩))
section
def En:Tx=("":Str):=by decide+kernel
def vi:R2:=λx y H Q=>∃z b,x=.str z/\y=.int (if b=true then 1 else 0)/\Q (.str (if b=true then z else"")) H
def EZ:kS X (Uc .Mult) vi:=by
 intro R1 s σ H x y v u Q I rx ry h;obtain⟨z,b,rfl,rfl,q⟩:=h;obtain⟨t,rfl⟩:=rx;obtain⟨t2,rfl⟩:=ry;cases b with
 |false=>
  refine PySem.P.mul_str_none (by decide) (by decide) ?_;rw[En];exact⟨.str "",H,I.tok _,⟨_,rfl⟩,q⟩
 |true=>
  refine PySem.P.mul_str (by decide) (λ_ h=>by simp at h) (λ_ h=>by simp at h) ?_;rw[R8 (by decide),R9 (by rfl)];exact⟨.str z,H,I,⟨_,rfl⟩,q⟩
def C2(ha:PE X a ta)(hb:PE X b tb):PE X (.BinOp a .Mult b pos) (KC vi ta tb):=J6 EZ ha hb
def C8(K:Frag):List V->Hp->VK->Prop:=λvs H Q=>∃a D dx y cv b,vs=[.ref a,y]/\(∀u,bz y u->u=cv)/\H a=some (iK (.ref D) dx a)/\PySem.W.ExcC K D/\Zf K (.ref D) cv=some b/\Q (.bl b) H
def eB(K:Frag)(hK:X.K=K:=by rfl):bQ X (.builtin "isinstance") (C8 K):=by subst hK;intro R1 s σ H xs us Q I r h;obtain⟨a,D,dx,y,cv,b,rfl,hy,ha,F,hb,q⟩:=h;obtain⟨u,v,rfl,ru,rv⟩:=r.two;cases ru;cases hy v rv;have hx:=I.hok a _ ha;obtain⟨⟨o,vs,p1,p2,_⟩,_,_⟩:=hx;exact Zi (PySem.W.kitx_exc F) I.kIn ⟨o,p1,p2⟩ hb (λz=>nomatch z) λtk=>⟨.bl b,H,I.tok tk,rfl,q⟩
end
section
variable{K:Frag}{σ:St}{H:Hp}{b:Bool}
def zt(ha:Ev ta σ H (.str z))(hb:Ev tb σ H (.int (if b=true then 1 else 0))):Ev (KC vi ta tb) σ H (.str (if b=true then z else"")):=λQ q=>ha _ (hb _ ⟨z,b,rfl,rfl,q⟩)
def zu{dx:Option Z1}{cv:Z0}(h:Av t σ H [.ref a,y])(hy:∀u,bz y u->u=cv)(ha:H a=some (iK (.ref D) dx a))(F:PySem.W.ExcC K D)(hb:Zf K (.ref D) cv=some b):Ev (cB (C8 K) t) σ H (.bl b):=λQ q=>h _ ⟨a,D,dx,y,cv,b,rfl,hy,ha,F,hb,q⟩
end
def wS(b:Bool)(z:Str):Str:=if b=true then z else""
def ko(H:Hp)(v:V)(m:Int):Bool:=match lstOf H v with
 |some xs=>decide ((xs.length:Int)<m)&&xs.all (λx=>amongB x 0 (m - 1))&&decide ((xs.map λx=>match x with| .int i=>i|_=>0).Nodup)
 |none=>false
def lU:Sp:=λvs H Q _=>∃v m,vs=[v,.int m]/\fB H 1 v/\m<=64/\∀H',ak H H'->Q (.bl (ko H v m)) H'
def xQ(H:Hp)(wv hv dv:V):Bool:=match wv,hv with
 | .int wi,.int hi=>decide (1<=wi/\wi<=8)&&decide (1<=hi/\hi<=8)&&ko H dv (wi*hi)
 |_,_=>false
def uO(cB cN:Z1):Sp:=λvs H _ E=>∃p dx wv hv dv,vs=[.ref p,wv,hv,dv]/\H p=some (.ins cB dx [])/\Thg H wv/\Thg H hv/\fB H 1 dv/\xQ H wv hv dv=false/\∀H',ak H H'->E (.ref cN) none H'
theorem za:∀{xs:List V},xs.all (λx=>amongB x 0 (m - 1))=true->∃hs:List Int,xs=hs.map V.int/\∀h∈hs,0<=h/\h<m
 | [],_=>⟨[],rfl,λ_ z=>nomatch z⟩
 |x::xs,h=>by
  rw[WE,YC]at h;obtain⟨hs,rfl,g⟩:=za h.2;cases x with
  |int i=>
   have h1:0<=i/\i<=m - 1:=Sa h.1;refine⟨i::hs,rfl,λk hk=>?_⟩
   rcases Wn.mp hk with rfl|hk
   .omega
   .exact g k hk
  |_=>exact Sc h.1 (by simp[amongB])
def lP(a b:Z0):Wj "tuple.index" ⟨[a,b],[]⟩:=by unfold Wj;rw[signature?_of (id:="tuple.index") (n:=['x','e','d','n','i']) (o:=['e','l','p','u','t']) (by kernel_rfl) PySem.F.owner_tuple];kernel_rfl
def Ls{K:Frag}{H:Hp}{d:Z1}{ws:List Str}{x:Str}{Q:VK}(W:gY K H d ws)(q:Q (.bl (!decide (x∈ws))) H):bT K .NotIn (.str x) (.ref d) H Q:=by refine⟨d,ws.map V.str,rfl,W,rfl,nc ws,?_⟩;rw[R9 rfl,pI];exact q
def DP(x y:Str):(x++y).length=x.length+y.length:=by show(x.cps++y.cps).size=_;rw[Y3];rfl
def ME(te:TE)(σ:St)(H:Hp)(m:Nat):Prop:= ∀Q:VK,(∀(z:Str) H',z.length<=m->ak H H'->Q (.str z) H')->te σ H Q
section
variable{K:Frag}{σ:St}{H:Hp}{n n' m m':Nat}{ta tb te:TE}
def uc(h:Ev te σ H (.str z))(hz:z.length<=m):ME te σ H m:=λQ q=>h _ (q _ _ hz (ak.refl H))
def jJ(h1:ME ta σ H m)(h2:∀H1,ak H H1->ME tb σ H1 m')(hn:m+m'<=1000):ME (iJ .Add ta tb) σ H (m+m'):=λQ q=>pV (h1 _ λz H1 zm s1=>h2 H1 s1 _ λz' H2 zm' s2=>
 (show z.length+z'.length<=h9/\Q (.str (z++z')) H2 from⟨by rw[Sw];omega,q _ _ (by rw[DP];omega) (s1.trans s2)⟩))
def ni{z:Str}{lo hi:Option Int}(ha:Ev ta σ H (.str z))(hl:∀Q:Option Int->Hp->Prop,Q lo H->tl σ H Q)(hh:∀Q:Option Int->Hp->Prop,Q hi H->th σ H Q)(hz:z.length<=m)(hm:m<=1000):ME (Bc K ta tl th) σ H m:=uc (Dr ha hl hh (by rw[Sw];omega)) (Ye (vV _ _ _) hz)
end
def oo{K:Frag}{σ:St}{H:Hp}{ta tb:TE}{z:Str}{p:Z1}{ws:List Str}(ha:Ev ta σ H (.str z))(hb:Ev tb σ H (.ref p))(h:gY K H p ws):Ev (eP K .NotIn ta tb) σ H (.bl (!decide (z∈ws))):=λQ q=>ha _ (hb _ (Ls h q))
structure Qj(z TI TO i1 i2:Z1)(F1 F2:List Z1):Prop extends ZAp z TI TO i1 i2 where
 p1:∀q∈F1,q≠z
 p2:∀q∈F1,q≠TO
 p3:∀q∈F1,q≠i2
 q1:∀q∈F2,q≠z
 q2:∀q∈F2,q≠TO
 q3:∀q∈F2,q≠i1
section
variable{prog:Ss}{w:World}{A:S5}{E:Sg}{s:So}{z TI TO i1 i2:Z1}{F1 F2:List Z1}{n1 n2 i:Nat}{P1 P2:Nat->Z0->Prop}{S1 S2:Nat->SD->Prop}{a b:Z0}
def Ef{Q:Sg}(D1:Wl prog w A i1 F1 n1 P1 S1)(D2:Wl prog w A i2 F2 n2 P2 S2)(ap:Qj z TI TO i1 i2 F1 F2)(hz:Vs s.heap z TI TO .none)(hTI:TY s.heap TI (.ref i1) (.ref i2))(hTO:TY s.heap TO a b)(h1:S1 i s.heap)(h2:S2 i s.heap)(l1:i<n1)(l2:i<n2)(hQ:∀x y h' tk,P1 i x->P2 i y->Vs h' z TI TO (T3 s.heap.objs.size)->TY h' TO x y->S1 (i+1) h'->S2 (i+1) h'->TY h' s.heap.objs.size x y->(∀c o,c≠z->c≠TO->c≠i1->c≠i2->s.heap.get? c=some o->h'.get? c=some o)->Q (.ref s.heap.objs.size) {s with heap:=h',toks:=tk}):Sn (Su prog w) A (Builtin.«zip.__next__» ⟨[.ref z],[]⟩) (λfin s'=>∃v,fin=.done (.ret v)/\Q v s') E s:=by
 have f1:∀{k:Nat}{c:Z1}{g g':SD},S1 k g->Td c g g'->(∀q∈F1,q≠c)->S1 k g':=λst sb ne=>D1.frame _ _ _ st λq hq o ho=>sb.extBut _ _ (ne q hq) ho;have f2:∀{k:Nat}{c:Z1}{g g':SD},S2 k g->Td c g g'->(∀q∈F2,q≠c)->S2 k g':=λst sb ne=>D2.frame _ _ _ st λq hq o ho=>sb.extBut _ _ (ne q hq) ho;refine Si (m:=VO (.ref z) 2) (SH hz rfl (x:=.bool false) rfl (Si (m:=VO (.ref z) 3) (SH hz rfl (x:=.ref TI) rfl (Si (SY hTI rfl ?_)))));refine Si (m:=Tp (.ref z)) ?_;unfold Tp;refine Si (SH hz rfl (x:=.none) rfl (Sk ?_));rw[R9 rfl];refine Si (TL ?_);refine Si (SH hz rfl (x:=.ref TO) rfl (Si (TK hz (by simp) λg1 zz1 b1=>Si ?_)));have z1:Vs g1 z TI TO .ellipsis:=zz1;simp only[List.zipIdx_cons,List.zipIdx_nil,Xq,List.forIn_nil];refine Si (Si (VM (Si (m:=S9 (.ref i1)) (D1.item i _ _ _ l1 (f1 h1 b1 ap.p1) λx g2 k2 p1 t2 b2=>Sk ?_))));have o2:TY g2 TO a b:=b2.extBut _ _ ap.f (b1.extBut _ _ ap.b hTO);refine Si (SY o2 rfl (Si (wpAny_updateSeq_pair o2 λg3 oo3 b3=>Si (wpAny_letGo (Sk ?_)))));have o3:TY g3 TO x b:=oo3;refine Si (Si (VM (Si (m:=S9 (.ref i2)) (D2.item i _ _ _ l2 (f2 (f2 (f2 h2 b1 ap.q1) b2 ap.q3) b3 ap.q2) λy g4 k4 p2 t4 b4=>Sk ?_))));have o4:TY g4 TO x b:=b4.extBut _ _ ap.g o3;refine Si (SY o4 rfl (Si (wpAny_updateSeq_pair o4 λg5 oo5 b5=>Si (wpAny_letGo (Sk (Sk ?_))))));have o5:TY g5 TO x y:=oo5;have n5:g5.objs.size=s.heap.objs.size:=by rw[b5.1,b4.1,b3.1,b2.1,b1.1]
 have z5:Vs g5 z TI TO .ellipsis:=b5.extBut _ _ ap.b.symm (b4.extBut _ _ ap.d.symm (b3.extBut _ _ ap.b.symm (b2.extBut _ _ ap.c.symm z1)));have u1:S1 (i+1) g5:=f1 (f1 (f1 t2 b3 ap.p2) b4 ap.p3) b5 ap.p2;have u2:S2 (i+1) g5:=f2 t4 b5 ap.q2;have zl:z<g5.objs.size:=Sl z5;refine Si (SY o5 rfl (Si (wpAny_newTuple (Si (m:=Ua (.ref z) (.ref g5.objs.size)) ?_))));unfold Ua;have z6:Vs (g5.push {cls:=.type "tuple",data:=.seq #[x,y]}) z TI TO .ellipsis:=Sj _ z5;refine Si (TK z6 (by simp) λg7 zz7 b7=>TK (show Vs g7 z TI TO (T3 g5.objs.size)from zz7) (by simp) λg8 zz8 b8=>Sk ⟨_,rfl,?_⟩);have z8:Vs g8 z TI TO (T3 g5.objs.size):=zz8;have up:∀c o,c≠z->g5.get? c=some o->g8.get? c=some o:=λc o c1 e=>b8.extBut _ _ c1 (b7.extBut _ _ c1 (Sj _ e));have t8:TY g8 g5.objs.size x y:=b8.extBut _ _ (Yl zl) (b7.extBut _ _ (Yl zl) (Sm _ rfl));show Q (.ref g5.objs.size) _;rw[n5]at z8 t8 ⊢;exact hQ x y g8 k4 p1 p2 z8 (up _ _ ap.b o5) (D1.frame _ _ _ u1 λq hq o ho=>up _ _ (ap.p1 q hq) ho) (D2.frame _ _ _ u2 λq hq o ho=>up _ _ (ap.q1 q hq) ho) t8 λc o c1 c2 c3 c4 e=>up c o c1 (b5.extBut _ _ c2 (b4.extBut _ _ c4 (b3.extBut _ _ c2 (b2.extBut _ _ c3 (b1.extBut _ _ c1 e)))))
def Ks(D1:Wl prog w A i1 F1 n1 P1 S1)(ap:Qj z TI TO i1 i2 F1 F2)(hz:Vs s.heap z TI TO .none)(hTI:TY s.heap TI (.ref i1) (.ref i2))(h1:S1 n1 s.heap)(hE:∀h' e,(∀c o,c≠z->c≠i1->s.heap.get? c=some o->h'.get? c=some o)->(∃o,h'.get? e=some o/\o.cls=.type "StopIteration")->E (.ref e) {s with heap:=h'}):Sn (Su prog w) A (Builtin.«zip.__next__» ⟨[.ref z],[]⟩) Q E s:=by
 have f1:∀{k:Nat}{c:Z1}{g g':SD},S1 k g->Td c g g'->(∀q∈F1,q≠c)->S1 k g':=λst sb ne=>D1.frame _ _ _ st λq hq o ho=>sb.extBut _ _ (ne q hq) ho;refine Si (m:=VO (.ref z) 2) (SH hz rfl (x:=.bool false) rfl (Si (m:=VO (.ref z) 3) (SH hz rfl (x:=.ref TI) rfl (Si (SY hTI rfl ?_)))));refine Si ?_;unfold Tp;refine Si (SH hz rfl rfl (Sk ?_));rw[R9 rfl];refine Si (TL ?_);refine Si (SH hz rfl rfl (Si (TK hz (by simp) λg1 zz1 b1=>Si ?_)));have z1:=zz1;simp only[List.zipIdx_cons,List.zipIdx_nil,Xq,List.forIn_nil];refine Si (Si (VM (Si (D1.done _ _ _ (f1 h1 b1 ap.p1) λg2 e b2 he=>?_))));obtain⟨oe,hoe,hce⟩:=he;have z2:=b2 _ _ ap.c.symm z1;have ne:e≠z:=λq=>by rw[q]at hoe;have z2':=z2;rw[z2']at hoe;cases hoe;simp at hce
 exact TK z2 (by simp) λg3 _ b3=>hE g3 e (λc o c1 c3 q=>b3.extBut _ _ c1 (b2 _ _ c3 (b1.extBut _ _ c1 q))) ⟨oe,b3.extBut _ _ ne hoe,hce⟩
def Ee(D1:Wl prog w A.in1 i1 F1 n1 P1 S1)(D2:Wl prog w A.in1 i2 F2 n2 P2 S2)(ap:Qj z TI TO i1 i2 F1 F2)(hz:Vs s.heap z TI TO .none)(hTI:TY s.heap TI (.ref i1) (.ref i2))(hTO:TY s.heap TO a b)(h1:S1 i s.heap)(h2:S2 i s.heap)(l1:i<n1)(l2:i<n2)(hQ:∀x y h' tk,P1 i x->P2 i y->Vs h' z TI TO (T3 s.heap.objs.size)->TY h' TO x y->S1 (i+1) h'->S2 (i+1) h'->TY h' s.heap.objs.size x y->(∀c o,c≠z->c≠TO->c≠i1->c≠i2->s.heap.get? c=some o->h'.get? c=some o)->Q (some (.ref s.heap.objs.size)) {s with heap:=h',toks:=tk}):Sn (Su prog w) A (TM (.ref z)) Q E s:=by have hT:s.TypeIs (.ref z) "zip":=⟨_,hz,rfl⟩;unfold TM;exact Si (Tb (SB hT UE (SK UE hT F.entry_zip_next (Ef D1 D2 ap hz hTI hTO h1 h2 l1 l2 λx y h' tk q1 q2 q3 q4 q5 q6 q7 q8=>Sk (hQ x y h' tk q1 q2 q3 q4 q5 q6 q7 q8)) (F.args_zip_next_1 _))))
def Ed(D1:Wl prog w A.in1 i1 F1 n1 P1 S1)(ap:Qj z TI TO i1 i2 F1 F2)(hz:Vs s.heap z TI TO .none)(hTI:TY s.heap TI (.ref i1) (.ref i2))(h1:S1 n1 s.heap)(hQ:∀h',(∀c o,c≠z->c≠i1->s.heap.get? c=some o->h'.get? c=some o)->Q none {s with heap:=h'}):Sn (Su prog w) A (TM (.ref z)) Q E s:=by have hT:s.TypeIs (.ref z) "zip":=⟨_,hz,rfl⟩;unfold TM;refine Si (Tb (SB hT UE (SK UE hT F.entry_zip_next (Ks D1 ap hz hTI h1 λh' e hk he=>?_) (F.args_zip_next_1 _))));obtain⟨o,ho,hc⟩:=he;exact Si (Tq ⟨o,ho,hc⟩ T4 (Sk (hQ _ hk)))
end
section
def BH{items}(hit:s.heap.IsTupleIter it t i)(ht:s.heap.IsTuple t items)(hx:items[i]? =some x)(hQ:∀h',h'.IsTupleIter it t (i+1)->Td it s.heap h'->Q x {s with heap:=h'}):Sn (Su prog w) A (S9 (.ref it)) Q E s:=by obtain⟨o,ho,hc,hd⟩:=id hit;obtain⟨ol,hol,_,nl,hdl⟩:=ht;unfold S9;refine Si (SB hit.typeIs S3 (SK S3 hit.typeIs T1 ?_ (TW _)));refine Si (m:=VO (.ref it) 0) (SH ho hd (x:=.ref t) rfl ?_);show Sn _ _ (if(Sx t == SC)=true then _ else _) _ _ s;rw[R8 (show¬((Sx t == SC)=true)from YD)];refine Si (SH ho hd rfl ?_);refine Si (SY hol hdl ?_);simp only[Yw,hx];refine Si (SX ho hd (by simp) (Sk ⟨x,rfl,Sk (hQ _ ?_ (SS ..))⟩));exact⟨_,SJ _ ho (Tk (Tf hd _)),(Ur ..).trans hc,by rw[Tf hd];simp[T3]⟩
def BG{items}(hh:A.handled=none)(hit:s.heap.IsTupleIter it t i)(ht:s.heap.IsTuple t items)(hx:items[i]? =none)(hE:∀h' e,Ul it s.heap h'->(∃o,h'.get? e=some o/\o.cls=.type "StopIteration")->E (.ref e) {s with heap:=h'}):Sn (Su prog w) A (S9 (.ref it)) Q E s:=by
 obtain⟨o,ho,hc,hd⟩:=id hit;obtain⟨ol,hol,_,nl,hdl⟩:=ht;unfold S9;refine Si (SB hit.typeIs S3 (SK S3 hit.typeIs T1 ?_ (TW _)));refine Si (m:=VO (.ref it) 0) (SH ho hd (x:=.ref t) rfl ?_);show Sn _ _ (if(Sx t == SC)=true then _ else _) _ _ s;rw[R8 (show¬((Sx t == SC)=true)from YD)];refine Si (SH ho hd rfl ?_);refine Si (SY hol hdl ?_);simp only[Yw,hx];refine Si (TL (Si (SX ho hd (by simp) ?_)));refine Si ?_;simp only[V9,V3];refine Si (Sz ?_ (by size_fits));refine Si (T2 (by first|rfl|(simp only[Tt];rfl)) ?_)
 refine Sz ?_ (by size_fits);simp only[V1];refine Si (U7 ?_);first|rw[show A.in1.handled=none from hh]|rw[hh]
 refine Si (Sk (Vx ?_));exact hE _ _ (((SS ..).extBut.push _).push _) ⟨_,Sm _ rfl,rfl⟩
end
def rh(hh:A.handled=none)(it l:Z1)(hne:l≠it)(items:Array Z0):Wl prog w A it [it,l] items.size (λi v=>items[i]? =some v) (λi h=>h.IsTupleIter it l i/\h.IsTuple l items) where
 live:=λ_ _ st=>let ⟨o,ho,_⟩:=st.1;⟨o,ho⟩
 frame:=λ_ _ _ st hk=>⟨st.1.at λo e=>hk it (by simp) o e,let ⟨o,ho,r⟩:=st.2;⟨o,hk l (by simp) o ho,r⟩⟩
 item:=λi s Q E hi st hQ=>BH st.1 st.2 (x:=items[i]) (by simp[hi]) λh' hit' hs'=>hQ _ h' s.toks (by simp[hi]) ⟨hit',let ⟨o,ho,r⟩:=st.2;⟨o,hs'.extBut _ _ hne ho,r⟩⟩ hs'
 done:=λs Q E st hE=>BG hh st.1 st.2 (by simp) hE
abbrev yI(l1:Z1):Obj:={cls:=.type "tuple_iterator",data:=.fields #[.ref l1,.int 0 0]}
abbrev yJ(l2:Z1):Obj:={cls:=.type "list_iterator",data:=.fields #[.ref l2,.int 0 0]}
abbrev OM(h:SD)(l1 l2:Z1):SD:=(h.push (yI l1)).push (yJ l2)
abbrev Qs(h:SD)(l1 l2:Z1):SD:=(OM h l1 l2).push {cls:=.type "tuple",data:=.seq #[.ref h.objs.size,.ref (h.push (yI l1)).objs.size]}
abbrev Qr(h:SD)(l1 l2:Z1):SD:=(Qs h l1 l2).push {cls:=.type "tuple",data:=.seq #[.none,.none]}
abbrev Ku(h:SD)(l1 l2:Z1):SD:=(Qr h l1 l2).push {cls:=.type "zip",data:=.fields #[.none,.bool false,.bool false,.ref (OM h l1 l2).objs.size,.ref (Qs h l1 l2).objs.size]}
def xf(l1 l2:Z1)(xs ys:Array Z0):Meets (Builtin.«zip.__new__» ⟨[.type "zip",.ref l1,.ref l2],[]⟩) (λ_ R s=>s.heap.IsTuple l1 xs/\s.heap.IsList l2 ys/\R (.ok (.ret (.ref (Qr s.heap l1 l2).objs.size))) {s with heap:=Ku s.heap l1 l2}):=
 .of_wp λprog w A R s h=>by
  obtain⟨hp,g,d,tk,os⟩:=s;obtain⟨hl1,hl2,h⟩:=h;have hsub:=sub_zip;have hL1:Heap.IsTuple (Shared.heap ⟨hp,g,d,tk,os⟩) l1 xs:=hl1;have hL2:Heap.IsList (Shared.heap ⟨hp.push (yI l1),g,d,tk,os⟩) l2 ys:=Heap.IsList.push hl2 _
  wp_walk using wpAny_pyIter_tuple hL1,Tn hL2
  exact⟨_,rfl,h⟩
section
def A3(hl1:s.heap.IsTuple l1 xs)(hl2:s.heap.IsList l2 ys)(h:∀h',Vs h' (s.heap.objs.size+4) (s.heap.objs.size+2) (s.heap.objs.size+3) .none->TY h' (s.heap.objs.size+2) (.ref s.heap.objs.size) (.ref (s.heap.objs.size+1))->TY h' (s.heap.objs.size+3) .none .none->
   h'.IsTupleIter s.heap.objs.size l1 0->h'.IsListIter (s.heap.objs.size+1) l2 0->(∀c o,s.heap.get? c=some o->h'.get? c=some o)->Q (.ref (s.heap.objs.size+4)) {s with heap:=h'}):Sn (Su prog w) A (call (.type "zip") [.ref l1,.ref l2]) Q E s:=by
 refine callType_new F.called_zip (by decide) (F.typeCall_zip_2 _ _) (F.newCall_zip_2 _ _) (λobj=>F.args_object_init_3 obj _ _) F.entry_zip_new (xf l1 l2 xs ys) ⟨hl1,hl2,?_⟩;have y1:(s.heap.push (yI l1)).objs.size=s.heap.objs.size+1:=SR ..;have y2:(OM s.heap l1 l2).objs.size=s.heap.objs.size+2:=by rw[SR,y1]
 have y3:(Qs s.heap l1 l2).objs.size=s.heap.objs.size+3:=by rw[SR,y2]
 have y4:(Qr s.heap l1 l2).objs.size=s.heap.objs.size+4:=by rw[SR,y3]
 have g5:(Ku s.heap l1 l2).get? (Qr s.heap l1 l2).objs.size=some _:=Sm _ rfl;have up2:∀c o,(OM s.heap l1 l2).get? c=some o->(Ku s.heap l1 l2).get? c=some o:=λc o e=>Sj _ (Sj _ (Sj _ e));have g4:(Ku s.heap l1 l2).get? (Qs s.heap l1 l2).objs.size=some _:=Sj _ (Sm _ rfl);have g3:(Ku s.heap l1 l2).get? (OM s.heap l1 l2).objs.size=some _:=Sj _ (Sj _ (Sm _ rfl));have g2:(Ku s.heap l1 l2).get? (s.heap.push (yI l1)).objs.size=some (yJ l2):=up2 _ _ (Sm _ rfl);have g1:(Ku s.heap l1 l2).get? s.heap.objs.size=some (yI l1):=up2 _ _ (Sj _ (Sm _ rfl));show _/\_;rw[y2,y3,y4]at g5;rw[y1,y2]at g3;rw[y3]at g4;rw[y1]at g2;rw[y4];exact⟨⟨_,g5,rfl⟩,h _ g5 g3 g4 ⟨_,g1,rfl,rfl⟩ ⟨_,g2,rfl,rfl⟩ λc o e=>up2 _ _ (Sj _ (Sj _ e))⟩
end
def MA(K:Frag)(a b:Z1):It:=
 ⟨λi H=>∃xs ys x y,dU K H a xs/\aV K H b ys/\xs[i]? =some x/\ys[i]? =some y,λi H v H'=>∃t x y,v=.ref t/\H t=none/\(∀xs,dU K H a xs->xs[i]? =some x)/\(∀ys,aV K H b ys->ys[i]? =some y)/\H'=upd H t (.tup [x,y]),λi H=>∃xs ys,dU K H a xs/\aV K H b ys/\xs.length=i⟩
def ZYt(z TI TO i1 i2 l1 l2:Z1)(i:Nat)(h:SD):Prop:=Vs h z TI TO .none/\TY h TI (.ref i1) (.ref i2)/\(∃a b,TY h TO a b)/\h.IsTupleIter i1 l1 i/\h.IsListIter i2 l2 i
def zU{P:Ss}{w:World}{K:Frag}{elts:List S8}{k0:Nat}{pos:VL}(z TI TO i1 i2 l1 l2:Z1)(ap:Qj z TI TO i1 i2 [i1,l1] [i2,l2])(n1:l1≠i1)(n2:l2≠i2):wb P w K (.Tuple elts k0 pos) (MA K l1 l2) [z,TI,TO,i1,i2] z (ZYt z TI TO i1 i2 l1 l2) where
 mem:=by simp
 obj:=λi h st b hb=>by
  obtain⟨hz,hTI,⟨a,a',hTO⟩,⟨o1,q1,c1,d1⟩,o2,q2,c2,d2⟩:=st;simp only[Wn,WB,or_false]at hb
  rcases hb with rfl|rfl|rfl|rfl|rfl
  .exact⟨_,hz,λv e=>by cases e⟩
  .exact⟨_,hTI,λv e=>by cases e⟩
  .exact⟨_,hTO,λv e=>by cases e⟩
  .exact⟨o1,q1,λv e=>by rw[d1]at e;cases e⟩
  .exact⟨o2,q2,λv e=>by rw[d2]at e;cases e⟩
 keep:=λi h h' st k=>by obtain⟨hz,hTI,⟨a,a',hTO⟩,⟨o1,q1,r1⟩,o2,q2,r2⟩:=st;exact⟨k z (by simp) _ hz,k TI (by simp) _ hTI,⟨a,a',k TO (by simp) _ hTO⟩,⟨o1,k i1 (by simp) _ q1,r1⟩,o2,k i2 (by simp) _ q2,r2⟩
 item:=by
  intro X hP hw hK hc i R1 s σ H E I hf st hg;subst hP hw hK;obtain⟨hz,hTI,⟨a,a',hTO⟩,h1,h2⟩:=st;obtain⟨xs,ys,x,y,hx,hy,ex,ey⟩:=hg;obtain⟨its1,rv1,p1,_⟩:=I.tuple hx;obtain⟨its2,rv2,p2,_⟩:=I.list hy;obtain⟨u1,hu1,ru1⟩:=rv1.get ex;obtain⟨u2,hu2,ru2⟩:=rv2.get ey;have hh:X.A.in1.handled=none:=by show X.A.handled=none;exact I.ok.hd hc
  have D1:=rh (prog:=X.prog) (w:=X.w) hh i1 l1 n1 its1.toArray;have D2:=Draws.list (prog:=X.prog) (w:=X.w) hh i2 l2 n2 its2.toArray;have w1:its1.toArray[i]? =some u1:=by simpa using hu1
  have w2:its2.toArray[i]? =some u2:=by simpa using hu2
  refine Ee D1 D2 ap hz hTI hTO ⟨h1,p1⟩ ⟨h2,p2.isList⟩ (by obtain⟨q,_⟩:=YZ.mp w1;exact q) (by obtain⟨q,_⟩:=YZ.mp w2;exact q) λv1 v2 g1 tk e1 e2 z1 o1 s1 s2 t1 k1=>?_;rw[w1]at e1;obtain rfl:=Sd e1;rw[w2]at e2;obtain rfl:=Sd e2;refine⟨_,rfl,wpAny_letOwnedTupleGo_zip z1 λg2 z2 sb=>?_⟩;have lz:z<s.heap.objs.size:=Sl hz;have kk:∀b ob,b∉[z,TI,TO,i1,i2]->s.heap.get? b=some ob->g2.get? b=some ob:=λb ob hb q=>by simp only[Wn,WB,or_false,not_or]at hb;exact(sb.2 b hb.1).trans (k1 b ob hb.1 hb.2.2.1 hb.2.2.2.1 hb.2.2.2.2 q)
  have t2:g2.get? s.heap.objs.size=some {cls:=.type "tuple",data:=.seq #[u1,u2]}:=(sb.2 _ (Yl lz)).trans t1;have new:cb X.prog X.w (upd H s.heap.objs.size (.tup [x,y])) g2 s.heap.objs.size (.tup [x,y]):=
   ⟨by show 2<=h9;decide,[u1,u2],.cons ru1 (.cons ru2 .nil),⟨_,t2,rfl,_,rfl⟩⟩
  have I2:=I.turned_laidN (t':=tk) kk hf (Yd _) new;obtain⟨⟨q1,v1,r1⟩,_⟩:=s1;obtain⟨⟨q2,v2,r2⟩,_⟩:=s2;have kTI:g1.get? TI=_:=k1 _ _ ap.a ap.e ap.i ap.j hTI;refine⟨.ref s.heap.objs.size,_,I2,rfl,⟨_,x,y,rfl,I.hok.fresh (Yd _),λxs' h'=>by rw[I.tuple_inj h' hx];exact ex,λys' h'=>by rw[I.list_inj h' hy];exact ey,rfl⟩,⟨z2,(sb.2 _ ap.a).trans kTI,⟨_,_,(sb.2 _ ap.b).trans o1⟩,⟨q1,(sb.2 _ ap.c).trans v1,r1⟩,q2,(sb.2 _ ap.d).trans v2,r2⟩,λb hb=>?_⟩;have hlt:b<s.heap.objs.size:=by
   simp only[Wn,WB,or_false]at hb
   rcases hb with rfl|rfl|rfl|rfl|rfl
   .exact lz
   .exact Sl hTI
   .exact Sl hTO
   .obtain⟨o,ho,_⟩:=h1;exact Sl ho
   .obtain⟨o,ho,_⟩:=h2;exact Sl ho
  rw[av (Yg hlt)];exact(hf b hb).1
 done:=by
   intro X hP hw hK hc i R1 s σ H E I hf st hg;subst hP hw hK;obtain⟨hz,hTI,⟨a,a',hTO⟩,h1,h2⟩:=st;obtain⟨xs,ys,hx,hy,hl⟩:=hg;obtain⟨its1,rv1,p1,_⟩:=I.tuple hx;have rl:=rv1.length;have D1:=rh (prog:=X.prog) (w:=X.w) (A:=X.A.in1) (by show X.A.handled=none;exact I.ok.hd hc) i1 l1 n1 its1.toArray;have e:i=its1.toArray.size:=by simp;omega
   subst e;exact Ed D1 ap hz hTI ⟨h1,p1⟩ λh' hx=>⟨rfl,I.turnedN (t':=s.toks) (λb ob hb q=>by
    simp only[Wn,WB,or_false,not_or]at hb;exact hx b ob hb.1 hb.2.2.2.1 q) hf⟩
 self:=λA i s Q E st h=>wpAny_pyIter_zip st.1 h
section
variable{X:Cx}{p pos pos2:VL}{a b:S8}{elts:List S8}{k0:Nat}
def J2(K:Frag)(R:It->Hp->Prop)(vs:List V)(H:Hp):Prop:= ∃l1 l2 xs ys,vs=[.ref l1,.ref l2]/\dU K H l1 xs/\aV K H l2 ys/\R (MA K l1 l2) H
def zc(K:Frag)(t:TA):TI:=λσ H R=>t σ H λvs H1=>J2 K R vs H1
def Pz(K:Frag)(hm:X.mg "zip"=none)(hA:PA X [a,b] t)(hg:Gl X "zip":=by rfl)(hs:Sv [a,b] X.env=(false,Tj a X.env)::Sv [b] X.env:=by rfl)(hp:(Tl pos (Sv [b] X.env)).any (·.1)=false:=by rfl)(hK:X.K=K:=by rfl):PI X (.Tuple elts k0 pos2) (.Call (.Name "zip" p) [a,b] [] pos) (zc K t):=by
 subst hK;intro R1 s σ H R I h;refine Call_ (lE I hg hm Mi (PyProof.Rows.callWith_type1 (cK (hA pos R1 s σ H (λvs H1=>J2 X.K R vs H1) I h) λus s1 ⟨vs,H1,I1,r1,q1⟩=>?_) hs hp) (by decide) (by decide));obtain⟨l1,l2,xs,ys,rfl,hx,hy,q1⟩:=q1;obtain⟨u1,u2,rfl,e1,e2⟩:=x8 r1;cases e1;cases e2;obtain⟨its1,rv1,p1,_⟩:=I1.tuple hx;obtain⟨its2,rv2,p2,_⟩:=I1.list hy;refine A3 p1 p2.isList λh' q2 q3 q4 q5 q6 hk=>?_;have I2:aT X R1 σ H1 {s1 with heap:=h'}:=I1.kept (t':=s1.toks) hk;have b1:l1<s1.heap.objs.size:=by obtain⟨o,ho,_⟩:=p1;exact Sl ho
 have b2:l2<s1.heap.objs.size:=by obtain⟨o,ho,_⟩:=p2.isList;exact Sl ho
 have f:∀i j:Nat,i≠j->s1.heap.objs.size+i≠s1.heap.objs.size+j:=λi j h=>by omega
 have g:∀{l:Nat}(j:Nat),l<s1.heap.objs.size->l≠s1.heap.objs.size+j:=λj h=>by omega
 have c2:∀{l:Z1}{i j:Nat},l<s1.heap.objs.size->i≠j->∀q∈[s1.heap.objs.size+i,l],q≠s1.heap.objs.size+j:=λhl hij q hq=>by
  simp only[Wn,WB,or_false]at hq
  rcases hq with rfl|rfl
  .exact f _ _ hij
  .exact g _ hl
 refine wpAny_pyIter_zip q2 ⟨s1.heap.objs.size+4,[s1.heap.objs.size+4,s1.heap.objs.size+2,s1.heap.objs.size+3,s1.heap.objs.size+0,s1.heap.objs.size+1],_,_,H1,rfl,I2,zU _ _ _ (s1.heap.objs.size+0) _ l1 l2 ⟨⟨f 2 4 (by decide),f 3 4 (by decide),f 0 4 (by decide),f 1 4 (by decide),f 2 3 (by decide),f 3 0 (by decide),f 3 1 (by decide),f 0 1 (by decide),f 2 0 (by decide),f 2 1 (by decide)⟩,c2 b1 (by decide),c2 b1 (by decide),c2 b1 (by decide),c2 b2 (by decide),c2 b2 (by decide),c2 b2 (by decide)⟩ (g 0 b1) (g 1 b2),⟨q2,q3,⟨_,_,q4⟩,q5,q6⟩,λb hb=>?_,q1⟩;have hb2:s1.heap.objs.size<=b:=by
  simp only[Wn,WB,or_false]at hb
  rcases hb with rfl|rfl|rfl|rfl|rfl
  all_goals exact Nat.le_add_right _ _
 exact I1.fpOk hb2 (I1.hok.fresh hb2)
end
def OL{K:Frag}{t:TA}{g:TG}{tt:TT}{te:TE}{src:List (Option Nat)}{σ:St}{H:Hp}{Q:VK}(h:t σ H λvs H1=>tComp (zc K (λ_ H R=>R vs H)) g tt te src σ H1 Q):tComp (zc K t) g tt te src σ H Q:=h
def AY{K:Frag}{σ rest:St}{H:Hp}{te:TE}{src:List (Option Nat)}{Q:VK}{l1 l2:Z1}{xs ys:List V}(h1:dU K H l1 xs)(h2:aV K H l2 ys)(hlen:xs.length=ys.length)(hz:xs.length<=1000)(k1:∀H',ak H H'->dU K H' l1 xs)(hs:gK src σ=none::none::rest)(f:V->V->V)(he:∀(i:Nat)(x y:V)(H':Hp),xs[i]? =some x->ys[i]? =some y->ak H H'->∀Q:VK,(∀H2,ak H' H2->Q (f x y) H2)->te (some x::some y::rest) H' Q)(q:∀H' d,ak H H'->H' d=none->Q (.ref d) (upd H' d (.lst (List.zipWith f xs ys)))):tComp (zc K (λ_ H R=>R [.ref l1,.ref l2] H)) (Dk K 2 (iT (gName 0) (iT (gName 1) AR))) gJ te src σ H Q:=by
 refine⟨l1,l2,xs,ys,rfl,h1,h2,?_⟩;show gq _ gJ te src σ Q (MA K l1 l2) H;refine iF xs.length (λi vs σ' H'=>ak H H'/\(∃o0 o1,σ'=o0::o1::rest)/\vs=List.zipWith f (xs.take i) (ys.take i)) (Ye hz (by decide)) (λi vs σ H h=>?_) (λi vs σ H' h hi=>⟨xs,ys,_,_,k1 _ h.1,h.1.seq h2,Wp hi,Wp (by omega)⟩) (λvs σ H' h=>⟨xs,ys,k1 _ h.1,h.1.seq h2,rfl⟩) ⟨ak.refl H,⟨_,_,hs⟩,by simp⟩ ?_ ?_
 .rw[h.2.2,XG,WJ,WJ];omega
 .rintro i vs _ H1 v H2 hi ⟨s1,⟨o0,o1,rfl⟩,rfl⟩ ⟨tq,x,y,rfl,ht0,hx,hy,rfl⟩ Kt Kf kt kf;have ex:=hx xs (k1 _ s1);have ey:=hy ys (s1.seq h2);have s2:ak H (upd H1 tq (.tup [x,y])):=s1.upd ht0;refine⟨tq,_,rfl,dU.of aj,rfl,_,_,rfl,_,_,rfl,rfl,?_⟩;simp only[gJ,if_true];refine he i x y _ ex ey s2 _ λH3 s3=>kt _ _ _ ⟨s2.trans s3,⟨_,_,rfl⟩,?_⟩;rw[W9,W9,ex,ey];rw[List.zipWith_append (by rw[WJ,WJ,hlen])];rfl
 .rintro vs σ' H' d ⟨s1,_,rfl⟩ hd;rw[WO (Yd _),WO (by omega)];exact q H' d s1 hd
def Ko(P:Ss)(w:World)(K:Frag)(a:Z1)(kvs:List (Key×V)):Prop:=(a == Ts)=false/\
 ∃o es ep vs,K.lookup a=some o/\o.ExactDict/\o.data=.dict es ep/\KeysOf (cU P w) es/\Pairs (cU P w) es.toList vs/\(vs.map (·.1)).Nodup/\KV kvs vs
section
variable{X:Cx}{R1:Sh}{σ:St}{H:Hp}{s:So}{a:Z1}
def Ko.at(d:Ko X.prog X.w X.K a kvs)(I:aT X R1 σ H s):(a == Ts)=false/\∃vs,KV kvs vs/\s.heap.DictOf (cU X.prog X.w) a vs:=by obtain⟨z,o,es,ep,vs,h1,h2,h3,h4,h5,h6,h7⟩:=d;exact⟨z,vs,h7,o,es,ep,I.kIn a o h1,h2,h3,h4,h5,h6⟩
end
def JL(kvs:List (Key×V))(ty:TE):TE:=λσ H Q=>ty σ H λy H2=>∃k,y=kV k/\Q ((valV kvs k).getD .non) H2
def BN(kvs:List (Key×V))(ty:TE):TE:=λσ H Q=>ty σ H λy H2=>∃k v,y=kV k/\valV kvs k=some v/\Q v H2
section
variable{X:Cx}{o e:S8}{apos cpos pos:VL}{ty:TE}{a:Z1}{kvs:List (Key×V)}
def PF{P:Ss}{w:World}{K:Frag}(d:Ko P w K a kvs)(ho:PE X o (tC (.ref a)))(he:PE X e ty)(hP:X.prog=P:=by rfl)(hw:X.w=w:=by rfl)(hK:X.K=K:=by rfl)(hb:TD o "get" X.env (Tj o X.env)=Tj o X.env:=by rfl)(hf:((Tl cpos (Sv [e] X.env)).all (λx=> !x.1)&&(V5 cpos (U2 [] X.env)).all (λx=>x.1.isSome)&&decide (([e]:List S8).length+([]:List Vn).length+(if([]:List Vn).isEmpty then 0 else 1)<30))=true:=by rfl)(hl:(apos.endLine == cpos.line)=true:=by rfl)(ht:Tl cpos (Sv [e] X.env)=[(false,Tj e X.env)]:=by rfl):PE X (.Call (.Attribute o "get" apos) [e] [] cpos) (JL kvs ty):=by
 subst hP hw hK;intro R1 s σ H Q I h;refine wpAny_Call_method hb hf hl PySem.F.plainAttrs_dict PySem.F.slot_dict_get PySem.F.type_dict_get (cK (ho R1 s σ H (λx H1=>x=.ref a/\JL kvs ty σ H1 Q) I ⟨rfl,h⟩) λu s1 ⟨x,H1,I1,rx,ex,q1⟩=>?_);subst ex;obtain rfl:u=Sx a:=rx;obtain⟨z,vs,rel,dd⟩:=d.at I1;refine⟨dd.typeIs,λb q=>?_,?_⟩
 .cases q;obtain⟨ob,_,_,h1,h2,_⟩:=dd;exact⟨ob,h1,h2.2.1⟩
 rw[ht];refine TU rfl (TC (Calls.spliced_cons (cK (he R1 s1 σ H1 _ I1 q1) λiv s2 ⟨y,H2,I2,ry,k,ey,q2⟩=>Calls.spliced_nil ?_)));subst ey;obtain⟨z,vs,rel,dd⟩:=d.at I2;exact call_meetsIn PySem.F.slot_dict_get dd.typeIs PySem.F.entry_dict_get (PySem.F.args_dict_get_2 _ _) (meets_dict_get (cU X.prog X.w) a (vH ry) z) ⟨_,dd.mapOf,⟨(valV kvs k).getD .non,H2,I2.tok _,(rel.val k).getD rfl,q2⟩⟩
def LL{P:Ss}{w:World}{K:Frag}(d:Ko P w K a kvs)(ho:PE X o (tC (.ref a)))(he:PE X e ty)(hs:FO e:=by exact λ_ _=>rfl)(hP:X.prog=P:=by rfl)(hw:X.w=w:=by rfl)(hK:X.K=K:=by rfl):PE X (.Subscript o e pos) (BN kvs ty):=by subst hP hw hK;intro R1 s σ H Q I h;refine yf PySem.F.slot_dict_getitem.lookup hs (cK (ho R1 s σ H (λx H1=>x=.ref a/\BN kvs ty σ H1 Q) I ⟨rfl,h⟩) λu s1 ⟨x,H1,I1,rx,ex,q1⟩=>cK (he R1 s1 σ H1 _ I1 q1) λiv s2 ⟨y,H2,I2,ry,k,v,ey,l,q2⟩=>?_);subst ex ey;obtain rfl:u=Sx a:=rx;obtain⟨z,vs,rel,dd⟩:=d.at I2;obtain⟨w',hw,rw'⟩:=j4.some_of (by rw[<-l];exact rel.val k);exact⟨dd.typeIs,wpAny_getItem_of (vH ry) dd.mapOf hw ⟨v,H2,I2.tok _,rw',q2⟩⟩
end
def KJ(x:V)(vs:List V)(H:Hp)(Q:VK):Prop:=match x,vs with
 | .str a,[.str b]=>b.length=1/\a.length<=1000/\∀p,H p=none->Q (.ref p) (upd H p (.lst ((Sq a b).map V.str)))
 |_,_=>False
theorem uz:∀tk xs,bZ (xs.map V.str) (strsFrom tk xs)
 |_,[]=>.nil
 |tk,x::r=>.cons ⟨tk,rfl⟩ (uz (tk+1) r)
def kI:Bp X "str.split" KJ:=by
 intro R1 s σ H x vs v us Q I rx rv h;unfold KJ at h;split at h
 .rename_i a b;obtain⟨hb,ha,q⟩:=h;obtain⟨t,rfl⟩:=rx;obtain⟨u1,rfl,t1,rfl⟩:=eZ rv;have hy:(b.length == 0)=false:=by rw[hb];rfl
  have hl:(Sq a b).length<=h9:=by
   unfold Sq;split
   .show 1<=h9;decide
   split
   .show 1<=h9;decide
   .rw[UG];have:=Vv a b 0 a.length (a.length+1);rw[Sw];omega
  have new:∀{k:Nat}{its:List Z0},bZ ((Sq a b).map V.str) its->EP X R1 σ Q (.ref s.heap.objs.size) {s with heap:=s.heap.push {cls:=.type "list",data:=.seq its.toArray},toks:=k}:=λhv=>⟨.ref s.heap.objs.size,_,I.lnew hv (by rw[Wm];exact hl),rfl,q _ I.fresh⟩;have it:Sq a b=[a]->bZ ((Sq a b).map V.str) [Uk a t]:=λe=>by rw[e];exact .cons ⟨t,rfl⟩ .nil
  have hz:a.length<=h9:=Ye ha (by decide);cases h1:(decide (a.length<b.length)||decide (Builtin.Str.strKind a<Builtin.Str.strKind b))
  .cases hf:(SV a b 0 a.length (a.length+1)).isEmpty
   .have e:Sq a b=Builtin.Str.partsBetween a (SV a b 0 a.length (a.length+1)) b.length:=(R8 (ne_true_of_eq_false h1)).trans (R8 (ne_true_of_eq_false hf));refine UU Vg (Uv _ _ _) U5 (UY _ _) (meets_str_split_sep a b t t1 h1 hy hf hz (by rw[<-e];exact hl)) ?_;exact new (by rw[e];exact uz _ _)
   .exact UU Vg (Uv _ _ _) U5 (UY _ _) (meets_str_split_not_found a b t t1 h1 hy hf) (new (it ((R8 (ne_true_of_eq_false h1)).trans (R9 hf))))
  .exact UU Vg (Uv _ _ _) U5 (UY _ _) (meets_str_split_cannot_occur a b t t1 h1) (new (it (R9 h1)))
 .exact h.elim
theorem nJ(miss:∀k,k<j->∀Q':ForInStep β->So->Prop,Q' (.yield s0) s->Sn (Su prog w) A (f k s0) Q' E s)(hit:Sn (Su prog w) A (f j s0) (λr s'=>∃b,r=.done b/\R b s') E s):∀m i,i<=j->j<i+m->Sn (Su prog w) A (forIn (List.range' i m 1) s0 f) R E s
 |0,i,h1,h2=>Sc h2 (by omega)
 |m+1,i,h1,h2=>by
  rw[List.range'_succ,Xq]
  by_cases e:i=j
  .subst e;refine Si (SL hit (λr s' h=>?_) (λ_ _ z=>z));obtain⟨b,rfl,q⟩:=h;exact Sk q
  .exact Si (miss i (by omega) _ (nJ miss hit m (i+1) (by omega) (by omega)))
def rO{items:Array Z0}{x:Z0}{n:Nat}{dd:Option Z1}{sl:Array (Option Z0)}(e:Z0->Bool)(j:Nat)(hj:j<items.size)(hit:e items[j]=true)(hno:∀m(hm:m<items.size),m<j->e items[m]=false):Meets (Builtin.«tuple.index» ⟨[.ref l,x],[]⟩) (λA R s=>s.heap.get? l=some {cls:=.type "tuple",dict:=dd,data:=.seq items n,slots:=sl}/\(∀y,y∈items->VW A.in1 s y x (e y))/\R (.ok (.ret (.int j s.toks))) {s with toks:=s.toks+1}):=by
 intro prog w A R s h;obtain⟨hp,g,d,tk,os⟩:=s;obtain⟨hl,he,h⟩:=h;unfold Builtin.«tuple.index»;refine Si (SL (Q:=λp s1=>p=(Sx l,[x])/\s1=⟨hp,g,d,tk,os⟩) (E:=λe s'=>R (.error e) s') ?h0 ?h2 (λ_ _ z=>z))
 case h0=>wp_walk;exact⟨rfl,rfl⟩
 rintro _ _ ⟨rfl,rfl⟩;dsimp only;refine Si (SL (Q:=λp s1=>p=items/\s1=⟨hp,g,d,tk,os⟩) (E:=λe s'=>R (.error e) s') ?h1 ?h3 (λ_ _ z=>z))
 case h1=>wp_walk using AutoSeq1.wpAny_loadPart' hl;exact⟨rfl,rfl⟩
 rintro its _ ⟨ei,rfl⟩;obtain rfl:=ei.symm;refine Si (Sk ?_);refine Si (Sk ?_);rw[Std.Legacy.Range.forIn_eq_forIn_range'];have es:Std.Legacy.Range.size [0:min items.size items.size]=items.size:=by simp[Std.Legacy.Range.size]
 dsimp only;rw[es];refine Si (nJ (j:=j) (λk hk Q' q=>?_) ?_ items.size 0 (Yh _) (by omega))
 .have hki:k<items.size:=by omega
  have e1:items[k]? =some items[k]:=by simp[hki]
  simp only[e1];refine Si (he _ (Y6 hki) prog w _ _ ?_);rw[hno k hki hk,R8 YD]
  wp_walk
  exact q
 .have e1:items[j]? =some items[j]:=by simp[hj]
  simp only[e1];refine Si (he _ (Y6 hj) prog w _ _ ?_);rw[hit,R9 rfl]
  wp_walk
  refine⟨_,rfl,?_⟩
  wp_walk
  exact h
def hV(K:Frag)(p:Z1)(ws:List Str):Prop:= ∃its n sl,K.lookup p=some ⟨.type "tuple",none,.seq its.toArray n,sl⟩/\bZ (ws.map V.str) its
section
def Ki(K:Frag)(to te:TE):TE:=λσ H Q=>to σ H λx H1=>match x with
 | .ref p=>∃ws:List Str,hV K p ws/\te σ H1 λy H2=>∃z,y=.str z/\z∈ws/\Q (.int (ws.idxOf z:Nat)) H2
 |_=>False
def zF(K:Frag){apos cpos:VL}(ho:PE X o to)(he:PE X e te)(hbase:TD o "index" X.env (Tj o X.env)=Tj o X.env:=by rfl)(hfew:((Tl cpos (Sv [e] X.env)).all (λx=> !x.1)&&(V5 cpos (U2 [] X.env)).all (λx=>x.1.isSome)
   &&decide ([e].length+([]:List Vn).length+(if([]:List Vn).isEmpty then 0 else 1)<30))=true:=by rfl) (hline:(apos.endLine == cpos.line)=true:=by rfl) (hs:Sv [e] X.env=(false,Tj e X.env)::Sv [] X.env:=by rfl) (hplain:(Tl cpos (Sv [] X.env)).any (·.1)=false:=by rfl) (hK:X.K=K:=by rfl):PE X (.Call (.Attribute o "index" apos) [e] [] cpos) (Ki K to te):=by
 subst hK;intro R1 s σ H Q I h;refine Up hbase hfew hline rfl (cK (ho R1 s σ H _ I h) λv s1 ⟨x,H1,I1,r1,q1⟩=>?_);cases x with
 |ref l=>
  obtain⟨ws,⟨its,n,sl,hk,rv⟩,q1⟩:=q1;cases r1;have ty:Qu X.K "tuple" (.ref l) H1:=.inr (.inl ⟨rfl,_,hk,rfl,rfl⟩);obtain⟨h1,h2⟩:=ww (x:=.ref l) (v:=.ref l) I1 rfl ty;refine⟨"tuple","tuple.index",PySem.F.plainAttrs_tuple,PySem.F.slot_tuple_index,PySem.F.type_tuple_index,h1,h2,?_⟩;have hA:=(pa_cons he pan hs:PA X [e] (bg te cw)) cpos R1 s1 σ H1 (λvs H2=>∃y,vs=[y]/\∃z,y=.str z/\z∈ws/\Q (.int (ws.idxOf z:Nat)) H2) I1 (by
   show te σ H1 λy H2=>∃y',[y]=[y']/\_;have:(λ(y:V)(H2:Hp)=>∃z,y=.str z/\z∈ws/\Q (.int (ws.idxOf z:Nat)) H2)=λy H2=>∃y',[y]=[y']/\∃z,y'=.str z/\z∈ws/\Q (.int (ws.idxOf z:Nat)) H2:=by
    funext y H2;apply propext
    constructor
    .intro z;exact⟨y,rfl,z⟩
    .rintro⟨y',e,z⟩;have:y=y':=by injection e
     subst this;exact z
   rw[<-this];exact q1)
  rw[hs]at hA ⊢;refine TU (by show(false||(Tl cpos (Sv [] X.env)).any (·.1))=false;rw[hplain]<;>rfl) (TC ?_)
  refine cK hA λus s2 ⟨vs,H2,I2,r2,y,e,z,e2,hz,q5⟩=>?_;subst e e2;obtain⟨u,rfl,ru⟩:=eZ r2;have ho:=I2.kIn _ _ hk;have hlen:=rv.length;rw[Wm]at hlen;have hj:=List.idxOf_lt_length_iff.mpr hz;have fl:(ws.map V.str).all flatV=true:=WC.mpr λy hy=>by obtain⟨k,_,rfl⟩:=Wo.mp hy;rfl
  have at_:∀m(hm:m<its.length),vQ (.str z) its[m]=decide (ws[m]'(by omega)=z):=λm hm=>by
   have hx:(ws.map V.str)[m]? =some (V.str (ws[m]'(by omega))):=by rw[Wr,Wp (by omega)];rfl
   obtain⟨w,hw,rw'⟩:=rv.get hx;rw[Wp hm]at hw;have hw:=Sd hw;rw[hw,xB rw' rfl];rfl
  refine UU PySem.F.slot_tuple_index ⟨_,ho,rfl⟩ PySem.F.entry_tuple_index (lP _ _) (rO (vQ (.str z)) (ws.idxOf z) (by rw[Wt];omega) ?_ ?_) ⟨ho,λw hw=>jo ru rfl rv fl w (by simpa using hw),?_⟩
  .rw[X5,at_ _ (by omega),List.getElem_idxOf hj];exact R6 rfl
  .intro m hm hlt;have hm':m<its.length:=by simpa using hm
   rw[X5,at_ m hm'];refine R7 λw=>?_;have h1:=List.not_of_lt_findIdx hlt;rw[w]at h1;simp at h1
  .exact⟨.int (ws.idxOf z:Nat),H2,I2.tok _,⟨_,rfl⟩,q5⟩
 |_=>exact q1.elim
end
def PD(hu:X.A.units+20<Tz)(ho:PE X o td)(hi:PE X i ty)(hv:PE X value tv)(hs:Uh value (some (.Subscript o i pos')) pos.line X.env=pure false:=by rfl):PS X (.Assign [.Subscript o i pos'] value pos) (yD td ty tv):=EL (by omega) ho hi hv hs
end L2
namespace PySem
open Sem (wp)
section
variable{prog:Ss}{w:World}{A:S5}{E:Sg}{h:SD}{g:Array UX}{d:Drawn}{t:Nat}{os:T7}
variable{nm q:Str}{C N:Z1}{bs bm bmB:List Z0}{hdct:Bool}{sn:List Str}{sub:List Z0}{ab:Bool}{col:Option Bool}{dd:Option Z1}{k0 k1 k2 k3 k5:Option Z0}{B newId initId:String}
def nR(F:Vo B newId initId bmB)(T:Wf h bmB bm)(hC:h.get? C=some (Uz nm q C N bs bm hdct sn sub ab col dd k0 k1 k2 k3 k5 newId))(hn:h.Ns N mN)(hi:mN "__init__"=some (.ref fI))(hfI:h.get? fI=some oI)(hfc:oI.cls=.type "function")(hq:∀h' e,Us h h' e (.ref C) rest->
   Sn (Su prog w) A (call (.ref fI) (.ref e::rest)) (λr s'=>r=.none/\Q (.done (.ret (.ref e))) s') E ⟨h',g,d,t,os⟩) (hrest:rest.length<=h9):Sn (Su prog w) A (Builtin.«type.__call__» ⟨.ref C::rest,[]⟩) Q E ⟨h,g,d,t,os⟩:=by
 repeat (first|with_reducible refine TZ hC ?_|with_reducible refine wpAny_madeBy_exc hC ?_|wp_step)
 refine codeAny_call_builtin_code (TR _ F.quiet) (wpAny_check_new_subT F T hC ?_);refine codeAny_exc_new_subT F T hC ?_ hrest;show Sn _ _ _ _ _ _;have hC₁:=Sj {cls:=.ref C,data:=.fields #[.ref h.objs.size,.none,.none,.none,.bool false,.none]}
  (Sj {cls:=.type "tuple",data:=.seq rest.toArray} hC)
 have hfI₁:=Sj {cls:=.ref C,data:=.fields #[.ref h.objs.size,.none,.none,.none,.bool false,.none]}
  (Sj {cls:=.type "tuple",data:=.seq rest.toArray} hfI)
 have hn₁:((h.push {cls:=.type "tuple",data:=.seq rest.toArray}).push {cls:=.ref C,data:=.fields #[.ref h.objs.size,.none,.none,.none,.bool false,.none]}).Ns N mN:=
  let ⟨o,es,ep,e,r⟩:=hn;⟨o,es,ep,Sj _ (Sj _ e),r⟩
 have hget:((h.push {cls:=.type "tuple",data:=.seq rest.toArray}).push
   {cls:=.ref C,data:=.fields #[.ref h.objs.size,.none,.none,.none,.bool false,.none]}).get? (h.objs.size+1)=some
   {cls:=.ref C,data:=.fields #[.ref h.objs.size,.none,.none,.none,.bool false,.none]}:=by heap_get
 have hcC:(Sx C::bm).contains (.ref C)=true:=by simp
 have T₁:=T.keeps (h':=(h.push {cls:=.type "tuple",data:=.seq rest.toArray}).push {cls:=.ref C,data:=.fields #[.ref h.objs.size,.none,.none,.none,.bool false,.none]})
  λb o e=>Sj _ (Sj _ e)
 unfold VT
 repeat (first|with_reducible refine TZ hget ?_|(with_reducible refine wpAny_isSubtype_exc hC₁ ?_;rw[hcC])|wp_step)
 show Sn _ _ (Vi (.ref C) _) _ _ _;refine wpAny_typeLookup_tail hC₁ hn₁ T₁ F.mroIs F.init.lookup ?_;rw[hi];refine SE (Si ?_);unfold bindSpecial;refine Si (Um (T:="function") ⟨_,hfI₁,hfc⟩ ?_);rw[R9 (by decide)];refine Sk (Si (SL (hq _ (h.objs.size+1) ⟨λb o hb=>Sj _ (Sj _ hb),T6 (Yj _),h.objs.size,hget,T6 (Yd _),?_⟩) (λr s' hr=>?_) λ_ _ x=>x))
 .exact Sj _ (Heap.get?_push_at rfl rfl)
 .obtain⟨rfl,hQ⟩:=hr
  wp_walk
  exact hQ
def call_initT(F:Vo B newId initId bmB)(T:Wf h bmB bm)(hC:h.get? C=some (Uz nm q C N bs bm hdct sn sub ab col dd k0 k1 k2 k3 k5 newId))(hn:h.Ns N mN)(hi:mN "__init__"=some (.ref fI))(hfI:h.get? fI=some oI)(hfc:oI.cls=.type "function")(hq:∀h' e,Us h h' e (.ref C) rest->
   Sn (Su prog w) (A.under (.builtin "type.__call__" ⟨.ref C::rest,[]⟩)) (call (.ref fI) (.ref e::rest)) (λr s'=>r=.none/\Q (.ref e) s') E ⟨h',g,d,t,os⟩) (hrest:rest.length<=h9):Sn (Su prog w) A (call (.ref C) rest) Q E ⟨h,g,d,t,os⟩:=by
 have f1:=tc_lookup;have f2:=tc_bind (.ref C);have hT:(⟨h,g,d,t,os⟩:So).TypeIs (.ref C) "type":=⟨_,hC,rfl⟩;refine Tr (UC ?_);show Sn _ _ (callAny (.ref C) _) _ _ _
 repeat (any_goals (first|assumption|with_reducible refine TZ hC ?_|wp_step))
 refine⟨rfl,?_⟩;refine codeAny_call_builtin_at (TR _ (by decide+kernel)) entry_typeCall (wpAny_check_type_call_sub hC (nR F T hC hn hi hfI hfc (λh' e hm=>?_) hrest));exact hq h' e hm
end
end PySem
namespace PySem.W
open PySem PySem.Calls PyProof.Rows Builtin Builtin.ObjectAttr
def Rg:List Z0:=[.type "ValueError",.type "Exception",.type "BaseException",.type "object"]
def sU:List Z0->Bool
 | .ref _::r=>sU r
 |l=>l == Rg
theorem qL(self:Z0):∀{l:List Z0},sU l=true->refuseLoop self "__setattr__" l=pure ()
 | .ref c::r,e=>by rw[refuseLoop_ref];exact qL self e
 | [],e=>by cases(beq_iff_eq.mp e)
 | .none::r,e=>by cases(beq_iff_eq.mp e)
 | .bool _::r,e=>by cases(beq_iff_eq.mp e)
 | .int _ _::r,e=>by cases(beq_iff_eq.mp e)
 | .type n::r,e=>by have e:=beq_iff_eq.mp e;rw[e];exact PySem.F.store_ValueError.passes self
 | .str _ _::r,e=>by cases(beq_iff_eq.mp e)
 | .builtin _::r,e=>by cases(beq_iff_eq.mp e)
theorem BB:∀{l:List Z0},sU l=true->l.contains (.type "object")=true
 | .ref c::r,e=>by rw[X6,BB (l:=r) e,YT]
 | .type n::r,e=>by have e:=beq_iff_eq.mp e;rw[e];decide
def excOver(K:Frag)(C:Z1):Bool:=(clsIn K C).any λcd=>sU cd.mro
section
variable{prog:Ss}{w:World}{A:S5}{E:Sg}{s:So}{K:Frag}{x C:Z1}{name:Str}{R:Result->So->Prop}
def CH(X:K.In s.heap)(I:InstAt s.heap x ox C od)(hp:excOver K C=true)(ht:takerIn K C name=some r)(h:∀b,Sn (Su prog w) A.in1 (match r with|some a=>setByDescriptor a (.ref x) v|none=>storeInOwnDict (.ref x) (.ref C) (.str name tk) name v b)
   (λfin s'=>match fin with| .done f=>R (.ok f) s'| .again c'=>c'.quiet=true/\TN (Su prog w) A c' R s') (λe s'=>R (.error e) s') s):TN (Su prog w) A (.call (.builtin "object.__setattr__") ⟨[.ref x,.str name tk,v],[]⟩) R s:=by
 have SF:=PySem.F.store_object;obtain⟨cd,hc,ho⟩:=any_some hp;have ne:cd.mro.isEmpty=false:=by cases q:cd.mro with|nil=>rw[q]at ho;cases ho|cons _ _=>rfl
 have sub:Wk (Su prog w) s.heap (VT (.ref x) (.type "object")) true:=I.type.andThen (VB X (by unfold mroIn;rw[hc,Za,R8 (by rw[ne];decide),BB ho]));refine Th SF.slot.plain SF.entry (@check_slot (Su prog w) _ _ s "object.__setattr__" "object" "__setattr__" (.ref x) [.str name tk,v] [] _ SF.kind SF.split sub (SF.args (.ref x) (.str name tk) v) ?_);obtain⟨attr,ha,hr⟩:=Zb.mp ht;have hm:Wk (Su prog w) s.heap (mroOf (.ref C)) cd.mro:=(looks_clsIn X hc).andThen .now;have L3:Wk (Su prog w) s.heap (storeTaker? attr) r:=by
  cases attr with
  |none=>cases hr;exact .now
  |some a=>
   obtain⟨b,hb,rfl⟩:=Y7.mp hr;refine(looks_takesIn X hb).andThen ?_;cases b<;>exact .now
 rw[osa_eq,refuse_eq];refine Si (Si (I.type.here (Si (hm.here ?_))));rw[qL _ ho];refine Sk (Si (I.type.here (Si ((UH X ha).here (Si (L3.here ?_))))));exact h _
def exc_set(X:K.In s.heap)(hx:s.heap.get? x=some ⟨.ref C,none,.fields vs,sl⟩)(hs:Wh K (.ref C) "__setattr__"=some (some (.builtin "object.__setattr__")))(hp:excOver K C=true)(ht:takerIn K C name=some none)(hh:hasDictIn K C=true)(h:∀h' dx,h'.get? x=some ⟨.ref C,some dx,.fields vs,sl⟩->s.heap.objs.size<=dx->h'.Ns1 dx (λy=>if y=name then some v else none)->(∀b o,b≠x->s.heap.get? b=some o->h'.get? b=some o)->Q () {s with heap:=h',toks:=s.toks+2}):Sn (Su prog w) A (setAttr (.ref x) name v) Q E s:=by
 have I:InstAt s.heap x ⟨.ref C,none,.fields vs,sl⟩ C none:=⟨hx,rfl,rfl,True.intro⟩;refine set_plain X I hs (CH (s:={s with toks:=s.toks+1}) (r:=none) X I hp ht λb=>?_);obtain⟨cd,hc,hd'⟩:=any_some hh;refine Si (Sk (Si (Si (Vy hx (Si (Looks.here (s:={s with toks:=s.toks+1}) (looks_clsIn X hc) ?_))))));rw[hd'];have hx₁:(s.heap.push {cls:=.type "dict",data:=.dict #[]}).get? x=some ⟨.ref C,none,.fields vs,sl⟩:=Sj _ hx;have hxs:x≠s.heap.objs.size:=Yg (Sl hx);refine Si (wpAny_alloc' ?_);refine Si (wpAny_update' hx₁ ?_);refine Sk ?_;have hgd:((s.heap.push {cls:=.type "dict",data:=.dict #[]}).update x λo=>{o with dict:=some s.heap.objs.size}).get? s.heap.objs.size=some {cls:=.type "dict",data:=.dict #[]}:=
  (Heap.get?_update_ne _ _ _ _ hxs.symm).trans (Heap.get?_push_at rfl rfl)
 have hnd:((s.heap.push {cls:=.type "dict",data:=.dict #[]}).update x λo=>{o with dict:=some s.heap.objs.size}).Ns s.heap.objs.size (λ_=>none):=
  ⟨_,#[],_,hgd,rfl,λe he=>Sc he (by simp),λ_=>rfl⟩
 show Sn _ _ (storeInDict s.heap.objs.size (.str name _) name v) _ _ _;unfold storeInDict newKeyGuard;refine Si (Sk (Si (wpAny_nsSet1 (Heap.Ns1.of_empty hnd) λh' hn' hs'=>?_)));obtain⟨oD,esD,epD,hoD,hdD,hcD⟩:=hn'.count (Within.cons name v Within.nil);refine Si (wpAny_lookBehind hoD (by rw[hdD];exact pastItsLine_dict (Ye hcD (by rw[Wx,W5,Sw];omega))) ?_);refine Sk (h h' s.heap.objs.size ?_ (Yd _) hn' λb ob hbx hb=>?_)
 .exact(hs'.2 x hxs).trans (SJ _ hx₁ rfl)
 .exact(hs'.2 b (Yg (Sl hb))).trans ((Heap.get?_update_ne _ _ _ _ hbx).trans (Sj _ hb))
def exc_get(X:K.In s.heap)(I:InstAt s.heap x ox C od)(hga:Wh K (.ref C) "__getattribute__"=some (some (.builtin "BaseException.__getattribute__")))(hk:Wh K (.ref C) "__getattr__"=some none)(hb:mroIn K C (.type "BaseException")=some true)(hf:findObj K C od name=some (.value v))(hh:handedIn v=true)(h:Q v {s with toks:=s.toks+1}):Sn (Su prog w) A (getAttr (.ref x) name expr) Q E s:=by have L0:=I.type (M:=Su prog w);refine Si (wpAny_mkText (SE (Si (L0 _ _ _ _ (λ_ _ e=>e) (Si (UH X hga _ _ _ _ (λ_ _ e=>e) ?_))))));dsimp only;rw[show(onTheHeap (.ref C)&&TX "BaseException.__getattribute__" == TX "object.__getattribute__")=false from by rw[show(TX "BaseException.__getattribute__" == TX "object.__getattribute__")=false from by decide+kernel,YJ],R8 (by decide)];refine Si (looks_hook (mc:=.ref C) (r:=none) X hk _ _ _ _ (λ_ _ e=>e) (Si (Tb (SE ?_))));unfold callGetattribute;rw[show(expr&&onTheHeap (TX "BaseException.__getattribute__"))=false from YJ _,R8 (by decide)];unfold boundAndCalled;rw[PySem.F.excAttr_ValueError.ga.bind];refine Si (Sk ?_);show Sn _ _ (call (.builtin "BaseException.__getattribute__") [.ref x,.str name s.toks]) _ _ _;refine Tr ?_;refine Th PySem.F.excAttr_ValueError.ga.plain PySem.F.entry_bexc_ga ?_;refine @check_slot (Su prog w) _ _ {s with toks:=s.toks+1} "BaseException.__getattribute__" "BaseException" "__getattribute__" (.ref x) [.str name s.toks] [] _ (by decide+kernel) (by decide+kernel) (L0.andThen (VB X hb)) (PySem.F.args_bexc_ga (.ref x) (.str name s.toks)) ?_;have L1:=looks_find (M:=Su prog w) X I hf;refine Si (Sk (Si (Sk (Si (Looks.here (s:={s with toks:=s.toks+1}) L0 (Si (Looks.here (s:={s with toks:=s.toks+1}) L1 ?_)))))));refine Sk ?_;show Sn _ _ (handedOut v) _ _ _;rw[handedOut_of hh];exact Sk h
end
end PySem.W
namespace L2
open PySem PySem.Spec PyProof.Rows
def Ql(X:Cx)(EX:XK):Prop:= ∀R1 σ H1 s1 e s',aT X R1 σ H1 s1->Kp X.prog X.w X.stack H1 s1 EX e s'->X.xe e s'
def xo{P:Ss}{w:World}{K:Frag}{mg:Sf}{R4:SD}{N:List Str}{qual:Str}{scope:T8}{f:Z1}{cd:Z0}{A:S5}{R5:List Wd}{s:So}{H:Hp}{E:XK}:Ql (iZ (Kp P w) P w K mg R4 N qual scope f cd A R5 s H E) E:=by
 intro R1 σ H1 s1 e s' I z;obtain⟨a,cls,a0,B,H',rfl,os,bare,new,ha,fl,hok,un,c1,c2,hE⟩:=z;have fr:(A.deeper (SN qual scope s.heap.objs.size f cd)).frames=some (SN qual scope s.heap.objs.size f cd::R5):=I.ok.frames;have BU:Un (iI R5) [] H H1 s.heap s1.heap:=I.R4;have notin:∀b o,s.heap.get? b=some o->b∉iI R5->b∉iI (SN qual scope s.heap.objs.size f cd::R5):=λb o q nb hb=>by
  obtain⟨env,he,hf⟩:=WM.mp hb
  rcases Wn.mp he with rfl|he
  .have:s.heap.objs.size=b:=Sd hf;rw[<-this]at q;exact Sc (Sl q) (Yk _)
  .exact nb (WM.mpr ⟨env,he,hf⟩)
 show Sn _ _ (UI _ _) _ _ _;refine wpAny_leaves_onW fr rfl fl λh' fl' u=>?_;have I5:=I.flown (a:=a) (cls:=cls) (a0:=a0) os bare fl.2.2.1 fl'.1 hok un u c1 c2;refine⟨a,cls,a0,B,H',rfl,os.trans I.os,bare,?_,ha,fl',hok,I5.R4,λb o q n hb=>?_,λb o q hb=>?_,hE⟩
 .cases q:s.heap.get? a with
  |none=>rfl
  |some o=>
   obtain⟨o',q'⟩:=BU.there a o q (by simp);rw[new]at q';cases q'
 .exact c1 b o (BU.keep b o q n hb (by simp)) (BU.free b o q n (by simp)) (notin b o q hb)
 .obtain⟨o',q1⟩:=BU.there b o q (by simp);exact c2 b o' q1 (notin b o q hb)
def veL:List Z0:=[.type "ValueError",.type "Exception",.type "BaseException",.type "object"]
def w9{K:Frag}{h:SD}{N:Z1}{mg:Sf}{n:Str}{v:Z0}(X:K.In h)(G:h.Ns N mg)(e:Ze K N n=some (some v)):mg n=some v:=by
 obtain⟨o,es,ep,ho,hd,_,hf⟩:=G;unfold Ze at e;split at e
 .rename_i c d es' n' sl q;have:=X _ _ q;rw[ho]at this;cases this;cases hd;split at e
  .rename_i en he;cases e;rw[<-hf];unfold nsFind findBy;rw[<-Y2,he];rfl
  .split at e<;>cases e
 .cases e
def tW(K:Frag)(C f:Z1)(bmB:List Z0)(newId:String):Bool:=match K.lookup C with
 |some ⟨.type "type",_,.cls cd,sl⟩=>(match cd.mro,sl.toList with
  | .ref C'::bm,[_,_,_,_,some (.builtin n),_]=>C' == C&&n == newId&& !cd.hasDel&&PySem.W.tailIn K bmB bm&&PySem.W.nsOkIn K cd.ns&&Ze K cd.ns "__init__" == some (some (.ref f))
  |_,_=>false)
 |_=>false
def vO{K:Frag}{h:SD}{C f:Z1}{bmB:List Z0}{newId:String}(X:K.In h)(q:tW K C f bmB newId=true):∃bm N nm qn bs hdct sn sub ab col dd k0 k1 k2 k3 k5 mN,h.get? C=some (Uz nm qn C N bs bm hdct sn sub ab col dd k0 k1 k2 k3 k5 newId)/\h.Ns N mN/\mN "__init__"=some (.ref f)/\Wf h bmB bm:=by
 unfold tW at q;split at q
 .rename_i dd cd sl ho;split at q
  .rename_i C' bm k0 k1 k2 k3 n k5 hm hs;simp only[YC,beq_iff_eq,YH]at q;obtain⟨⟨⟨⟨⟨rfl,rfl⟩,hdel⟩,ht⟩,hok⟩,hni⟩:=q;obtain⟨nm,bs,mro,ns,qn,hd,sn,sub,ab,col,del⟩:=cd;dsimp only at hm hdel hok hni;subst hm hdel;have hsl:sl= #[k0,k1,k2,k3,some (.builtin n),k5]:=by obtain⟨l⟩:=sl;simp only at hs;rw[hs]
   subst hsl;have N1:h.Ns ns (h.nsMap ns):=.of_isNs (ZQ X hok);refine⟨bm,ns,nm,qn,bs,hd,sn,sub,ab,col,dd,k0,k1,k2,k3,k5,_,X _ _ ho,N1,w9 X N1 hni,ZR X ht⟩
  .cases q
 .cases q
def gX(C:Z1)(d:Option Z1)(a:Z1):HO:=.ext λh=>∃t,h.get? a=some {cls:=.ref C,dict:=d,data:=.fields #[.ref t,.none,.none,.none,.bool false,.none]}
def gX.ok(e:h.get? a=some {cls:=.ref C,dict:=d,data:=.fields #[.ref t,.none,.none,.none,.bool false,.none]}):cb P w H h a (gX C d a):=
 ⟨⟨t,e⟩,⟨_,e⟩,λ_ _ ⟨t,e⟩ k=>⟨t,k _ e⟩⟩
theorem gX.get(x:cb P w H h a (gX C d a)):∃t,h.get? a=some {cls:=.ref C,dict:=d,data:=.fields #[.ref t,.none,.none,.none,.bool false,.none]}:=by obtain⟨p,_⟩:=(show cb P w H h a (.ext _)from x);exact p
section
variable{X:Cx}{R1:Sh}{σ:St}{H:Hp}{s:So}
def aT.trackO(I:aT X R1 σ H s)(ho:cb X.prog X.w (upd H a o) s.heap a o)(hn:H a=none)(I1:aT X R1 σ H1 s1)(new:s1.heap.get? a=none):aT X R1 σ (upd H a o) s:=by
 have neq:∀b u,s1.heap.get? b=some u->b≠a:=λb u q z=>by rw[z,new]at q;cases q
 have neH:∀b u,H b=some u->b≠a:=λb u q z=>by rw[z,hn]at q;cases q
 refine⟨I.ok,I.os,I.bare,⟨I.R4.keep,I.R4.slot,λb o q n hx=>?_,I.R4.there,λb xs q=>?_,λb o u q=>?_,λb ps q=>?_⟩,I.loc,I.cell,?_,λx c q=>?_,λp hp=>?_,λb u q=>?_,I.len⟩
 .obtain⟨o',q'⟩:=I1.R4.there b o q hx;rw[av (neq b o' q')];exact I.R4.free b o q n hx
 .rw[av (neH b _ (I.R4.tups b xs q))];exact I.R4.tups b xs q
 .rw[av (neH b _ (I.R4.frzs b o u q))];exact I.R4.frzs b o u q
 .obtain⟨m,z⟩:=I.R4.tbls b ps q;exact⟨m,by rw[av (neH b _ z)];exact z⟩
 .obtain⟨m,⟨o,_,_,q,_⟩,_⟩:=I1.loc;rw[av (neq _ o q)];exact I.free
 .obtain⟨v,o,z,_⟩:=I1.cell x c q;rw[av (neq c o z)];exact I.freeC x c q
 .obtain⟨e,n,ne,nf,d⟩:=I.pin p hp;exact⟨e,by rw[av (neq _ _ (I1.pin p hp).1)];exact n,ne,nf,d⟩
 .by_cases hb:b=a
  .subst hb;rw[aj]at q;cases q;exact ho
  .rw[av hb]at q;exact(I.hok b u q).stay (λ_ _ _ z=>z) (λc z=>by rw[av (neH c _ z)];exact z) λc xs z=>by rw[av (neH c _ z)];exact z
end
def tFs(a b:Str)(te:TE):TE:=λσ H Q=>te σ H λx H1=>∃i:Nat,x=.int (i:Int)/\i<=400/\∀z:Str,Q (.str z) H1
def Lz:∀i∈List.range 401,(toString (i:Int):Str).length<=3:=by decide+kernel
def Lx:∀i∈List.range 401,i.log2<1920:=by decide+kernel
section
def Lf(he:PE X e te)(hab:a.length+b.length<=1000):PE X (.JoinedStr [.Constant (.str a) k1 p1,.FormattedValue e (-1) none p2,.Constant (.str b) k2 p3] pos) (tFs a b te):=by
 intro R1 s σ H Q I h;have LA:∀(x y:Str),(x++y).length=x.length+y.length:=λx y=>by rw[bV,gF,Wq];rfl
 have l0:(Tx:Str).length=0:=rfl;refine PySem.wpAny_JoinedStr (cK (aI R1 s σ H (λv H'=>v=.str a/\H'=H) I ⟨rfl,rfl⟩) ?_);rintro u s1 ⟨v,H1,I1,r,rfl,rfl⟩;obtain⟨tk,rfl⟩:=r;refine⟨a,tk,rfl,by rw[LA,Sw];omega,?_⟩;refine PySem.wpAny_FormattedValue_plain (cK (he R1 s1 σ H1 _ I1 h) ?_);rintro u s2 ⟨v,H2,I2,r,i,rfl,hi,q⟩;obtain⟨tk2,rfl⟩:=r;have l3:=Lz i (WG.mpr (by omega));refine PySem.wpAny_formatField_int (by rw[Int.natAbs_natCast];exact Lx i (WG.mpr (by omega))) ?_;refine⟨toString (i:Int),_,rfl,by rw[LA,LA,Sw];omega,?_⟩;refine cK (aI (j:=k2) (pos:=p3) R1 _ σ H2 (λv H'=>v=.str b/\H'=H2) (I2.tok _) ⟨rfl,rfl⟩) ?_;rintro u s3 ⟨v,H3,I3,r,rfl,rfl⟩;obtain⟨tk3,rfl⟩:=r;refine⟨b,tk3,rfl,by rw[LA,LA,LA,Sw];omega,by rw[LA,LA,LA,Sw];omega,⟨.str _,H3,I3.tok _,⟨_,rfl⟩,q _⟩⟩
end
def Dq{prog:Ss}{w:World}{A:S5}{E:Sg}{h:SD}{g:Array UX}{d:Drawn}{t:Nat}{os:T7}{nm q:Str}{C N:Z1}{bs bm bmB:List Z0}{hdct:Bool}{sn:List Str}{sub:List Z0}{ab:Bool}{col:Option Bool}{dd:Option Z1}{k0 k1 k2 k3 k5:Option Z0}{B newId initId:String}{e t0:Z1}{rest:List Z0}{dx:Option Z1}{Q:Sg}(F:Vo B newId initId bmB)(T:Wf h bmB bm)(hC:h.get? C=some (Uz nm q C N bs bm hdct sn sub ab col dd k0 k1 k2 k3 k5 newId))(he:h.get? e=some {cls:=.ref C,dict:=dx,data:=.fields #[.ref t0,.none,.none,.none,.bool false,.none]})(hq:∀h' t',h'.get? e=some {cls:=.ref C,dict:=dx,data:=.fields #[.ref t',.none,.none,.none,.bool false,.none]}->(∀b o,b≠e->h.get? b=some o->h'.get? b=some o)->Q .none ⟨h',g,d,t,os⟩)(hrest:rest.length<=h9):Sn (Su prog w) A (call (.builtin initId) (.ref e::rest)) Q E ⟨h,g,d,t,os⟩:=by
 refine Tr (Th F.init.plain F.initEntry (wpAny_check_init_subT F T hC he rfl ?_))
 wp_walk
 refine hq _ h.objs.size ?_ λb o hb hq'=>?_
 .rw[SJ _ (Sj _ he) rfl];rfl
 .rw[SA _ _ (Ne.symm hb)];exact Sj _ hq'
structure XI(K:Frag)(P0:Z1):Prop where
 rd:ZT K P0 (.type "type")=true
 fc:ZU K (.ref P0) (.type "type") "__init__"=some (.val (.builtin "ValueError.__init__"))
 ga:ZA K (.ref P0) "__getattribute__"=some (some (.builtin "type.__getattribute__"))
structure XC(K:Frag)(C f:Z1)(nm:Str):Prop where
 ini:tW K C f veL "ValueError.__new__"=true
 sa:Zg K (.ref C) "__setattr__"=some (some (.builtin "object.__setattr__"))
 ov:PySem.W.excOver K C=true
 no:dG K C nm
 hd:Zr K C=true
 ga:Zg K (.ref C) "__getattribute__"=some (some (.builtin "BaseException.__getattribute__"))
 gt:Zg K (.ref C) "__getattr__"=some none
 bx:Zm K C (.type "BaseException")=some true
 cp:PySem.W.copiedNames.contains nm=false
def cXI(K:Frag)(t:TA):TE:=λσ H Q=>t σ H λvs H1=>∃a C f v d nm,vs=[.ref a,v]/\XC K C f nm/\H1 a=some (gX C d a)/\Q .non H1
def BE(h:H a=some o):upd H a o=H:=by
 funext b;unfold upd
 by_cases e:b=a
 .rw[R9 e,e,h]
 .rw[R8 e]
section
variable{X:Cx}{e:S8}{es:List S8}{t:TA}{x:Str}{P0:Z1}{np apos pos:VL}
def CB{pl:Sem Bool}(hm:X.mg x=some (.ref P0))(xi:XI X.K P0)(ha:PA X (e::es) t)(hp:(e::es).all fj=true:=by rfl)(hg:Gl X x:=by rfl)(hdb:(x == ("__debug__":Str))=false:=by decide)(ht:Tj (.Call (.Attribute (.Name x np) "__init__" apos) (e::es) [] pos) X.env=(do
   let ov<-Tj (.Name x np) X.env
   standAt apos.atName
   let (f,first)<-V4 [ov] (getMethod ov "__init__" pl)
   callWith pos f first (Tl pos (Sv (e::es) X.env)) (V5 pos (U2 [] X.env))):=by rfl):PE X (.Call (.Attribute (.Name x np) "__init__" apos) (e::es) [] pos) (cXI X.K t):=by
 have hp':=hp;rw[WE,YC]at hp';intro R1 s σ H Q I h;refine PySem.W.methodCall_KW (pl:=pl) (ig I hg hm ?_ hdb) ht;refine PySem.W.method_cls I.kIn xi.ga (PySem.W.cls_value I.kIn xi.rd xi.fc (by decide+kernel) ?_);refine PyProof.Rows.callWith_builtin1 (cK (ha pos R1 _ σ H _ (I.tok _) h) λus s2 ⟨vs,H2,I2,r,q2⟩=>?_) (fF hp'.1) (gI hp'.2);obtain⟨a,C,f,v,d,nm,rfl,xc,ea,q⟩:=q2;obtain⟨u1,u2,rfl,r1,r2⟩:=r.two;obtain rfl:u1=Sx a:=r1;obtain⟨tl,N,nm',qn,bs,hdct,sn,sub,ab,col,dd,k0,k1,k2,k3,k5,mN,hC,hN,hi,T⟩:=vO I2.kIn xc.ini;obtain⟨t0,he⟩:=gX.get (I2.hok a _ ea);obtain⟨hh,g,dr,tk,os⟩:=s2;refine Dq F.excBase_ValueError T hC he (λh' t' e' k'=>?_) (by show 1<=h9;decide);have J:=I2.write (x:=a) (e:=a) (o:=gX C d a) (h':=h') (t':=tk) (by rw[ea];exact True.intro) (.inl rfl) (λb o hb q=>k' b o hb q) ⟨_,e'⟩ (gX.ok e');rw[BE ea]at J;exact⟨.non,H2,J,rfl,q⟩
def sXF(K:Frag)(ta tv:TE)(nm:Str):TS:=λD σ H=>tv σ H λy H1=>ta σ H1 λx H2=>∃a C f,x=.ref a/\XC K C f nm/\H2 a=some (gX C none a)/\∀dx,H2 dx=none->dx≠a->D.nx σ (upd (upd H2 a (gX C (some dx) a)) dx (.xd [(nm,y)]))
def EJ(ha:PE X o ta)(hv:PE X value tv)(hs:Uh value (some (.Attribute o nm pos')) pos.line X.env=pure false):PS X (.Assign [.Attribute o nm pos'] value pos) (sXF X.K ta tv nm):=by
 intro R1 s σ H D I h;refine Ut (cK (hv R1 s σ H _ I h) λu s1 ⟨y,H1,I1,ry,q⟩=>cK (ha R1 s1 σ H1 _ I1 q) λov s2 ⟨x,H2,I2,rx,a,C,f,ex,xc,ea,q2⟩=>?_) hs;subst ex;obtain rfl:ov=Sx a:=rx;obtain⟨t0,he⟩:=gX.get (I2.hok a _ ea);refine PySem.W.exc_set I2.kIn he xc.sa xc.ov xc.no.taker xc.hd λh' dx e' nd ns k'=>?_;have fr:H2 dx=none:=I2.hok.fresh nd;have ne:dx≠a:=λz=>by rw[z,ea]at fr;cases fr
 have J:=I2.write (x:=a) (e:=a) (o:=gX C (some dx) a) (h':=h') (t':=s2.toks+2) (by rw[ea];exact True.intro) (.inl rfl) (λb o hb q=>k' b o hb q) ⟨_,e'⟩ (gX.ok e');have new:s2.heap.get? dx=none:=T6 nd;refine⟨σ,_,J.trackO (o:=.xd [(nm,y)]) ⟨_,ns,λg=>?_⟩ (by rw[av ne];exact fr) I2 new,q2 dx fr ne⟩;show j4 (List.lookup g [(nm,y)]) (if g=nm then some u else none)
 by_cases hg:g=nm
 .subst hg;rw[R9 rfl,List.lookup_cons_self];exact ry
 .rw[R8 hg,WU,show(g == nm)=false from by simpa using hg];exact True.intro
end
def uU(hbase:bm.contains (.type "BaseException")=true)(hh:A.handled=none)(h:Sn M A (Tj ex env) (λv s₁=>∃e t dx,v=.ref e/\s₁.heap.get? C=some (Uz nm q C N bs bm hdct sn sub ab col dd k0 k1 k2 k3 k5 newId)/\
   s₁.heap.get? e=some {cls:=.ref C,dict:=dx,data:=.fields #[.ref t,.none,.none,.none,.bool false,.none]}/\E (.ref e) s₁) E s):Sn M A (exec (.Raise (some ex) none pos) env) Q E s:=by
 have hcB:(Sx C::bm).contains (.type "BaseException")=true:=by rw[X6,hbase,YT]
 rw[arm_exec_Raise];refine Si (Ub ?_);unfold raiseStmt;refine Si (Si (SL h (λv s₁ h₁=>Si (Ub (Sk ?_))) λ_ _ x=>x));obtain⟨e,t,dx,rfl,hC,he,hE⟩:=h₁;obtain⟨hp,g,d,tk,os⟩:=s₁
 repeat (first|with_reducible refine TZ he ?_|with_reducible refine TZ hC ?_|(with_reducible refine wpAny_isSubtype_exc hC ?_;rw[hcB])|wp_step)
 exact wpAny_raiseNew_none hh hE
structure RO(P:Ss)(w:World)(K:Frag)(mg:Sf)(R4:SD)(name:Str)(C:Z1)(nm:Str)(ps:List Str)(k:Nat)(sp:Sp):Prop where
 ex:∃f fd,XC K C f nm/\Zx K (.ref f)=true/\Zj K (.ref C)=true/\bM P w K mg R4 fM k f fd ps sp/\mg name=some (.ref C)/\j1 K fd ps []
def tK(H:Hp)(e:Z1):Hp:=λb=>if b=e then none else H b
def ya(C:Z1)(sp:Sp)(ta:TA)(E:XK):TS:=λ_ σ H=>ta σ H λvs H1=>vs.length<=h9/\∀e,H1 e=none->sp (.ref e::vs) (upd H1 e (gX C none e)) (λv H2=>v=.non/\∃dx,H2 e=some (gX C (some dx) e)/\E (.ref C) (some dx) (tK H2 e)) E0
def mT{X:Cx}{x:Str}{C:Z1}{e₀:S8}{rest:List S8}{np cpos pos:VL}{ta:TA}{E:XK}{nm:Str}{ps:List Str}{k j:Nat}{sp:Sp}(M:RO X.prog X.w X.K X.mg X.R4 x C nm ps k sp)(hc:X.calm=true)(hr:eG j X.A)(ha:PA X (e₀::rest) ta)(hx:∀R1 σ H H0 s s0 e dx,aT X R1 σ H0 s0->s0.heap.get? e=none->aT X R1 σ H s->H e=some (gX C (some dx) e)->E (.ref C) (some dx) (tK H e)->X.xe (.ref e) s)(hkj:k+1<=j:=by decide)(hp:(e₀::rest).all fj=true:=by rfl)(hg:Gl X x:=by rfl)(hdb:(x == ("__debug__":Str))=false:=by decide):PS X (.Raise (some (.Call (.Name x np) (e₀::rest) [] cpos)) none pos) (ya C sp ta E):=by
 intro R1 s σ H D I h;obtain⟨f,fd,xc,hfn,kp,F,hm,hb⟩:=M.ex;have hp':=hp;rw[WE,YC]at hp';obtain⟨tl,N,nm',qn,bs,hdct,sn,sub,ab,col,dd,k0,k1,k2,k3,k5,mN,hC,hN,hi,T⟩:=vO I.ok.mod.kin xc.ini;refine uU (C:=C) (nm:=nm') (q:=qn) (N:=N) (bs:=bs) (bm:=tl) (hdct:=hdct) (sn:=sn) (sub:=sub) (ab:=ab) (col:=col) (dd:=dd) (k0:=k0) (k1:=k1) (k2:=k2) (k3:=k3) (k5:=k5) (newId:="ValueError.__new__") (T.hasType PySem.F.excBase_ValueError.hasBase) (I.ok.hd hc) ?_;refine Te (ig I hg hm ?_ hdb);refine Zw (h₀:=X.R4) I.ok.mod.kin kp (cK (ha cpos R1 s σ H _ I h) λus s1 ⟨vs,H1,I1,r,z,q⟩=>⟨I1.kIn,?_⟩) (fF hp'.1) (gI hp'.2);have hq:=I1.kIn;obtain⟨o,ho,hcl⟩:=Y7.mp (show(X.K.lookup f).map (·.cls)=some (.type "function")from beq_iff_eq.mp hfn);obtain⟨hh,g,dr,tk,os⟩:=s1;refine PySem.call_initT PySem.F.excBase_ValueError (T.keeps I1.bk) (I1.bk _ _ hC) (hN.keeps I1.bk) hi (hq _ _ ho) hcl (λh' e me=>?_) (by show us.length<=h9;rw[<-r.length];exact z);have hfre:H1 e=none:=by
  cases q1:H1 e with
  |none=>rfl
  |some u=>
   obtain⟨o',q'⟩:=(I1.hok e u q1).obj;have:=me.new;rw[q']at this;cases this
 obtain⟨t,het,_,_⟩:=me.there;have I2:aT X R1 σ H1 ⟨h',g,dr,tk,os⟩:=I1.kept (t':=tk) me.keeps;have I3:=I2.trackO (o:=gX C none e) (gX.ok het) hfre I1 me.new;have hs:=q e hfre;have r2:bZ (V.ref e::vs) (Sx e::us):=.cons rfl r;have hl:(Sx e::us++[]).length=ps.length:=by have e1:=r2.length;rw[F.len _ _ _ _ hs]at e1;rw[WN];exact e1.symm
 have hb':=hb _ (Sx e::us) I3.kIn hl;rw[WN]at hb';have hr1:eG (k+1) X.A:=hr.mono hkj;refine Tr (S7 (F.run _ X.stack _ _ ⟨Sx e::us,[]⟩ (Sx e::us) _ _ E0 (hr1.make C us []) (I3.env0.make C us []) hb' r2 hs) λr s' hq'=>?_);cases r with
 |error e=>exact hq'.elim
 |ok fl=>
  cases fl with
  |ret u=>
   obtain⟨v,H',I4,rv,ev,dx,q3,q4⟩:=I3.after hq';subst ev;obtain⟨t',het'⟩:=gX.get (I4.hok e _ q3);refine⟨rv,⟨e,t',some dx,rfl,I4.bk _ _ hC,het',hx R1 σ H' H1 s' _ e dx I1 me.new I4 q3 q4⟩⟩
  |next=>exact False.elim hq'
  |brk=>exact False.elim hq'
  |cont=>exact False.elim hq'
def jF{P:Ss}{w:World}{K:Frag}{mg:Sf}{R4:SD}{N:List Str}{qual:Str}{scope:T8}{f:Z1}{cd:Z0}{A:S5}{R5:List Wd}{s:So}{H:Hp}{E:XK}{C:Z1}:∀R1 σ H1 H0 s1 s0 e dx,aT (iZ (jb P w) P w K mg R4 N qual scope f cd A R5 s H E) R1 σ H0 s0->s0.heap.get? e=none->aT (iZ (jb P w) P w K mg R4 N qual scope f cd A R5 s H E) R1 σ H1 s1->H1 e=some (gX C (some dx) e)->E (.ref C) (some dx) (tK H1 e)->(iZ (jb P w) P w K mg R4 N qual scope f cd A R5 s H E).xe (.ref e) s1:=by
 intro R1 σ H1 H0 s1 s0 e dx I0 new0 I ee hE;have fr:(A.deeper (SN qual scope s.heap.objs.size f cd)).frames=some (SN qual scope s.heap.objs.size f cd::R5):=I.ok.frames;have ST:s1.heap.FunFrames R4 (SN qual scope s.heap.objs.size f cd::R5):=I.stack;have BU:Un (iI R5) [] H H1 s.heap s1.heap:=I.R4;have BU0:Un (iI R5) [] H H0 s.heap s0.heap:=I0.R4;have new:s.heap.get? e=none:=by
  cases q:s.heap.get? e with
  |none=>rfl
  |some o=>
   obtain⟨o',q'⟩:=BU0.there e o q (by simp);rw[new0]at q';cases q'
 have hin:∀env∈(SN qual scope s.heap.objs.size f cd::R5),∀b,env.frame=some b->b∈e::iI (SN qual scope s.heap.objs.size f cd::R5):=λenv he b hb=>Wy _ (WM.mpr ⟨env,he,hb⟩);have sub:∀b,b∈iI R5->b∈iI (SN qual scope s.heap.objs.size f cd::R5):=λb hb=>by obtain⟨env,he,hf⟩:=WM.mp hb;exact WM.mpr ⟨env,Wy _ he,hf⟩
 have notin:∀b o,s.heap.get? b=some o->b∉iI R5->b∉e::iI (SN qual scope s.heap.objs.size f cd::R5):=λb o q nb hb=>by
  rcases Wn.mp hb with rfl|hb
  .rw[new]at q;cases q
  obtain⟨env,he,hf⟩:=WM.mp hb
  rcases Wn.mp he with rfl|he
  .have:s.heap.objs.size=b:=Sd hf;rw[<-this]at q;exact Sc (Sl q) (Yk _)
  .exact nb (WM.mpr ⟨env,he,hf⟩)
 have off:∀b,b≠e->tK H1 e b=H1 b:=λb hb=>R8 hb;have offe:tK H1 e e=none:=R9 rfl;obtain⟨t,he⟩:=gX.get (I.hok e _ ee);have hen:(Zu s1.heap (e::iI (SN qual scope s.heap.objs.size f cd::R5))).get? e=none:=ZJ _ (Wv ..);have x1:Sn (Su P w) (A.deeper (SN qual scope s.heap.objs.size f cd)) (UI (SN qual scope s.heap.objs.size f cd) (.ref e)) (λ_ s2=>Kp P w R5 H s (λcls _ H'=>E cls (some dx) H') (.ref e) s2) (λ_ _=>False) s1:=by
  refine wpAny_leaving_firstW (base:=Zu s1.heap (e::iI (SN qual scope s.heap.objs.size f cd::R5))) (a0:=.ref t) fr (ZS ST hin) rfl he (λb o q=>ZF _ q) hen rfl rfl rfl λh2 hL=>?_;obtain⟨k1,⟨_,_,k2⟩,k3,k4⟩:=hL;have fly:TQ (Zu s1.heap (e::iI (SN qual scope s.heap.objs.size f cd::R5))) R5 e (.ref C) (.ref t) h2:=⟨k1,hen,k2,k3⟩;have data:∀b o,s1.heap.get? b=some o->b∈iI R5->∃sl,h2.get? b=some {o with slots:=sl}:=λb o q hb=>by obtain⟨_,o',q',nd⟩:=ST.mem (sub b hb);rw[q]at q';cases q';exact k4 b o q nd
  refine⟨e,_,_,_,tK H1 e,rfl,I.os,I.bare,new,offe,fly,?_,⟨λb o q n hb hx=>?_,λb o q n hb hx=>?_,λb o q n hx=>?_,λb o q hx=>?_,λb xs q=>?_,λb o u q=>?_,λb ps q=>?_⟩,λb o q n hb=>?_,λb o q hb=>?_,hE⟩
  .intro b o q;have hbe:b≠e:=λz=>by rw[z,offe]at q;cases q
   rw[off b hbe]at q;have ne:∀c,(c=b\/H1 c=some (.own b))->c≠e:=λc hc z=>by
    rcases hc with hc|hc
    .exact hbe (hc▸z)
    .rw[z,ee]at hc;cases hc
   refine(I.hok b o q).stay (λc v hc z=>Zl _ z λhb=>?_) (λc z=>by rw[off c (ne c (.inr z))];exact z) λc xs z=>by rw[off c (λy=>by rw[y,ee]at z;cases z)];exact z
   rcases Wn.mp hb with hb|hb
   .exact ne c hc hb
   have fz:=I.stkFree c hb
   rcases hc with rfl|hc
   .rw[q]at fz;cases fz
   .rw[hc]at fz;cases fz
  .exact fly.1 b o (Zl _ (BU.keep b o q n hb hx) (notin b o q hb))
  .obtain⟨sl,q1⟩:=BU.slot b o q n hb hx;obtain⟨sl',q2⟩:=data b _ q1 hb;exact⟨sl',q2⟩
  .unfold tK;split
   .rfl
   .exact BU.free b o q n hx
  .obtain⟨o',q1⟩:=BU.there b o q hx
   by_cases hb:b∈iI R5
   .obtain⟨sl,q2⟩:=data b _ q1 hb;exact⟨_,q2⟩
   .exact⟨o',fly.1 b o' (Zl _ q1 (notin b o q hb))⟩
  .have z:=BU.tups b xs q;rw[off b (λy=>by rw[y,ee]at z;cases z)];exact z
  .have z:=BU.frzs b o u q;rw[off b (λy=>by rw[y,ee]at z;cases z)];exact z
  .obtain⟨m,z⟩:=BU.tbls b ps q;exact⟨m,by rw[off b (λy=>by rw[y,ee]at z;cases z)];exact z⟩
  .exact Zl _ (BU.keep b o q n hb (by simp)) (notin b o q hb)
  .obtain⟨o',q1⟩:=BU.there b o q (by simp);exact⟨o',Zl _ q1 (notin b o q hb)⟩
 have x2:Sn (Su P w) (A.deeper (SN qual scope s.heap.objs.size f cd)) (UI (SN qual scope s.heap.objs.size f cd) (.ref e)) (λ_ s2=>dZ e (some dx) s2.heap) (λ_ _=>False) s1:=
  rn fr ST rfl he rfl rfl rfl rfl λh2 c=>c
 exact SL (ip x1 x2) (λ_ s2 ⟨a,b⟩=>⟨some dx,a,e,rfl,b⟩) λ_ _ z=>z.2.elim
def uv(X:Cx)(EX:XK):Prop:= ∀R1 σ H1 s1 e s',aT X R1 σ H1 s1->jb X.prog X.w X.stack H1 s1 EX e s'->X.xe e s'
def kl{P:Ss}{w:World}{K:Frag}{mg:Sf}{R4:SD}{N:List Str}{qual:Str}{scope:T8}{f:Z1}{cd:Z0}{A:S5}{R5:List Wd}{s:So}{H:Hp}{E:XK}:uv (iZ (jb P w) P w K mg R4 N qual scope f cd A R5 s H E) E:=by
 intro R1 σ H1 s1 e s' I z;obtain⟨dx,z,a,rfl,cx⟩:=z;have I':aT (iZ (Kp P w) P w K mg R4 N qual scope f cd A R5 s H (λcls _ H'=>E cls dx H')) R1 σ H1 s1:=I.wish _;have x1:=xo R1 σ H1 s1 (.ref a) s' I' z;obtain⟨a',cls,a0,B,H',ea,os,bare,new,ha,fl,hok,un,c1,c2,hE⟩:=z;cases ea;have fr:(A.deeper (SN qual scope s.heap.objs.size f cd)).frames=some (SN qual scope s.heap.objs.size f cd::R5):=I.ok.frames;have x2:Sn (Su P w) (A.deeper (SN qual scope s.heap.objs.size f cd)) (UI (SN qual scope s.heap.objs.size f cd) (.ref a)) (λ_ s2=>dZ a dx s2.heap) (λ_ _=>False) s':=by unfold UI;exact Si (mY fr rfl fl cx λh4 hl4 u4 cx4=>pD (s:={s' with heap:=h4}) hl4 cx4 λh5 _ _ cx5=>cx5)
 exact SL (ip x1 x2) (λ_ s2 ⟨p,b⟩=>⟨dx,p,a,rfl,b⟩) λ_ _ z=>z.2.elim
structure wf(P:Ss)(w:World)(K:Frag)(mg:Sf)(R4:SD)(name:Str)(ps:List Str)(k:Nat)(sp:Sp):Prop where
 ex:∃f fd,bM P w K mg R4 (jb P w) k f fd ps sp/\mg name=some (.ref f)/\Zj K (.ref f)=true/\j1 K fd ps []
def DS(EX:XK)(sp:Sp)(t:TA):TE:=λσ H Q=>t σ H λvs H1=>sp vs H1 Q EX
def Qg(EX:XK)(C:Z1)(sp:Sp)(t:TA):TE:=λσ H Q=>t σ H λvs H1=>∀x dx,H1 x=none->H1 dx=none->dx≠x->sp (.ref x::vs) (upd (upd H1 dx (.own x)) x (.ins C dx [])) (λv H2=>v=.non/\Q (.ref x) H2) EX
section
variable{X:Cx}{e:S8}{es:List S8}{t:TA}{p pos bpos np hpos tpos:VL}{EX:XK}{name xc n:Str}{ps:List Str}{k j i:Nat}{sp:Sp}{C C0:Z1}{ts:Z1->TS}{b₀:SQ}{suite:List SQ}
def y7(C:wf X.prog X.w X.K X.mg X.R4 name ps k sp)(hx:uv X EX)(hr:eG j X.A)(ha:PA X (e::es) t)(hkj:k<=j:=by decide)(hp:(e::es).all fj=true:=by rfl)(hg:Gl X name:=by rfl)(hdb:(name == ("__debug__":Str))=false:=by decide):PE X (.Call (.Name name p) (e::es) [] pos) (DS EX sp t):=by obtain⟨f,fd,F,hm,hk,hb⟩:=C.ex;have hp':=hp;rw[WE,YC]at hp';intro R1 s σ H Q I h;refine Te (ig I hg hm ?_ hdb);refine Zw I.ok.mod.kin hk (cK (ha pos R1 s σ H _ I h) λus s1 ⟨vs,H1,I1,r,q⟩=>⟨I1.kIn,?_⟩) (fF hp'.1) (gI hp'.2);exact Ew F (hr.mono hkj) hb I1 r q λe s' z=>hx _ _ _ _ e s' I1 z
def J9(M:Qo X.prog X.w X.K X.mg X.R4 name C ps k sp)(hx:uv X EX)(hr:eG j X.A)(ha:PA X (e::es) t)(hkj:k+1<=j:=by decide)(hp:(e::es).all fj=true:=by rfl)(hg:Gl X name:=by rfl)(hdb:(name == ("__debug__":Str))=false:=by decide):PE X (.Call (.Name name p) (e::es) [] pos) (Qg EX C sp t):=by obtain⟨f,fd,MK,F,hm,hb⟩:=M.ex;have hp':=hp;rw[WE,YC]at hp';intro R1 s σ H Q I h;refine Te (ig I hg hm ?_ hdb);refine Zw I.ok.mod.kin MK.kp (cK (ha pos R1 s σ H _ I h) λus s1 ⟨vs,H1,I1,r,q⟩=>⟨I1.kIn,?_⟩) (fF hp'.1) (gI hp'.2);exact AB MK F (hr.mono hkj) hb I1 r q λH2 s2 e s' I2 z=>hx _ _ _ _ e s' I2 z
abbrev Cx.tryC(X:Cx)(pn:Sh)(xe:Sg):Cx:={X with pn:=pn,xe:=xe}
theorem aT.tryC{R1:Sh}{σ:St}{H:Hp}{s:So}(I:aT X R1 σ H s)(xe:Sg):aT (X.tryC (X.pn++R1) xe) [] σ H s:=
 ⟨⟨I.ok.mod,I.ok.kind,I.ok.glob,I.ok.blt,I.ok.above,I.ok.inj,I.ok.has,I.ok.cab,I.ok.hd,I.ok.frames,I.ok.stk,I.ok.exf,I.ok.bs,I.ok.bsz,I.ok.noex,I.ok.exfs,I.ok.funs,I.ok.frf⟩,I.os,I.bare,I.R4,I.loc,I.cell,I.free,I.freeC,λp hp=>I.pin p (by rw[WN]at hp;exact hp),I.hok,I.len⟩
def aT.untry{R1 pins':Sh}{σ:St}{H:Hp}{s:So}{xe:Sg}(ok:X.Ok)(I:aT (X.tryC (X.pn++R1) xe) pins' σ H s):aT X R1 σ H s:=
 ⟨ok,I.os,I.bare,I.R4,I.loc,I.cell,I.free,I.freeC,λp hp=>I.pin p (Xm _ hp),I.hok,I.len⟩
def BJ(K:Frag)(C0:Z1)(EX:XK)(i:Nat)(te:TE)(ts:Z1->TS):TS:=λD σ H=>te σ H D.rt/\∀cls d H2,EX cls d H2->Zp K cls (.ref C0)=some true/\
 ∀a σ',σ'.length=σ.length->H2 a=none->ts a {nx:=λ_ _=>False,rt:=D.rt} (List.set σ' i (some (.ref a))) (upd H2 a (iK cls d a))
def EK(he:∀pn xe,uv (X.tryC pn xe) EX->PE (X.tryC pn xe) ex te)(hn:∀e s,X.xe e s->False)(hmc:X.mg xc=some (.ref C0))(hN:X.N.Nodup)(hi:X.N[i]? =some n)(hs:∀a,rH (X.hand a) (b₀::suite) (ts a))(hstk:X.stack=X.env::X.R5:=by rfl)(hfr:X.env.frame=some X.env.locals:=by rfl)(hx:X.env.scope.names.lookup n=some .local:=by rfl)(hgc:Gl X xc:=by rfl)(hdc:(xc == ("__debug__":Str))=false:=by decide):PS X (.Try [.Return (some ex) bpos] [.ExceptHandler (some (.Name xc np)) (some n) (b₀::suite) hpos] [] [] tpos) (BJ X.K C0 EX i te ts):=by intro R1 s σ H D I ⟨h1,h2⟩;have ok:=I.ok;refine wpAny_Try_except (Ve (wpAny_Return_some (SL (he (X.pn++R1) (λe s'=>∃σ' H1 s1,aT X R1 σ' H1 s1/\jb X.prog X.w X.stack H1 s1 EX e s') (λpins' σ' H1 s1 e s' I' z=>⟨σ',H1,s1,I'.untry ok,z⟩) [] s σ H D.rt (I.tryC _) h1) (λv s1 ⟨x,H2,I2,r,z⟩=>⟨x,σ,H2,I2.untry ok,r,z⟩) λe s' z=>?_)));obtain⟨σ',H1,s1,I1,z⟩:=z;exact Py I1 hn hstk hfr hgc hmc hN hi hx hs z (λcls d H2 q=>⟨(h2 cls d H2 q).1,λa ha=>(h2 cls d H2 q).2 a σ' (I1.len.trans I.len.symm) ha⟩) hdc
def Rh(K:Frag)(ta:TE)(nm:Str):TE:=λσ H Q=>ta σ H λx H1=>∃a C f d fs v,x=.ref a/\XC K C f nm/\H1 a=some (iK (.ref C) (some d) a)/\H1 d=some (.xd fs)/\fs.lookup nm=some v/\Q v H1
def yN(he:PE X e ta)(hb:TD e nm X.env (Tj e X.env)=Tj e X.env):PE X (.Attribute e nm pos) (Rh X.K ta nm):=by intro R1 s σ H Q I h;refine zJ hb (cK (he R1 s σ H _ I h) λu s1 ⟨x,H1,I1,rx,a,C,f,d,fs,v,ex,xc,ea,ed,l,q⟩=>?_);subst ex;obtain rfl:u=Sx a:=rx;have hxa:=I1.hok a _ ea;obtain⟨⟨o,vs,p1,p2,p3,_,p4⟩,_,_⟩:=hxa;obtain⟨mA,ns,r⟩:=(show cb X.prog X.w H1 s1.heap d (.xd fs)from I1.hok d _ ed);obtain⟨od,ho,hl⟩:=qU ns;obtain⟨u,hu,ru⟩:=j4.some_of (by rw[<-l];exact r nm);have J:PySem.W.InstAt s1.heap a o C (some od):=⟨p1,p2,by unfold PySem.W.notCls;rw[p3],by rw[p4];exact ho⟩;exact PySem.W.exc_get I1.kIn J xc.ga xc.gt xc.bx (ZL xc.hd xc.no rfl (by rw[hl,hu])) (qZ ru) ⟨v,H1,I1.tok _,ru,q⟩
end
end L2
local macro_rules| `(tactic|walk_at "rd")=> `(tactic|simp only[L2.cm,L2.qd,L2.jx,L2.tAsg,L2.gName,L2.oA,L2.lS,L2.cc,L2.tC,L2.iJ,L2.lO,L2.eP,L2.bT,L2.eqB,L2.iG,L2.ib,L2.rC,L2.FF,L2.zH,L2.FG,L2.Mh,L2.y9,L2.nM,L2.LR,L2.Bc,L2.KO,L2.mG,L2.jy,L2.cB,L2.bg,L2.cw,L2.Kj,L2.Qf,L2.ia,L2.uE,L2.Ek,L2.MH,L2.MI,L2.nj,L2.kN,L2.tN,L2.CO,L2.wD,L2.tS,L2.OS,L2.upA,L2.cJR,XH,XJ,W4,XM])
seal L2.PE L2.PT L2.PA L2.PS L2.rH L2.PG L2.My L2.PI L2.PO L2.we L2.PW L2.bQ L2.Bp L2.kS L2.RL L2.zL L2.Bg
namespace L2
open PySem PySem.Spec PyProof.Rows
def mB(l:List Nat):List Nat:=match l with
 |45::r=>r
 |l=>l
def iR(l:List Nat):Bool:=decide (1<=(mB l).length)&&decide ((mB l).length<=9)&&(mB l).all (λc=>decide (48<=c/\c<=57))&& !((mB l).head? == some 48&& !(l == [48]))
def numO(x:Str):Option Int:=if iR x.cps.toList=true then PySem.intText? x else none
def numV(x:Str):V:=match numO x with
 |some n=>.int n
 |none=>.non
def qP(h:iR x.cps.toList=true)(hl:x.length<=600):∃n,PySem.intText? x=some n:=by
 unfold iR at h;simp only[YC,decide_eq_true_eq,WC]at h;obtain⟨⟨⟨h1,h2⟩,h3⟩,h4⟩:=h
 match e:x.cps.toList,h1,h3 with
 | [],h1,_=>simp[mB]at h1
 |c::r,h1,h3=>
  by_cases hc:c=45
  .subst hc;exact⟨_,PySem.intText_neg e (λd hd=>h3 d hd) (by intro z;subst z;simp[mB]at h1) (by omega)⟩
  .have ef:mB (c::r)=c::r:=by
    unfold mB;split
    .rename_i z;cases z;exact Sc rfl hc
    .rfl
   rw[ef]at h3;refine⟨_,PySem.intText_digits (by rw[e];exact λd hd=>h3 d hd) (by rw[e];simp) (by omega)⟩
def yp:Sp:=λvs H Q _=>∃x,vs=[.str x]/\x.length<=100/\∀H',ak H H'->Q (numV x) H'
def fig(x:Str):Str:=if [45].isPrefixOf x.cps.toList=true then kR x (some 1) none else x
def qF:("-":Str).cps.toList=[45]:=by decide+kernel
def str_0:("0":Str).cps.toList=[48]:=by decide+kernel
def yg:("0123456789":Str).cps.toList=[48,49,50,51,52,53,54,55,56,57]:=by decide+kernel
def RH(x:Str):(kR x (some 1) none).cps.toList=x.cps.toList.drop 1:=by
 rw[kL];show((x.cps.toList.drop (min 1 x.length)).take (x.length - min 1 x.length))=_;rw[bV]
 by_cases h:x.cps.toList.length=0
 .have:x.cps.toList=[]:=W6.mp h;rw[this];simp
 .have e:min 1 x.cps.toList.length=1:=by omega
  rw[e,WO (by rw[WH];exact Yd _)]
def pO(x:Str):(fig x).cps.toList=mB x.cps.toList:=by
 unfold fig
 match e:x.cps.toList with
 | []=>simp[mB,List.isPrefixOf,e]
 |c::r=>
  by_cases hc:c=45
  .subst hc;rw[R9 (by simp[List.isPrefixOf]),RH,e];rfl
  .rw[R8 (by simp[List.isPrefixOf];exact λz=>hc z.symm),e];unfold mB;split
   .rename_i z;cases z;exact Sc rfl hc
   .rfl
def Dp(l:List Nat):(mB l).length<=l.length:=by
 unfold mB;split
 .simp
 .exact Yd _
def zo(x:Str):(fig x).length<=x.length:=by rw[bV,pO,bV x];exact Dp _
def LS(c:Nat):decide (c∈("0123456789":Str).cps.toList)=decide (48<=c/\c<=57):=by rw[yg,YF];simp only[decide_eq_true_eq,Wn,WB,or_false];omega
section
variable{K:Frag}
def KU(x:Str)(H:Hp)(k:VK)(hx:x.length<=100)(h:k (.str (fig x)) H):MI (iG (Kj OS (cc 0) (bg (tC (.str "-")) cw))) (Bc K (cc 0) (mG (tC (.int 1))) jy) (cc 0) [some (.str x),none] H k:=by
 walk_at "rd"
 rw[qF];unfold fig at h
 by_cases hp:[45].isPrefixOf x.cps.toList=true
 .rw[R9 hp]at h;rw[R9 hp];exact⟨Ye hx (by decide),h⟩
 .rw[R8 hp]at h;rw[R8 hp];exact h
def KW(x y:Str)(H:Hp)(k:VK)(hy:y.length<=100)(h:∀H' d,ak H H'->H' d=none->k (.ref d) (upd H' d (.lst ((y.cps.toList.map λc=>decide (48<=c/\c<=57)).map V.bl)))):tComp (Fd (cc 1)) (gName 0) gJ (eP K .In (cc 0) (tC (.str "0123456789"))) [none] [some (.str x),some (.str y)] H k:=by
 unfold tComp;simp only[Fd,cc,XJ,XH];have hl:(y.cps.toList.map λc=>V.str ⟨#[c]⟩).length=y.length:=by rw[Wm,<-bV]
 refine A2 (y.cps.toList.map λc=>V.str ⟨#[c]⟩) (λH'=>ak H H') (λσ=>∃v,σ=[v]) (λ_=>true) (λv=>match v with| .str z=>.bl (decide (z.cps.toList.headD 0∈("0123456789":Str).cps.toList))|_=>.non) (by rw[hl];exact Ye hy (by decide))
  (λi H' _ hi=>by rw[hl]at hi;exact hi) (λi H' _ hi=>by rw[hl]at hi;exact hi) (λi H' v H'' hR hv=>?_) (ak.refl H) ⟨none,rfl⟩ (λi v σ' H' hS hR hv Kt Kf ht hf=>?_) (λH' d hR hd=>?_)
 .obtain⟨rfl,c,hc,rfl⟩:=hv;exact⟨hR,by rw[Wr,hc];rfl⟩
 .obtain⟨v0,rfl⟩:=hS;rw[Wr]at hv;cases hc:y.cps.toList[i]? with
  |none=>rw[hc]at hv;cases hv
  |some c=>
   rw[hc]at hv;have hv:=Sd hv;subst hv;simp only[gName,gJ,W4,if_true]
   walk_at "rd"
   rw[U3];exact ht rfl _ _ ⟨_,rfl⟩ hR
 .have:=h H' d hR hd;rw[WP.mpr (λ_ _=>rfl),Ws];rw[Ws]at this;have e:(y.cps.toList.map ((λv=>match v with|V.str z=>V.bl (decide (z.cps.toList.headD 0∈("0123456789":Str).cps.toList))|_=>V.non)∘λc=>V.str ⟨#[c]⟩))=y.cps.toList.map (V.bl∘λc=>decide (48<=c/\c<=57)):=by apply WK;intro c _;show V.bl (decide (c∈("0123456789":Str).cps.toList))=V.bl (decide (48<=c/\c<=57));rw[LS]
  rw[e];exact this
def yS(h:iR x.cps.toList=true)(e:PySem.intText? x=some n):numV x=.int n:=by unfold numV numO;rw[R9 h,e]
def yT(h:¬iR x.cps.toList=true):numV x=.non:=by unfold numV numO;rw[R8 h]
def Ct(c:Nat)(l:List Nat):[c].isPrefixOf l=(l.head? == some c):=by
 cases l with
 |nil=>rfl
 |cons a r=>
  show(c == a&&true)=(some a == some c);rw[YK,YF];simp;exact eq_comm
def Bs(x:Str):(x=("0":Str))<->x.cps.toList=[48]:=by
 constructor
 .intro h;rw[h,str_0]
 .intro h;apply str_ext;rw[h,str_0]
end
def lawAt(ns:List Int)(k:Int):Int:=((if 0<ns.length then ns.getD (k % (ns.length:Int)).toNat 0 else 0)+17*k)*48271 % 1000003
def mr(ns:List Int)(k:Int):0<=lawAt ns k/\lawAt ns k<1000003:=by unfold lawAt;exact⟨Yx _ (by decide),Yy _ (by decide)⟩
def Mo{α:Type}{xs:List α}{i:Int}(h0:0<=i)(h1:i<xs.length):∃v,oh xs i=some v/\xs[i.toNat]? =some v:=by
 have hx:xs[i.toNat]? =some (xs[i.toNat]'(by omega)):=Wp (by omega);refine⟨_,?_,hx⟩;have e:i=((i.toNat:Nat):Int):=by omega
 have:=bK hx;rw[<-e]at this;exact this
def rV(K:Frag):Sp:=λvs H Q _=>∃a ns k,vs=[.ref a,.int k]/\aV K H a (ns.map V.int)/\0<=k/\k<=1000/\Q (.int (lawAt ns k)) H
def AC{n:Int}(h:n.natAbs<10 ^ 60):n.natAbs.log2<1920:=by
 have hz:n.natAbs<2 ^ 200:=by
  have:(10:Nat) ^ 60<2 ^ 200:=by decide
  omega
 by_cases hz0:n.natAbs=0
 .rw[hz0];decide
 .have:=(Nat.log2_lt hz0).mpr hz;omega
end L2
namespace K08
open PySem L2
abbrev aR:Str:="thing"
abbrev txboard:Str:="board"
abbrev aB:Str:="_law_script"
abbrev bj:Str:="_law_k"
abbrev au:Str:="_law_kinds_here"
abbrev aH:Str:="_law_texts"
abbrev aM:Str:="_law_cell"
abbrev txkinds:Str:="kinds"
abbrev bU:Str:="stuck"
abbrev aJ:Str:="_law_holes_here"
abbrev aL:Str:="_law_parts_here"
abbrev aY:Str:="_law_word_here"
abbrev bi:Str:="_law_sort_here"
abbrev bX:Str:="_law_wide"
abbrev bY:Str:="_law_high"
abbrev bL:Str:="_law_stuck"
abbrev cf:Str:="_law_many"
abbrev cu:Str:="_law_one"
abbrev bp:Str:="_law_words_here"
abbrev cC:Str:="_law_text"
abbrev bB:Str:="_law_rules_here"
abbrev bA:Str:="_law_turns_here"
abbrev cO:Str:="_law_pair"
abbrev dg:Str:="_law_ends_here"
def kO:aN ["self","at"] ["self","at"] (ao dk):=hJ
def uR:aN [aR] [aR] (ao iy):=hJ
def rZ:aN [aR] [aR] (ao gM):=hJ
def uS:aN [aR,"least","most"] [aR,"least","most"] (ao iz):=hJ
def lX:aN ["text","figures"] ["text"] (ao fN):=hJ
def sk:aN [aR,"many"] [aR,"many"] (ao fR):=hJ
def iO:aN ["self","wide","high","holes"] ["self","wide","high","holes"] (ao cI):=hJ
def wI:aN [aR,"words"] [aR,"words"] (ao jg):=hJ
def oQ:aN [aR,"many"] [aR,"many"] (ao fA):=hJ
def qg:aN [aR,"least","most"] [aR,"least","most"] (ao ge):=hJ
def oS:aN ["sort","across","up","longest"] ["sort","across","up"] (ao ji):=hJ
def ly:aN [aR,txkinds,"sort","aim"] [aR,txkinds] (ao jj):=hJ
def wJ:aN [aR,"firsts","seconds"] [aR,"firsts","seconds"] (ao jk):=hJ
def si:aN [aR,"firsts","seconds"] [aR,"firsts","seconds"] (ao fP):=hJ
def nz:aN [aR,txkinds,"firsts"] [aR,txkinds] (ao fK):=hJ
def wK:aN [aR,txkinds] [aR,txkinds] (ao jl):=hJ
def sj:aN [aR] [aR] (ao fQ):=hJ
def sh:aN [aR,txkinds] [aR,txkinds] (ao fO):=hJ
def je:aN ["self",txboard,txkinds,"rules","turns","ends",bU] ["self",txboard,txkinds,"rules","turns","ends",bU] (ao du):=hJ
def lx:aN ["form","word","fits"] ["form","word"] (ao jf):=hJ
def iN:aN ["line","words","form","parts"] ["line"] (ao gB):=hJ
def qf:aN ["sort","last"] ["sort","last"] (ao gc):=hJ
def cJ:aN ["lines","found","sort","last","at","line","parts"] ["lines"] (ao gb):=hJ
def eJ:aN ["lines","found","size",txboard,txkinds,"rules","turns","ends"] ["lines"] (ao d0):=hJ
def lA:aN [aB,bj,aM] [aB,bj] (ao jm):=hJ
def qi:aN ["_law_thing"] ["_law_thing"] (ao gf):=hJ
def cy:aN ["_law_e",aY,"_law_name","_law_fits_here"] ["_law_e"] (ao gN):=hJ
def su:aN [aM] [aM] (ao gP):=hJ
def dC:aN [aB,bj,cf,"_law_count","_law_found","_law_j","_law_square"] [aB,bj,cf] (ao gj):=hJ
def fw:aN [aB,bj,aM,"_law_letters","_law_step",cf] [aB,bj] (ao eV):=hJ
def cY:aN [aM,au,bi,"_law_far","_law_aim","_law_across","_law_up"] [aM,au] (ao gS):=hJ
def gG:aN [aB,bj,au,aM,cf] [aB,bj,au] (ao eU):=hJ
def fv:aN [aB,bj,au,aM,cf,"_law_others"] [aB,bj,au] (ao eT):=hJ
def fZ:aN [aB,bj,au,aM,"_law_found","_law_j",cu] [aB,bj,au] (ao gU):=hJ
def gH:aN [aB,bj,au,bB,bA] [aB,bj] (ao gi):=hJ
def dB:aN [bX,bY,aJ,aL,bL,aH,cu] [bX,bY,aJ,aL,bL] (ao da):=hJ
def jC:aN ["_law_game",bX,bY,aJ,aL,bL,"_law_board","_law_rule_here"] ["_law_game",bX,bY,aJ,aL,bL] (ao gQ):=hJ
def lY:aN [aM,"_law_signs"] [aM] (ao gO):=hJ
def cg:aN [cC,aM,"_law_way","_law_at_here",bp,"_law_spot","_law_some"] [cC,aM] (ao dP):=hJ
def cZ:aN [aH,aM,"_law_more","_law_way","_law_at_here","_law_to","_law_ahead","_law_left","_law_some"] [aH,aM,"_law_more"] (ao gV):=hJ
def kc:aN [aY,"_law_body"] [aY] (ao eA):=hJ
def l8:aN [aY] [aY] (ao dO):=hJ
def sy:aN [aY,"_law_form"] [aY,"_law_form"] (ao gT):=hJ
def cX:aN [cC,bp,"_law_forms",bi,"_law_form",aL,"_law_wrong"] [cC] (ao fS):=hJ
def cH:aN [aH,"_law_last","_law_at_here",cC,bi] [aH] (ao dw):=hJ
def qh:aN [aH,bi] [aH,bi] (ao eS):=hJ
def jd:aN ["_law_sides",aJ,cf] ["_law_sides",aJ] (ao dt):=hJ
def cn:aN [au,bB,bA,dg,"_law_kind",bi,"_law_aim","_law_across","_law_up","_law_far","_law_firsts",cO] [au,bB,bA,dg] (ao dj):=hJ
def dN:aN [aH,au,bB,cu,bA] [aH] (ao cD):=hJ
def lZ:aN [aH,"_law_e"] [aH] (ao gR):=hJ
def fJ:aN [aB,bX,bY,aL,bL,aH,"_law_handed",aY,"_law_found","_law_at_here","_law_sides",aJ] [aB] (ao ke):=hJ
structure Txt(mg:Sf)(aS aA aE aW aO aF:Z1):Prop where
 isinstance:mg "isinstance"=none
 int:mg "int"=none
 bool:mg "bool"=none
 str:mg "str"=none
 list:mg "list"=none
 tuple:mg "tuple"=none
 len:mg "len"=none
 range:mg "range"=none
 all:mg "all"=none
 any:mg "any"=none
 set:mg "set"=none
 sorted:mg "sorted"=none
 min:mg "min"=none
 dict:mg "dict"=none
 zip:mg "zip"=none
 enumerate:mg "enumerate"=none
 max:mg "max"=none
 abs:mg "abs"=none
 ValueError:mg "ValueError"=none
 MOST_PAIRS:∃u,mg "MOST_PAIRS"=some u/\bz (.int 6) u
 MOST_KINDS:∃u,mg "MOST_KINDS"=some u/\bz (.int 6) u
 MOST_RULES:∃u,mg "MOST_RULES"=some u/\bz (.int 24) u
 FIGURES:∃u,mg "FIGURES"=some u/\bz (.str "0123456789") u
 MOST_FIGURES:∃u,mg "MOST_FIGURES"=some u/\bz (.int 9) u
 LONGEST:∃u,mg "LONGEST"=some u/\bz (.int 8) u
 SORTS:∃u,mg "SORTS"=some u/\bz (.ref aS) u
 AIMS:∃u,mg "AIMS"=some u/\bz (.ref aA) u
 END_WORDS:∃u,mg "END_WORDS"=some u/\bz (.ref aE) u
 STUCK_WORDS:∃u,mg "STUCK_WORDS"=some u/\bz (.ref aW) u
 ORDER:∃u,mg "ORDER"=some u/\bz (.ref aO) u
 FORMS:∃u,mg "FORMS"=some u/\bz (.ref aF) u
section
def sV(F:fg K "number_of" "number_of" fN f fd)(T:Txt mg aS aA aE aW aO aF):bM P w K mg R4 fM 1 f fd ["text"] yp:=by
 refine F.ok2 lX ?_;rintro _ _ _ s H _ Q _ hr hu ⟨x,rfl,hx,k⟩;refine⟨_,(ae (aw 1 lX.nd (jn (bF (Bn PySem.F.slot_str_startswith PySem.F.type_str_startswith CM bh (bW aI))) (kQ K bh (bC ag) bH) bh))
  (ae (bc (bE (ms K hu ag (kB (eI K) bJ T.len (bW cA)) (kg T.MOST_FIGURES))) (am (aG dE)) aD)
  (ae (bc (bE (bF (kB (C5 K) pW T.all (bW (eN (cj (N:=["sign"]) (src:=[none]) (ao fN) ["text","figures"]) (Cz cA) (λ_ _ _=>(bu (i:=0) ["sign"])) (λ_ _ _=>bI) (λ_ _ _=>(fX K hu bh (kg T.FIGURES)))))))) (am (aG dE)) aD)
  (ae (bc (PW.pt (mR (bF (Bn PySem.F.slot_str_startswith PySem.F.type_str_startswith CM cA (bW aI))) (kG (bf K hu bh aI)))) (am (aG dE)) aD)
  (am (aG (nI eC hU T.int (bW bh)))))))),?_⟩
 show cm _ _ _ [oT x,none] H;simp only[cm,tAsg];refine KU x H _ hx ?_;have hy:=zo x;have el:=pO x;generalize fig x=y at hy el ⊢;have hy':y.length<=h9:=Ye hy (Ye hx (by decide));have hlen:y.length=(mB x.cps.toList).length:=by rw[bV,el]
 have no:¬iR x.cps.toList=true->∀H',ak H H'->Q .non H':=λh H' s=>by
  have:=k H' s
  rwa[yT h]at this
 have yes:iR x.cps.toList=true->∀H',ak H H'->∃n,PySem.intText? x=some n/\x.length<=640/\Q (.int n) H':=λh H' s=>by obtain⟨n,e⟩:=qP h (by omega);have:=k H' s;rw[yS h e]at this;exact⟨n,e,by omega,this⟩
 have ok:iR x.cps.toList=(decide (1<=y.length)&&decide (y.length<=9)&&y.cps.toList.all (λc=>decide (48<=c/\c<=57))&& !(y.cps.toList.head? == some 48&& !decide (x=("0":Str)))):=by unfold iR;rw[<-el,<-bV,show(x.cps.toList == [48])=decide (x=("0":Str)) by rw[YF];simp[Bs]]
 walk_at "rd"
 refine⟨hy',?_⟩
 by_cases a1:1<=y.length
 .rw[R6 (by omega:(1:Int)<=(y.length:Int)),R9 rfl]
  by_cases a2:y.length<=9
  .rw[R6 (by omega:(y.length:Int)<=9)];simp only[YO,YG,if_false];refine KW x y H _ (by omega) λH' d hs hd=>?_;have hs':=hs.upd (o:=.lst ((y.cps.toList.map λc=>decide (48<=c/\c<=57)).map V.bl)) hd;simp only[D5];refine⟨_,aV.of aj,?_⟩;simp only[ib,WQ];rw[R6 a1,R6 a2,YE,YE]at ok;have ea:(y.cps.toList.all (id∘λc=>decide (48<=c/\c<=57)))=y.cps.toList.all (λc=>decide (48<=c/\c<=57)):=rfl;rw[ea];cases a3:y.cps.toList.all (λc=>decide (48<=c/\c<=57))with
   |false=>
    rw[a3,YR]at ok;exact no (by rw[ok];simp) _ hs'
   |true=>
    rw[a3,YE]at ok;simp only[YO,YG,if_false];rw[str_0,Ct];cases a4:(y.cps.toList.head? == some 48)with
    |false=>
     rw[a4,YR,YQ]at ok;simp only[YG,if_false];exact yes ok _ hs'
    |true=>
     rw[a4,YE,YU]at ok;simp only[if_true]
     by_cases a5:x=("0":Str)
     .simp only[a5,decide_true,YO,YG,if_false];rw[R6 a5]at ok;have:=yes ok _ hs';rw[a5]at this;exact this
     .rw[R7 a5]at ok;rw[R7 a5];exact no (by rw[ok];simp) _ hs'
  .rw[R7 (by omega:¬(y.length:Int)<=9)];rw[R7 a2]at ok;simp only[YQ,if_true];exact no (by rw[ok];simp) _ (ak.refl H)
 .rw[R7 (by omega:¬(1:Int)<=(y.length:Int))];rw[R7 a1]at ok;simp only[YQ,YG,if_false,if_true];exact no (by rw[ok];simp) _ (ak.refl H)
def vq(F:fg K "is_whole" "is_whole" iy f fd)(T:Txt mg aS aA aE aW aO aF):bM P w K mg R4 fM 1 f fd [aR] oF:=by refine F.ok2 uR ?_;rintro _ _ _ _ H _ Q _ hr _ ⟨v,rfl,t,q⟩;refine⟨_,(am (aG (eE (Ec .int T.isinstance T.int hU bh) (fo (DN (Ec .bool T.isinstance T.bool zI bh)))))),?_⟩;refine aZ (dc (pP ac t) (λ_=>Ds (pP ac t))) ?_;rw[By t];exact q
def vv(F:fg K "is_among" "is_among" iz f fd)(T:Txt mg aS aA aE aW aO aF)(C:RG0 P w K mg R4):bM P w K mg R4 fM 2 f fd [aR,"least","most"] lV:=by
 refine F.ok2 uS ?_;rintro _ _ _ _ H _ Q _ hr hu ⟨v,a,b,rfl,t,q⟩;refine⟨_,(am (aG (eE (aQ C.is_whole hr (bW bh)) (fo (xq K hu cA bh dL))))),?_⟩;show jx _ _ [some v,oJ a,oJ b] H;have hc:=bq (sp:=oF) (σ:=[some v,oJ a,oJ b]) (H:=H) (af (ac (n:=0) rfl) aC) (λQ q=>⟨v,rfl,t,q⟩);cases v with
 |int i=>exact aZ (dc hc (λ_=>zv ac ac (λ_=>ac rfl))) q
 |_=>exact aZ (dc (b:=false) hc (λh=>by cases h)) q
def wW(F:fg K "is_word" "is_word" jg f fd)(T:Txt mg aS aA aE aW aO aF):bM P w K mg R4 fM 1 f fd [aR,"words"] (jA K):=by
 refine F.ok2 wI ?_;rintro _ _ _ _ H _ Q _ hr hu ⟨v,d,ws,rfl,t,hw,q⟩;refine⟨_,(am (aG (eE (Ec .str T.isinstance T.str lN bh) (fo (fX K hu bh cA))))),?_⟩;show jx _ _ [some v,oR d] H;have hs:=pP (T:=.str) (te:=cc 0) (σ:=[some v,oR d]) ac t;rw[BO t]at hs;cases v with
 |str z=>exact aZ (dc hs (λ_=>xA ac ac hw)) q
 |_=>exact aZ (dc (b:=false) hs (λh=>by cases h)) q
def oZ(F:fg K "is_tuple_of" "is_tuple_of" fA f fd)(T:Txt mg aS aA aE aW aO aF):bM P w K mg R4 fM 1 f fd [aR,"many"] oG:=by
 refine F.ok2 oQ ?_;rintro _ _ _ _ H _ Q _ hr hu ⟨v,n,rfl,t,q⟩;refine⟨_,(am (aG (eE (Ec .tuple T.isinstance T.tuple v7 bh) (fo (fX K hu (kB (eI K) bJ T.len (bW bh)) cA))))),?_⟩;show jx _ _ [some v,oJ n] H;have hs:=pP (T:=.tuple) (te:=cc 0) (σ:=[some v,oJ n]) ac t;rw[Kz t]at hs;unfold tupB at q;cases e:tupOf H v with
 |none=>
  rw[e]at hs q;exact aZ (dc (b:=false) hs (λh=>by cases h)) q
 |some xs=>
  rw[e]at hs q;obtain⟨a,rfl,ha⟩:=jw e;exact aZ (dc hs (λ_=>dz (cS ac (.inr (dU.of ha))) ac)) q
def qm(F:fg K "is_list_of" "is_list_of" ge f fd)(T:Txt mg aS aA aE aW aO aF):bM P w K mg R4 fM 1 f fd [aR,"least","most"] rT:=by
 refine F.ok2 qg ?_;rintro _ _ _ _ H _ Q _ hr hu ⟨v,a,b,rfl,t,q⟩;refine⟨_,(am (aG (eE (Ec .list T.isinstance T.list jN bh) (fo (xq K hu cA (kB (eI K) bJ T.len (bW bh)) dL))))),?_⟩;show jx _ _ [some v,oJ a,oJ b] H;have hs:=pP (T:=.list) (te:=cc 0) (σ:=[some v,oJ a,oJ b]) ac t;rw[CT t]at hs;unfold pA at q;cases e:lstOf H v with
 |none=>
  rw[e]at hs q;exact aZ (dc (b:=false) hs (λh=>by cases h)) q
 |some xs=>
  rw[e]at hs q;obtain⟨d,rfl,hd⟩:=fL e;exact aZ (dc hs (λ_=>zv ac (cS ac (.inl (aV.of hd))) (λ_=>ac rfl))) q
def wX(F:fg K "is_step" "is_step" ji f fd)(T:Txt mg aS aA aE aW aO aF)(C:RG1 P w K mg R4):bM P w K mg R4 fM 3 f fd ["sort","across","up"] yj:=by
 refine F.ok2 oS ?_;rintro _ _ _ _ H _ Q _ hr hu ⟨so,x,y,rfl,tx,ty,q⟩;refine⟨_,(ae (aw 3 oS.nd (jn (bf K hu bh aI) ag ag))
  (ae (bc (PW.pt (dQ (bE (bF (aQ C.is_among hr (fU cA (cE (ug (cv 3)) (cv 3)))))) (dD (bE (bF (aQ C.is_among hr (fU dL (cE (ug (cv 3)) (cv 3))))))))) (am (aG fb)) aD)
  (am (aG (Qb (fX K hu cA ag) (fo (fX K hu dL ag))))))),?_⟩
 show cm _ _ _ [oT so,some x,some y,none] H;refine cq (v:=.int (limS so)) (λQ q=>?_) ?_
 .refine lR (P5 (bw (dq ac ar)) (λ_=>ar) (λ_=>ar)) ?_;unfold limS at q
  by_cases h:so="leap"
  .rw[R9 h]at q;rw[R6 h];exact q
  .rw[R8 h]at q;rw[R7 h];exact q
 unfold oE at q;generalize limS so=l at q ⊢;refine bn (dY (cQ (bw (bq (af ac (af (tX ac) (af ac aC))) (λQ q=>⟨x, -l,l,rfl,tx,q⟩)))) (λ_=>cQ (bw (bq (af ac (af (tX ac) (af ac aC))) (λQ q=>⟨y, -l,l,rfl,ty,q⟩))))) (λh=>?_) (λh=>?_)
 .refine aZ ar ?_;have e:(amongB x (-l) l&&amongB y (-l) l&& !(decide (x=.int 0)&&decide (y=.int 0)))=false:=by cases h1:amongB x (-l) l<;>cases h2:amongB y (-l) l<;>simp_all
  rw[e]at q;exact q
 .have h1:amongB x (-l) l=true:=by cases h1:amongB x (-l) l<;>simp_all
  have h2:amongB y (-l) l=true:=by cases h2:amongB y (-l) l<;>simp_all
  cases x with
  |int i=>
   cases y with
   |int j=>
    refine aZ (PZ (zp ac ar) (λ_=>zp ac ar)) ?_;rw[h1,h2]at q;have ei:∀k:Int,decide (V.int k=V.int 0)=decide (k=0):=λk=>by
     by_cases e:k=0
     .rw[R6 e,R6 (Se V.int e)]
     .rw[R7 e,R7 (λz=>e (by injection z))]
    rw[ei,ei]at q;have e:(true&&true&& !(decide (i=0)&&decide (j=0)))=(!decide (i=0)|| !decide (j=0)):=by cases decide (i=0)<;>cases decide (j=0)<;>rfl
    rw[e]at q;exact q
   |_=>cases h2
  |_=>cases h1
def wZ(F:fg K "is_pair" "is_pair" jk f fd)(T:Txt mg aS aA aE aW aO aF)(C:RG2 P w K mg R4):bM P w K mg R4 fM 2 f fd [aR,"firsts","seconds"] (yo K):=by
 refine F.ok2 wJ ?_;rintro _ A _ _ H _ Q _ hr hu ⟨v,d,e,A,B,rfl,t,hA,hB,q⟩;refine⟨_,(am (aG (eE (aQ C.is_tuple_of hr (cE bh ag)) (eE (aQ C.is_word hr (cE (cV K bh ag) cA)) (fo (aQ C.is_word hr (cE (cV K bh ag) dL))))))),?_⟩;show jx _ _ [some v,oR d,oR e] H;have hc:=bq (sp:=oG) (σ:=[some v,oR d,oR e]) (H:=H) (x:=.bl (tupB H v 2)) (af (ac (n:=0) rfl) (af (ar (x:=.int 2)) aC)) (λQ q=>⟨v,2,rfl,t.thg,q⟩);unfold gz at q;unfold tupB at hc;cases e1:tupOf H v with
 |none=>
  rw[e1]at hc q;exact aZ (dc (b:=false) hc (λh=>by cases h)) q
 |some xs=>
  rw[e1]at hc q;obtain⟨a,rfl,ha⟩:=jw e1;have tx:=t.2 xs (.inl e1)
  by_cases hl:(xs.length:Int)=2
  .match xs,hl,e1,ha,tx,q,hc with
   | [x,y],_,e1,ha,tx,q,hc=>
     exact aZ (dc hc (λ_=>dc (bq (af (bP ac ar (.inr (dU.of ha)) (bK (j:=0) rfl)) (af ac aC)) (λQ q=>⟨x,d,A,rfl,tx x (by simp),hA,q⟩))
      (λ_=>bq (af (bP ac ar (.inr (dU.of ha)) (bK (j:=1) rfl)) (af ac aC)) (λQ q=>⟨y,e,B,rfl,tx y (by simp),hB,q⟩)))) q
  .have e2:yQ xs A B=false:=by
    unfold yQ;split
    .exact Sc rfl hl
    .rfl
   have hc2:Ev (ia oG (bg (cc 0) (bg (tC (.int 2)) cw))) [some (.ref a),some (.ref d),some (.ref e)] H (.bl (decide ((xs.length:Int)=2))):=hc;rw[R7 hl]at hc2;have q2:Q (.bl (yQ xs A B)) H:=q;rw[e2]at q2;exact aZ (dc (b:=false) hc2 (λh=>by cases h)) q2
def wY(F:fg K "is_rule" "is_rule" jj f fd)(T:Txt mg aS aA aE aW aO aF)(hS:∀H,gY K H aS sortsL)(hA:∀H,gY K H aA aimsL)(C:RG3 P w K mg R4):bM P w K mg R4 fM 4 f fd [aR,txkinds] (yn K):=by
 refine F.ok2 ly ?_;rintro _ _ _ _ H _ Q _ hr hu ⟨v,d,ws,rfl,t,hw,q⟩;refine⟨_,(ae (bc (PW.pt (dQ (bE (bF (aQ C.is_tuple_of hr (cE bh ag)))) (dD (bE (bF (aQ C.is_word hr (cE (cV K bh ag) cA))))))) (am (aG fb)) aD)
  (ae (aw 2 ly.nd (cV K bh ag))
  (ae (aw 3 ly.nd (cV K bh ag))
  (ae (bc (PW.pt (dQ (bE (bF (aQ C.is_word hr (cE dL (kg T.SORTS))))) (dD (bE (bF (aQ C.is_word hr (cE (cv 3) (kg T.AIMS)))))))) (am (aG fb)) aD)
  (ae (bc (PW.pt (mR (bf K hu dL aI) (kG (bf K hu (cv 3) aI)))) (am (aG fb)) aD)
  (am (aG (aQ C.is_step hr (fU dL (cE (cV K bh ag) (cV K bh ag))))))))))),?_⟩
 have rb:tupB H v 5=false->gn H v ws=false:=λh=>by
  unfold tupB at h;unfold gn;cases e1:tupOf H v with
  |none=>rfl
  |some xs=>
   rw[e1]at h;have h:=Sb h;show jV xs ws=false;unfold jV;split
   .exact Sc rfl h
   .rfl
 cases hb0:tupB H v 5 with
 |false=>
  rw[rb hb0]at q;refine bn (dY (b:=false) (cQ (bw (bq (sp:=oG) (x:=.bl (tupB H v 5)) (af ac (af ar aC)) (λQ q=>⟨v,5,rfl,t.thg,q⟩)))) (λh=>?_)) (λ_=>aZ ar q) (λh=>?_)
  .rw[hb0]at h;cases h
  .rw[hb0]at h;cases h
 |true=>
  obtain⟨xs,e1,hl⟩:∃xs,tupOf H v=some xs/\(xs.length:Int)=5:=by
   unfold tupB at hb0;cases e1:tupOf H v with
   |none=>rw[e1]at hb0;cases hb0
   |some xs=>rw[e1]at hb0;exact⟨xs,rfl,Sa hb0⟩
  unfold gn at q;rw[e1]at q;have q:Q (.bl (jV xs ws)) H:=q;obtain⟨a,rfl,ha⟩:=jw e1;have tx:=t.2 xs (.inl e1)
  match xs,hl,e1,ha,tx,q with
  | [k,so,ai,x,y],_,e1,ha,tx,q=>
    have hq:dU K H a [k,so,ai,x,y]:=dU.of ha;have hb:tupB H (.ref a) 5=true:=by unfold tupB;rw[e1];rfl
    refine bn (dY (cQ (bw (bq (af ac (af ar aC)) (λQ q=>⟨.ref a,5,rfl,t.thg,q⟩)))) (λ_=>cQ (bw (bq (af (bP ac ar (.inr hq) (bK rfl)) (af ac aC)) (λQ q=>⟨k,d,ws,rfl,tx k (by simp),hw,q⟩))))) (λh=>?_) (λh=>?_)
    .rw[hb]at h;have hk:wordB k ws=false:=by
      cases hk:wordB k ws
      .rfl
      .rw[hk]at h;cases h
     refine aZ ar ?_;have e2:jV [k,so,ai,x,y] ws=false:=by
      unfold jV;split
      .rename_i z;cases z;rw[hk];simp
      .rfl
     rw[e2]at q;exact q
    .rw[hb]at h;have hk:wordB k ws=true:=by
      cases hk:wordB k ws
      .rw[hk]at h;cases h
      .rfl
     refine cq (bP ac ar (.inr hq) (bK rfl)) ?_;refine cq (v:=ai) (bP ac ar (.inr hq) (bK (j:=2) rfl)) ?_;refine bn (dY (cQ (bw (bq (sp:=jA K) (af ac (af ar aC)) (λQ q=>⟨so,aS,sortsL,rfl,tx so (by simp),hS H,q⟩)))) (λ_=>cQ (bw (bq (sp:=jA K) (af ac (af ar aC)) (λQ q=>⟨ai,aA,aimsL,rfl,tx ai (by simp),hA H,q⟩))))) (λh=>?_) (λh=>?_)
     .refine aZ ar ?_;have e2:jV [k,so,ai,x,y] ws=false:=by
       unfold jV;split
       .rename_i k' so' ai' x' y' z;cases z;have h:(!decide (so'∈sortsL)|| !decide (ai'∈aimsL))=true:=h
        cases h1:decide (so'∈sortsL)<;>cases h2:decide (ai'∈aimsL)<;>simp_all
       .rfl
      rw[e2]at q;exact q
     .have h1:wordB so sortsL=true:=by cases h1:wordB so sortsL<;>simp_all
      have h2:wordB ai aimsL=true:=by cases h2:wordB ai aimsL<;>simp_all
      cases so with
      |str so=>
       cases ai with
       |str ai=>
        have h1:decide (so∈sortsL)=true:=h1;have h2:decide (ai∈aimsL)=true:=h2;have eR:jV [k,.str so,.str ai,x,y] ws=(!(decide (so="jump")&& !decide (ai="hit"))&&oE so x y):=by show(wordB k ws&&decide (so∈sortsL)&&decide (ai∈aimsL)&& !(decide (so="jump")&& !decide (ai="hit"))&&oE so x y)=_;rw[hk,h1,h2];simp
        rw[eR]at q;refine bn (oz (bw (dq ac ar)) (λ_=>bw (lJ ac ar))) (λh=>?_) (λh=>?_)
        .refine aZ ar ?_;rw[h]at q;exact q
        .rw[h]at q;exact dH (af ac (af (bP ac ar (.inr hq) (bK rfl)) (af (bP ac ar (.inr hq) (bK rfl)) aC))) ⟨so,x,y,rfl,tx x (by simp),tx y (by simp),q⟩
       |_=>cases h2
      |_=>cases h1
def sY(F:fg K "are_pairs" "are_pairs" fP f fd)(T:Txt mg aS aA aE aW aO aF)(C:RG4 P w K mg R4):bM P w K mg R4 fM 3 f fd [aR,"firsts","seconds"] (uK K):=by
 refine F.ok2 si ?_;rintro _ A _ _ H _ Q _ hr _ ⟨v,d,e,A,B,rfl,t,hA,hB,q⟩;refine⟨_,(am (aG (eE (aQ C.is_list_of hr (fU bh (cE ag (kg T.MOST_PAIRS)))) (fo (kB (C5 K) pW T.all (bW (eN (cj (N:=["part","firsts","seconds"]) (src:=[none,some 1,some 2]) (ao fP) [aR,"firsts","seconds"]) (mw K bh) (λ_ _ _=>(bu (i:=0) ["part","firsts","seconds"])) (λ_ _ _=>bI) (λ_ _ _=>(aQ C.is_pair hr (fU bh (cE cA dL))))))))))),?_⟩;refine D3 (bq (af ac (af ar (af ar aC))) (λQ q=>⟨v,0,6,rfl,t.thg,q⟩)) (λh=>?_) (λh=>?_)
 .unfold pA at h;cases e1:lstOf H v with
  |none=>rw[e1]at h;cases h
  |some xs=>
   rw[e1]at h;have h:=Sa h;obtain⟨a,rfl,ha⟩:=fL e1;have tx:=t.2 xs (.inr e1);refine fH (xs:=xs) (rest:=[oR d,oR e]) ac (aV.of ha) (by rw[Sw];omega) rfl (λ_=>true) (λx=>.bl (gz H x A B)) (λx hx=>fE) (λx hx _=>?_) (λp hp=>?_)
   .exact bq (af ac (af ac (af ac aC))) (λQ q=>⟨x,d,e,A,B,rfl,tx x hx,hA,hB,q⟩)
   .refine⟨xs.map (λx=>gz H x A B),?_,?_⟩
    .have e2:(xs.filter λ_=>true).map (λx=>V.bl (gz H x A B))=(xs.map (λx=>gz H x A B)).map V.bl:=by rw[WP.mpr (λ_ _=>rfl),Ws];rfl
     rw[<-e2];exact aV.of aj
    .have k:=q _ ((ak.refl H).upd (o:=.lst ((xs.filter λ_=>true).map (λx=>V.bl (gz H x A B)))) hp);unfold pairsB at k;rw[e1]at k;have e3:(decide (xs.length<=6)&&xs.all (λx=>gz H x A B))=(xs.map (λx=>gz H x A B)).all id:=by rw[R6 (by omega:xs.length<=6),WQ];rfl
     have k:Q (.bl (decide (xs.length<=6)&&xs.all (λx=>gz H x A B))) _:=k;rw[e3]at k;exact k
 .have k:=q H (ak.refl H);have e2:pairsB H v A B=false:=by
   unfold pairsB;unfold pA at h;cases e1:lstOf H v with
   |none=>rfl
   |some xs=>
    rw[e1]at h;have h:¬(0<=(xs.length:Int)/\(xs.length:Int)<=6):=Sb h;show(decide (xs.length<=6)&&_)=false;rw[R7 (by omega:¬xs.length<=6)];rfl
  rw[e2]at k;exact k
def w4(F:fg K "is_ends" "is_ends" jl f fd)(T:Txt mg aS aA aE aW aO aF)(hE:∀H,gY K H aE endsL)(C:RG5 P w K mg R4):bM P w K mg R4 fM 4 f fd [aR,txkinds] (yv K):=by refine F.ok2 wK ?_;rintro _ _ _ _ H _ Q _ hr _ ⟨v,d,ws,rfl,t,hw,q⟩;refine⟨_,(am (aG (aQ C.are_pairs hr (fU bh (cE (kg T.END_WORDS) cA))))),?_⟩;exact dH (af ac (af ar (af ac aC))) ⟨v,aE,d,endsL,ws,rfl,t,hE H,hw,q⟩
def vt(F:fg K "is_turns" "is_turns" fK f fd)(T:Txt mg aS aA aE aW aO aF)(C:RG5 P w K mg R4):bM P w K mg R4 fM 4 f fd [aR,txkinds] (uH K):=by
 refine F.ok2 nz ?_;rintro _ _ _ s H _ Q _ hr hu ⟨v,d,ws,rfl,t,hw,q⟩;refine⟨_,(ae (bc (bE (bF (aQ C.are_pairs hr (fU bh (cE cA cA))))) (am (aG fb)) aD)
  (ae (aw 2 nz.nd (eN (cj (N:=["pair"]) (src:=[none]) (ao fK) [aR,txkinds,"firsts"]) (mw K bh) (λ_ _ _=>(bu (i:=0) ["pair"])) (λ_ _ _=>bI) (λ_ _ _=>(cV K bh ag))))
  (ae (bc (bF (kB (Rz K) Ml T.any (bW (eN (cj (N:=["pair","firsts"]) (src:=[none,some 2]) (ao fK) [aR,txkinds,"firsts"]) (mw K bh) (λ_ _ _=>(bu (i:=0) ["pair","firsts"])) (λ_ _ _=>bI) (λ_ _ _=>(fX K hu (cV K bh ag) cA)))))) (am (aG fb)) aD)
  (am (aG (fX K hu (kB jM bJ T.len (bW (nI (yY K hr) nn T.set (bW dL)))) (kB (eI K) bJ T.len (bW dL)))))))),?_⟩
 show cm _ _ _ [some v,oR d,none] H;refine cF (λb H'=>b=(!pairsB H v ws ws)/\ak H H') (λQ q=>eF (af ac (af ac (af ac aC))) ⟨v,d,d,ws,ws,rfl,t,hw,hw,λH' s=>q _ _ ⟨rfl,s⟩⟩) (λH1 h=>?_) (λH1 h=>?_)
 .obtain⟨hb,s1⟩:=h;have k:=q H1 s1;have e0:pairsB H v ws ws=false:=by
   cases z:pairsB H v ws ws
   .rfl
   .rw[z]at hb;cases hb
  unfold turnsB at k;rw[e0]at k;exact aZ ar k
 .obtain⟨hb,s1⟩:=h;have e0:pairsB H v ws ws=true:=by
   cases z:pairsB H v ws ws
   .rw[z]at hb;cases hb
   .rfl
  unfold turnsB at q;rw[e0]at q;obtain⟨xs,e1,l6,hp⟩:=At e0;rw[e1]at q;have q:∀H',ak H H'->Q (.bl (!(xs.any λx=>decide (jB H x∈xs.map (eO H)))&&decide ((xs.map (eO H)).Nodup))) H':=q;obtain⟨a,rfl,ha⟩:=fL e1;have ha1:=s1 _ _ ha;refine ba (λu H'=>∃fq,u=.ref fq/\H' fq=some (.lst ((xs.map (eO H)).map V.str))/\ak H1 H') (λQ q=>?_) ?_
  .refine fH (d:=a) (xs:=xs) (rest:=[]) ac (aV.of ha1) (by rw[Sw];omega) rfl (λ_=>true) (λx=>.str (eO H x)) (λx hx=>fE) (λx hx _=>?_) (λp hp'=>?_)
   .obtain⟨c,f1,f2,rfl,hc⟩:=hp x hx;have e:eO H (.ref c)=f1:=by simp only[eO,tupOf,hc]
    rw[e];exact bP ac ar (.inr (dU.of (s1 _ _ hc))) (bK (j:=0) rfl)
   .have e:(xs.filter λ_=>true).map (λx=>V.str (eO H x))=(xs.map (eO H)).map V.str:=by rw[WP.mpr (λ_ _=>rfl),Ws];rfl
    rw[e];exact q _ _ ⟨p,rfl,aj,(ak.refl H1).upd hp'⟩
  rintro _ H2 ⟨fq,rfl,hf,s2⟩;have ha2:=s2 _ _ ha1;refine cF (λb H'=>b=(xs.any λx=>decide (jB H x∈xs.map (eO H)))/\ak H2 H') (λQ q=>?_) (λH3 h=>?_) (λH3 h=>?_)
  .refine fH (d:=a) (xs:=xs) (rest:=[oR fq]) ac (aV.of ha2) (by rw[Sw];omega) rfl (λ_=>true) (λx=>.bl (decide (jB H x∈xs.map (eO H)))) (λx hx=>fE) (λx hx _=>?_) (λp hp'=>?_)
   .obtain⟨c,f1,f2,rfl,hc⟩:=hp x hx;have e:jB H (.ref c)=f2:=by simp only[jB,tupOf,hc]
    rw[e];exact xA (bP ac ar (.inr (dU.of (s2 _ _ (s1 _ _ hc)))) (bK (j:=1) rfl)) ac (.inl (aV.of hf))
   .refine⟨xs.map (λx=>decide (jB H x∈xs.map (eO H))),?_,?_⟩
    .have e2:(xs.filter λ_=>true).map (λx=>V.bl (decide (jB H x∈xs.map (eO H))))=(xs.map (λx=>decide (jB H x∈xs.map (eO H)))).map V.bl:=by rw[WP.mpr (λ_ _=>rfl),Ws];rfl
     rw[<-e2];exact aV.of aj
    .have e3:(xs.map (λx=>decide (jB H x∈xs.map (eO H)))).any id=xs.any λx=>decide (jB H x∈xs.map (eO H)):=by rw[Xh];rfl
     rw[e3];exact q _ _ ⟨rfl,(ak.refl H2).upd hp'⟩
  .have k:=q H3 ((s1.trans s2).trans h.2);rw[<-h.1]at k;exact aZ ar k
  .have s03:=(s1.trans s2).trans h.2;show jx _ _ [oR a,oR d,oR fq] H3;have hf3:=h.2 _ _ hf;refine DM (pC (ss:=xs.map (eO H)) ac (aV.of hf3) (by rw[Wm];omega) (λH4 s4=>?_));refine lR (cS ac (.inl (aV.of (s4 _ _ hf3)))) ?_;have k:=q H4 (s03.trans s4);rw[<-h.1]at k;have e4:decide ((((kU (xs.map (eO H))).length:Nat):Int)=((((xs.map (eO H)).map V.str).length:Nat):Int))=decide ((xs.map (eO H)).Nodup):=by
    rw[Wm (f:=V.str)]
    by_cases hn:(xs.map (eO H)).Nodup
    .rw[R6 hn,R6 (by rw[(iq _).mpr hn])]
    .rw[R7 hn,R7 (λz=>hn ((iq _).mp (by omega)))]
   show Q (.bl (decide ((((kU (xs.map (eO H))).length:Nat):Int)=((((xs.map (eO H)).map V.str).length:Nat):Int)))) H4;rw[e4];exact k
def sW(F:fg K "is_letter" "is_letter" gM f fd)(T:Txt mg aS aA aE aW aO aF):bM P w K mg R4 fM 1 f fd [aR] mP:=by
 refine F.ok2 rZ ?_;rintro _ _ _ _ H _ Q _ hr hu ⟨v,rfl,t,q⟩;refine⟨_,(am (aG (eE (Ec .str T.isinstance T.str lN bh) (eE (fX K hu (kB (eI K) bJ T.len (bW bh)) ag) (fo (xq K hu aI bh aI)))))),?_⟩;show jx _ _ [some v] H;have hs:=pP (T:=.str) (te:=cc 0) (σ:=[some v]) ac t;rw[BO t]at hs;cases v with
 |str z=>
  refine aZ (dc hs (λ_=>dc (dz (kK ac (Ye (show z.length<=1000 from t) (by decide))) ar) (λ_=>Fw ar ac ar))) ?_;rw[OU,OT];have e:(true&&(decide ((z.length:Int)=1)&&(!decide (z.cps.toList<[97])&& !decide ([122]<z.cps.toList))))=letB (.str z):=by
   rw[bV]
   match e:z.cps.toList with
   | [c]=>
     simp only[letB,e,Lw];rw[YF];simp
   | []=>simp only[letB,e];rfl
   |_::_::r=>
    simp only[letB,e];rw[R7 (by simp only[Wx];omega)];rfl
  have q2:=q;rw[<-e]at q2;exact q2
 |_=>exact aZ (dc (b:=false) hs (λh=>by cases h)) q
def sZ(F:fg K "are_kinds" "are_kinds" fQ f fd)(T:Txt mg aS aA aE aW aO aF)(C:RU P w K mg R4):bM P w K mg R4 fM 2 f fd [aR] uM:=by
 refine F.ok2 sj ?_;rintro _ _ _ _ H _ Q _ hr hu ⟨v,rfl,t,q⟩;refine⟨_,(ae (bc (PW.pt (dQ (bE (bF (aQ C.is_list_of hr (fU bh (cE ag (kg T.MOST_KINDS)))))) (dD (bE (bF (kB (C5 K) pW T.all (bW (eN (cj (N:=["part"]) (src:=[none]) (ao fQ) [aR]) (mw K bh) (λ_ _ _=>(bu (i:=0) ["part"])) (λ_ _ _=>bI) (λ_ _ _=>(aQ C.is_letter hr (bW bh))))))))))) (am (aG fb)) aD)
  (am (aG (fX K hu (kB jM bJ T.len (bW (nI (yY K hr) nn T.set (bW bh)))) (kB (eI K) bJ T.len (bW bh)))))),?_⟩
 show cm _ _ _ [some v] H;have eL:Ev (ia rT (bg (cc 0) (bg (tC (.int 1)) (bg (tC (.int 6)) cw)))) [some v] H (.bl (pA H v 1 6)):=bq (af ac (af ar (af ar aC))) (λQ q=>⟨v,1,6,rfl,t.thg,q⟩);unfold kindsB at q;cases e1:lstOf H v with
 |none=>
  have hb:pA H v 1 6=false:=by unfold pA;rw[e1]
  rw[hb]at eL;rw[e1]at q;refine bn (λQ q=>cQ (bw eL) _ (jG q)) (λ_=>aZ ar (q H (ak.refl H))) (λh=>by cases h)
 |some xs=>
  rw[e1]at q;have q:∀H',ak H H'->Q (.bl (decide (1<=xs.length/\xs.length<=6)&&xs.all letB&&decide ((xs.map iL).Nodup))) H':=q;obtain⟨a,rfl,ha⟩:=fL e1;have tx:=t.2 xs (.inr e1);have hb:pA H (.ref a) 1 6=decide (1<=xs.length/\xs.length<=6):=by unfold pA;rw[e1];show decide ((1:Int)<=xs.length/\(xs.length:Int)<=6)=_;rw[decide_eq_decide];omega
  rw[hb]at eL
  by_cases hl:1<=xs.length/\xs.length<=6
  .rw[R6 hl]at eL q;refine cF (λb H'=>b=(!xs.all letB)/\ak H H') (λQ q=>?_) (λH1 h=>?_) (λH1 h=>?_)
   .refine OQ (cQ (bw eL)) ?_;refine fH ac (aV.of ha) (by rw[Sw];omega) rfl (λ_=>true) (λx=>.bl (letB x)) (λx hx=>fE) (λx hx _=>?_) (λp hp=>?_)
    .exact bq (af ac aC) (λQ q=>⟨x,rfl,tx x hx,q⟩)
    .refine⟨xs.map letB,?_,?_⟩
     .have e2:(xs.filter λ_=>true).map (λx=>V.bl (letB x))=(xs.map letB).map V.bl:=by rw[WP.mpr (λ_ _=>rfl),Ws];rfl
      rw[<-e2];exact aV.of aj
     .have e3:(xs.map letB).all id=xs.all letB:=by rw[WQ];rfl
      rw[e3];exact q _ _ ⟨rfl,(ak.refl H).upd hp⟩
   .have k:=q H1 h.2;have e0:xs.all letB=false:=by
     cases z:xs.all letB
     .rfl
     .rw[z]at h;cases h.1
    rw[e0]at k;exact aZ ar k
   .obtain⟨hq,s1⟩:=h;have e0:xs.all letB=true:=by
     cases z:xs.all letB
     .rw[z]at hq;cases hq
     .rfl
    have e5:xs=(xs.map iL).map V.str:=by
     rw[Ws];have:∀x∈xs,x=(V.str∘iL) x:=λx hx=>by obtain⟨c,rfl,_⟩:=pB (WC.mp e0 x hx);rfl
     exact(WZ xs).symm.trans (WK this)
    have ha1:=s1 _ _ ha;rw[e5]at ha1;refine DM (pC ac (aV.of ha1) (by rw[Wm];omega) (λH4 s4=>?_));refine lR (cS ac (.inl (aV.of (s4 _ _ ha1)))) ?_;have k:=q H4 (s1.trans s4);rw[e0]at k;have e4:decide ((((kU (xs.map iL)).length:Nat):Int)=((((xs.map iL).map V.str).length:Nat):Int))=decide ((xs.map iL).Nodup):=by
     rw[Wm (f:=V.str)]
     by_cases hn:(xs.map iL).Nodup
     .rw[R6 hn,R6 (by rw[(iq _).mpr hn])]
     .rw[R7 hn,R7 (λz=>hn ((iq _).mp (by omega)))]
    show Q (.bl (decide ((((kU (xs.map iL)).length:Nat):Int)=((((xs.map iL).map V.str).length:Nat):Int)))) H4;rw[e4];exact k
  .rw[R7 hl]at eL q;exact bn (λQ q=>cQ (bw eL) _ (jG q)) (λ_=>aZ ar (q H (ak.refl H))) (λh=>by cases h)
def sX(F:fg K "are_rules" "are_rules" fO f fd)(T:Txt mg aS aA aE aW aO aF)(C:RU P w K mg R4):bM P w K mg R4 fM 5 f fd [aR,txkinds] (uI K):=by
 refine F.ok2 sh ?_;rintro _ _ _ _ H _ Q _ hr _ ⟨v,d,ws,rfl,t,hw,q⟩;refine⟨_,(am (aG (eE (aQ C.is_list_of hr (fU bh (cE ag (kg T.MOST_RULES)))) (fo (kB (C5 K) pW T.all (bW (eN (cj (N:=["part",txkinds]) (src:=[none,some 1]) (ao fO) [aR,txkinds]) (mw K bh) (λ_ _ _=>(bu (i:=0) ["part",txkinds])) (λ_ _ _=>bI) (λ_ _ _=>(aQ C.is_rule hr (cE bh cA)))))))))),?_⟩;refine D3 (bq (af ac (af ar (af ar aC))) (λQ q=>⟨v,0,24,rfl,t.thg,q⟩)) (λh=>?_) (λh=>?_)
 .unfold pA at h;cases e1:lstOf H v with
  |none=>rw[e1]at h;cases h
  |some xs=>
   rw[e1]at h;have h:=Sa h;obtain⟨a,rfl,ha⟩:=fL e1;have tx:=t.2 xs (.inr e1);refine fH (xs:=xs) (rest:=[oR d]) ac (aV.of ha) (by rw[Sw];omega) rfl (λ_=>true) (λx=>.bl (gn H x ws)) (λx hx=>fE) (λx hx _=>?_) (λp hp=>?_)
   .exact bq (af ac (af ac aC)) (λQ q=>⟨x,d,ws,rfl,tx x hx,hw,q⟩)
   .refine⟨xs.map (λx=>gn H x ws),?_,?_⟩
    .have e2:(xs.filter λ_=>true).map (λx=>V.bl (gn H x ws))=(xs.map (λx=>gn H x ws)).map V.bl:=by rw[WP.mpr (λ_ _=>rfl),Ws];rfl
     rw[<-e2];exact aV.of aj
    .have k:=q _ ((ak.refl H).upd (o:=.lst ((xs.filter λ_=>true).map (λx=>V.bl (gn H x ws)))) hp);unfold rulesB at k;rw[e1]at k;have e3:(decide (xs.length<=24)&&xs.all (λx=>gn H x ws))=(xs.map (λx=>gn H x ws)).all id:=by rw[R6 (by omega:xs.length<=24),WQ];rfl
     have k:Q (.bl (decide (xs.length<=24)&&xs.all (λx=>gn H x ws))) _:=k;rw[e3]at k;exact k
 .have k:=q H (ak.refl H);have e2:rulesB H v ws=false:=by
   unfold rulesB;unfold pA at h;cases e1:lstOf H v with
   |none=>rfl
   |some xs=>
    rw[e1]at h;have h:¬(0<=(xs.length:Int)/\(xs.length:Int)<=24):=Sb h;show(decide (xs.length<=24)&&_)=false;rw[R7 (by omega:¬xs.length<=24)];rfl
  rw[e2]at k;exact k
def tJ(F:fg K "__init__" "Game.__init__" du f fd)(T:Txt mg aS aA aE aW aO aF)(hW:∀H,gY K H aW cW)(B:FP K cG)(C:RS P w K mg R4):bM P w K mg R4 fM 6 f fd ["self",txboard,txkinds,"rules","turns","ends",bU] (yu K cG):=by
 refine F.ok2 je ?_;rintro _ _ _ s H _ Q _ hr hu ⟨p,b,kd,rd,td,ed,dx,ws,rs,ts,es,st,rfl,hp,hk,hr',ht,he,tk,tr,tt,te,bk,br,bt,be,hst,lst',q⟩;have wk:∀H',ak H H'->gY K H' kd ws:=λH' s=>.inl (aV.of (s _ _ hk));refine⟨_,(ae (bc (bE (bF (aQ C.are_kinds hr (bW dL)))) (am iB) aD)
  (ae (bc (bE (bF (aQ C.are_rules hr (cE (cv 3) dL)))) (am iB) aD)
  (ae (bc (bE (bF (aQ C.is_turns hr (cE (cv 4) dL)))) (am iB) aD)
  (ae (bc (bE (bF (aQ C.is_ends hr (cE (cv 5) dL)))) (am iB) aD)
  (ae (bc (bE (bF (aQ C.is_word hr (cE (cv 6) (kg T.STUCK_WORDS))))) (am iB) aD)
  (ae (lg K bh cA)
  (ae (lg K bh (nI (vG K) jN T.list (bW dL)))
  (ae (lg K bh (nI (vG K) jN T.list (bW (cv 3))))
  (ae (lg K bh (nI (vG K) jN T.list (bW (cv 4))))
  (ae (lg K bh (nI (vG K) jN T.list (bW (cv 5))))
  (am (lg K bh (cv 6))))))))))))),?_⟩
 show cm _ _ _ [oR p,oR b,oR kd,oR rd,oR td,oR ed,oT st] H;refine cF (λb H'=>b=false/\ak H H') (λQ q=>eF (af ac aC) ⟨.ref kd,rfl,tk,λH' s=>?_⟩) (λH' h=>by cases h.1) (λH1 h=>?_)
 .rw[bk];exact q _ _ ⟨rfl,s⟩
 obtain⟨_,s1⟩:=h;have eqR:rulesB H1 (.ref rd) ws=rulesB H (.ref rd) ws:=kh tr s1;refine cF (λb H'=>b=false/\ak H1 H') (λQ q=>eF (af ac (af ac aC)) ⟨.ref rd,kd,ws,rfl,tr.same s1,wk _ s1,λH' s=>?_⟩) (λH' h=>by cases h.1) (λH2 h=>?_)
 .rw[eqR,br];exact q _ _ ⟨rfl,s⟩
 obtain⟨_,s2⟩:=h;have s02:=s1.trans s2;have eqT:turnsB H2 (.ref td) ws=turnsB H (.ref td) ws:=j9 tt s02;refine cF (λb H'=>b=false/\ak H2 H') (λQ q=>eF (af ac (af ac aC)) ⟨.ref td,kd,ws,rfl,tt.same s02,wk _ s02,λH' s=>?_⟩) (λH' h=>by cases h.1) (λH3 h=>?_)
 .rw[eqT,bt];exact q _ _ ⟨rfl,s⟩
 obtain⟨_,s3⟩:=h;have s03:=s02.trans s3;have eqE:pairsB H3 (.ref ed) endsL ws=pairsB H (.ref ed) endsL ws:=iQ te s03;refine cF (λb H'=>b=false/\ak H3 H') (λQ q=>eF (af ac (af ac aC)) ⟨.ref ed,kd,ws,rfl,te.same s03,wk _ s03,λH' s=>?_⟩) (λH' h=>by cases h.1) (λH4 h=>?_)
 .rw[eqE,be];exact q _ _ ⟨rfl,s⟩
 obtain⟨_,s4⟩:=h;have s04:=s03.trans s4;refine bn (cQ (bw (bq (af ac (af ar aC)) (λQ q=>⟨.str st,aW,cW,rfl,lst',hW H4,q⟩)))) (λh=>?_) (λ_=>?_)
 .have e:wordB (.str st) cW=true:=R6 hst;rw[e]at h;cases h
 have gl:=λb k r t e=>L4 (b:=b) (k:=k) (r:=r) (t:=t) (e:=e);have nk:p≠kd:=ir hp hk (by intro z;cases z);have nr:p≠rd:=ir hp hr' (by intro z;cases z);have nt:p≠td:=ir hp ht (by intro z;cases z);have ne':p≠ed:=ir hp he (by intro z;cases z);have h4:∀(G:Hp),SameBut p H G->G kd=some (.lst (ws.map V.str))/\G rd=some (.lst rs)/\G td=some (.lst ts)/\G ed=some (.lst es):=λG sb=>⟨sb _ _ hk nk.symm,sb _ _ hr' nr.symm,sb _ _ ht nt.symm,sb _ _ he ne'.symm⟩;refine wE (ac rfl) (ac rfl) (s04 _ _ hp) B.cl B.board (by decide) ?_;generalize hG5:upd H4 p (HO.ins cG dx (putF txboard (V.ref b) []))=G5;have p5:G5 p=some (.ins cG dx (gf1 b)):=hG5▸aj;have b5:SameBut p H G5:=hG5▸s04.but.self;have nfree:∀(G:Hp)(q:Z1),SameBut p H G->G p≠none->G q=none->H q=none:=λG q sb hpp hq=>by
  cases e:H q with
  |none=>rfl
  |some o=>
   by_cases z:q=p
   .rw[z]at hq;exact Sc hq hpp
   .have:=sb q o e z;rw[hq]at this;cases this
 refine oi ac (h4 _ b5).1 (λH'=>ac rfl) p5 B.cl B.kinds (by have:=(gl b 0 0 0 0).1;omega) (λkq hkq=>?_);have nkq:p≠kq:=ay p5 hkq;generalize hG6:upd (upd G5 kq (HO.lst (ws.map V.str))) p (HO.ins cG dx (putF txkinds (V.ref kq) (gf1 b)))=G6;have p6:G6 p=some (.ins cG dx (gf2 b kq)):=hG6▸aj;have k6:G6 kq=some (.lst (ws.map V.str)):=by rw[<-hG6,av nkq.symm,aj]
 have b6:SameBut p H G6:=hG6▸(b5.new (nfree _ _ b5 (by rw[p5];simp) hkq)).self;refine oi ac (h4 _ b6).2.1 (λH'=>ac rfl) p6 B.cl B.rules (by have:=(gl b kq 0 0 0).2.1;omega) (λrq hrq=>?_);have nrq:p≠rq:=ay p6 hrq;generalize hG7:upd (upd G6 rq (HO.lst rs)) p (HO.ins cG dx (putF "rules" (V.ref rq) (gf2 b kq)))=G7;have p7:G7 p=some (.ins cG dx (gf3 b kq rq)):=hG7▸aj;have r7:G7 rq=some (.lst rs):=by rw[<-hG7,av nrq.symm,aj]
 have k7:G7 kq=some (.lst (ws.map V.str)):=by rw[<-hG7,av nkq.symm,av (ay k6 hrq)];exact k6
 have b7:SameBut p H G7:=hG7▸(b6.new (nfree _ _ b6 (by rw[p6];simp) hrq)).self;refine oi ac (h4 _ b7).2.2.1 (λH'=>ac rfl) p7 B.cl B.turns (by have:=(gl b kq rq 0 0).2.2.1;omega) (λtq htq=>?_);have ntq:p≠tq:=ay p7 htq;generalize hG8:upd (upd G7 tq (HO.lst ts)) p (HO.ins cG dx (putF "turns" (V.ref tq) (gf3 b kq rq)))=G8;have p8:G8 p=some (.ins cG dx (gf4 b kq rq tq)):=hG8▸aj;have t8:G8 tq=some (.lst ts):=by rw[<-hG8,av ntq.symm,aj]
 have r8:G8 rq=some (.lst rs):=by rw[<-hG8,av nrq.symm,av (ay r7 htq)];exact r7
 have k8:G8 kq=some (.lst (ws.map V.str)):=by rw[<-hG8,av nkq.symm,av (ay k7 htq)];exact k7
 have b8:SameBut p H G8:=hG8▸(b7.new (nfree _ _ b7 (by rw[p7];simp) htq)).self;refine oi ac (h4 _ b8).2.2.2 (λH'=>ac rfl) p8 B.cl B.ends (by have:=(gl b kq rq tq 0).2.2.2.1;omega) (λeq heq=>?_);have neq:p≠eq:=ay p8 heq;generalize hG9:upd (upd G8 eq (HO.lst es)) p (HO.ins cG dx (putF "ends" (V.ref eq) (gf4 b kq rq tq)))=G9;have p9:G9 p=some (.ins cG dx (Fi b kq rq tq eq)):=hG9▸aj;have e9:G9 eq=some (.lst es):=by rw[<-hG9,av neq.symm,aj]
 have t9:G9 tq=some (.lst ts):=by rw[<-hG9,av ntq.symm,av (ay t8 heq)];exact t8
 have r9:G9 rq=some (.lst rs):=by rw[<-hG9,av nrq.symm,av (ay r8 heq)];exact r8
 have k9:G9 kq=some (.lst (ws.map V.str)):=by rw[<-hG9,av nkq.symm,av (ay k8 heq)];exact k8
 have b9:SameBut p H G9:=hG9▸(b8.new (nfree _ _ b8 (by rw[p8];simp) heq)).self;refine yi (λv H'=>v=.str st/\H'=G9) (λQ q=>lR (v:=.str st) ac (q _ _ ⟨rfl,rfl⟩)) p cG dx (λH' Q q=>ac rfl Q q) B.cl B.stuck ?_;rintro _ _ ⟨rfl,rfl⟩;refine⟨_,p9,by have:=(gl b kq rq tq eq).2.2.2.2;omega,?_⟩;refine q _ ⟨dx,kq,rq,tq,eq,aj,?_,?_,?_,?_⟩ b9.self
 .rw[av nkq.symm];exact k9
 .rw[av nrq.symm];exact r9
 .rw[av ntq.symm];exact t9
 .rw[av neq.symm];exact e9
end
end K08
local macro_rules| `(tactic|walk_at "rd")=> `(tactic|simp only[L2.cm,L2.qd,L2.jx,L2.tAsg,L2.gName,L2.oA,L2.lS,L2.cc,L2.tC,L2.iJ,L2.eP,L2.iG,L2.rC,L2.FF,L2.zH,L2.FG,L2.Mh,L2.nM,L2.Bc,L2.mG,L2.jy,L2.cB,L2.bg,L2.RJ,L2.cw,L2.Kj,L2.Qf,L2.ia,L2.uE,L2.Ek,L2.MH,L2.MI,L2.nj,L2.kN,L2.Cn,L2.Cb,L2.Cm,L2.Ca,L2.EG,L2.EC,L2.EF,L2.EB,L2.sO,L2.sG,L2.sP,L2.sH,L2.sL,L2.sD,L2.ve,L2.uV,L2.sK,L2.sC,L2.vg,L2.uX,L2.vh,L2.uY,L2.sN,L2.sF,L2.sM,L2.sE,L2.vf,L2.uW,L2.EE,L2.EA,L2.Cd,L2.kF,L2.Ck,L2.Ao,L2.Cc,L2.qM,L2.vc,L2.nB,L2.sJ,L2.jW,L2.Cj,L2.vb,L2.mh,L2.nV,L2.Cg,L2.uZ,L2.vd,L2.oV,L2.ED,L2.wO,L2.mi,L2.nY,L2.Ci,L2.u9,L2.sI,L2.nX,L2.Ch,L2.u7,L2.Pa,L2.K4,L2.Co,L2.OY,L2.O4,L2.K3,L2.O5,L2.O3,L2.O7,L2.O8,L2.O0,L2.O1,L2.KY,L2.KZ,L2.O6,L2.OZ,L2.K0,L2.K2,L2.O9,L2.Rs,L2.Ce,L2.Rr,L2.Am,L2.Cf,L2.An,L2.Al,L2.r_b,XH,XJ,W4,XM,Wm,YO,YQ,YG,if_true,if_false,decide_true,decide_false])
namespace K08
open PySem L2
def BS:Sp:=λvs H Q _=>∃c:Int,vs=[.int c]/\0<=c/\∀z:Int,1<=z->z<=8->Q (.int z) H
structure L1(P:Ss)(w:World)(K:Frag)(mg:Sf)(R4:SD):Prop where
 _law_at:fC P w K mg R4 "_law_at" [aB,bj] 1 (rV K)
section
def qz{f cB:Z1}{fd:SU}(F:fg K "__init__" "Board.__init__" cI f fd)(T:Txt mg aS aA aE aW aO aF)(B:Bm K cB)(C:CB2 P w K mg R4):bM P w K mg R4 fM 4 f fd ["self","wide","high","holes"] (yx K cB):=by
 refine F.ok2 iO ?_;rintro _ _ _ s H _ Q _ hr hu ⟨p,d,dx,wi,hi,hs,rfl,hp,hd,w1,w8,h1,h8,good,nd,hl,k⟩;have m1:wi*hi<=8*8:=Yz w8 h8 (by omega) (by omega);have m0:0<=wi*hi:=Int.mul_nonneg (by omega) (by omega);have npd:=ir hp hd (by intro z;cases z);refine⟨_,(ae (bc (PW.pt (dQ (bE (bF (aQ C.is_among hr (fU cA (cE ag (kg T.LONGEST)))))) (dD (bE (bF (aQ C.is_among hr (fU dL (cE ag (kg T.LONGEST))))))))) (am iB) aD)
  (ae (bc (bE (bF (aQ C.are_holes hr (cE (cv 3) (aq cA dL))))) (am iB) aD)
  (ae (lg K bh cA)
  (ae (lg K bh dL)
  (ae (lg K bh (kB (yX K) jt T.sorted (bW (cv 3))))
  (am (lg K bh (eN (cj (N:=["square","self"]) (src:=[none,some 0]) (ao cI) ["self","wide","high","holes"]) (LD T.range (bW (aq cA dL))) (λ_ _ _=>(bu (i:=0) ["square","self"])) (λ_ _ _=>bI) (λ_ _ _=>(fX K hu bh (m7 K cA))))))))))),?_⟩
 refine bn (dY (cQ (bw (bq (af ac (af ar (af ar aC))) (λQ q=>⟨wi,1,8,rfl,q⟩)))) (λ_=>(cQ (bw (bq (af ac (af ar (af ar aC))) (λQ q=>⟨hi,1,8,rfl,q⟩)))))) (λh=>?_) (λ_=>?_)
 .rw[R6 (⟨w1,w8⟩:1<=wi/\wi<=8),R6 (⟨h1,h8⟩:1<=hi/\hi<=8)]at h;cases h
 refine cF (λb H'=>b=false/\ak H H') (λQ q=>?_) (λH' h=>by cases h.1) (λH1 h=>?_)
 .exact eF (af ac (af (iE ac ac (.inl ⟨by omega,by omega⟩)) aC)) ⟨d,wi*hi,hs,rfl,hd,good,nd,hl,by omega,λH' s=>q _ _ ⟨rfl,s⟩⟩
 obtain⟨_,s1⟩:=h;refine wE (ac rfl) (ac rfl) (s1 _ _ hp) B.cl B.wide (by decide) ?_;have a1:=df "wide" (V.int wi) [];have a2:=df "high" (V.int hi) (putF "wide" (V.int wi) []);simp only[W5]at a1;refine wE (ac rfl) (ac rfl) aj B.cl B.high (by omega) ?_;generalize hH3:upd (upd H1 p (HO.ins cB dx (putF "wide" (V.int wi) []))) p (HO.ins cB dx (putF "high" (V.int hi) (putF "wide" (V.int wi) [])))=H3;have p3:=hH3▸aj;have s3:=hH3▸(s1.but.self.self);have d3:=s3 _ _ hd npd.symm;refine Ep (λv H'=>∃(hs':List Int)(q:Z1),v=.ref q/\hs'.Perm hs/\hs'.Pairwise (·<=·)/\H3 q=none/\H'=upd H3 q (.lst (hs'.map V.int))) (λQ q=>?_) p cB dx (λH' Q q=>ac rfl Q q) B.cl B.holes ?_
 .exact FK (ac rfl) ⟨hs,aV.of d3,by omega,λhs' q' h1 h2 h3=>q _ _ ⟨hs',q',rfl,h1,h2,h3,rfl⟩⟩
 rintro _ _ ⟨hs',q,rfl,pm,sr,hq,rfl⟩;have npq:=ay p3 hq;have a3:=df "holes" (V.ref q) (putF "high" (V.int hi) (putF "wide" (V.int wi) []));refine⟨_,(by rw[av npq];exact p3),(by omega),?_⟩;generalize hH4:upd (upd H3 q (HO.lst (hs'.map V.int))) p (HO.ins cB dx (putF "holes" (V.ref q) (putF "high" (V.int hi) (putF "wide" (V.int wi) []))))=H4;have p4:=hH4▸aj;have q4:H4 q=some (.lst (hs'.map V.int)):=by rw[<-hH4,av npq.symm,aj]
 have hqH:H q=none:=by
  cases e:H q with
  |none=>rfl
  |some o=>
   have:=s3 q o e npq.symm;rw[hq]at this;cases this
 have s4:=hH4▸((s3.new hqH).self);have f4:Fl K H4 p "holes" (.ref q):=⟨cB,dx,_,p4,B.cl,B.holes,by rw[aK,R9 rfl]⟩;refine yi (λv H'=>∃(pf:Z1),v=.ref pf/\H4 pf=none/\H'=upd H4 pf (.lst ((zk wi hi hs').map V.bl))) (λQ k'=>?_) p cB dx (λH' Q q=>ac rfl Q q) B.cl B.firm ?_
 .refine vY (af (iE ac ac (.inl ⟨by omega,by omega⟩)) aC) m0 (by rw[Sw];omega) (by omega) rfl (λ_=>true) (λx=>match x with| .int i=>.bl (!decide (i∈hs'))|_=>.non) (λi hi=>fE) (λi hi _=>?_) (λd' hd'=>?_)
  .exact(Dt ac (gD ac (f4)) (.inl (aV.of q4)))
  .refine k' _ _ ⟨d',rfl,hd',?_⟩;have e:(((List.range (wi*hi).toNat).map λ(i:Nat)=>V.int (0+(i:Int))).filter λ_=>true).map (λx=>match x with| .int i=>V.bl (!decide (i∈hs'))|_=>.non)=(zk wi hi hs').map V.bl:=by rw[WP.mpr (λ_ _=>rfl),Ws];unfold zk;rw[Ws];refine WK λi _=>?_;show V.bl (!decide (0+(i:Int)∈hs'))=V.bl (!decide ((i:Int)∈hs'));rw[YA]
   rw[e]
 rintro _ _ ⟨pf,rfl,hpf,rfl⟩;have npf:=ay p4 hpf;have nqf:=ay q4 hpf;have hfH:H pf=none:=by
  cases e:H pf with
  |none=>rfl
  |some o=>
   have:=s4 pf o e npf.symm;rw[hpf]at this;cases this
 refine⟨_,(by rw[av npf];exact p4),(by omega),?_⟩;refine k hs' _ pm ⟨⟨dx,q,pf,aj,by rw[av npq.symm,av nqf];exact q4,by rw[av npf.symm,aj]⟩,w1,w8,h1,h8,λh hh=>good h (pm.mem_iff.mp hh),sr,pm.nodup_iff.mpr nd⟩ ((s4.new hfH).self)
def w6(F:fg K "_law_at" "_law_at" jm f fd)(T:Txt mg aS aA aE aW aO aF):bM P w K mg R4 fM 1 f fd [aB,bj] (rV K):=by
 refine F.ok2 lA ?_;rintro _ _ _ _ H _ Q _ hr hu ⟨a,ns,k,rfl,hS,h0,h1,q⟩;refine⟨_,(ae (aw 2 lA.nd ag)
  (ae (bc (bf K hu (kB (eI K) bJ T.len (bW bh)) ag) (am (aw 2 lA.nd (cV K bh (aq cA (kB (eI K) bJ T.len (bW bh)))))) aD)
  (am (aG (aq (aq (aq dL (aq ag cA)) ag) ag))))),?_⟩
 show cm _ _ _ [oR a,oJ k,none] H;unfold lawAt at q
 walk_at "rd"
 refine⟨_,.inl hS,?_⟩;rw[Wm]
 by_cases hn:0<ns.length
 .rw[R6 (by omega:(0:Int)<(ns.length:Int)),R9 rfl];rw[R9 hn]at q;refine⟨_,.inl hS,?_⟩;rw[Wm];have hm0:=Yx k (by omega:(ns.length:Int)≠0);have hm1:=Yy k (by omega:(0:Int)<(ns.length:Int));obtain⟨v,e1,e2⟩:=Mo (xs:=ns.map V.int) hm0 (by rw[Wm];exact hm1);refine⟨by omega,_,v,.inl hS,e1,?_⟩;have hv:v=.int (ns.getD (k % (ns.length:Int)).toNat 0):=by
   rw[Wr]at e2;cases e:ns[(k % (ns.length:Int)).toNat]? with
   |none=>rw[e]at e2;cases e2
   |some z=>
    rw[e]at e2;rw[WD,e];exact(Sd e2).symm
  subst hv;exact⟨.inl ⟨by decide,by decide⟩,.inr ⟨by decide,by decide⟩,by decide,q⟩
 .rw[R7 (by omega:¬(0:Int)<(ns.length:Int))];rw[R8 hn]at q;simp only[YG,if_false];exact⟨.inl ⟨by decide,by decide⟩,.inr ⟨by decide,by decide⟩,by decide,q⟩
def tz(F:fg K "_law_side" "_law_side" gP f fd)(T:Txt mg aS aA aE aW aO aF):bM P w K mg R4 fM 1 f fd [aM] BS:=by
 refine F.ok2 su ?_;rintro _ _ _ _ H _ Q _ hr hu ⟨c,rfl,c0,q⟩;refine⟨_,(ae (bc (bf K hu (aq bh ag) ag) (am (aG (aq ag (aq (aq bh ag) ag)))) aD)
  (am (aG (aq ag (aq (aq bh ag) ag))))),?_⟩
 refine bn (bw (dz (bR ac ar) ar)) (λ_=>?_) (λ_=>?_)
 .exact aZ (dm ar (bR (db ac ar) ar)) (q _ (by omega) (by omega))
 .exact aZ (dm ar (bR (db ac ar) ar)) (q _ (by omega) (by omega))
end
def JT(K:Frag):Sp:=λvs H Q _=>∃(a:Z1)(ns:List Int)(k:Int),vs=[.ref a,.int k]/\aV K H a (ns.map V.int)/\0<=k/\k<=1000/\∀(q:Z1)(ks:List Nat)(H':Hp),jY H' q ks->H q=none->ak H H'->Q (.ref q) H'
section
def qx(F:fg K "_law_kinds" "_law_kinds" eV f fd)(T:Txt mg aS aA aE aW aO aF)(C:L1 P w K mg R4):bM P w K mg R4 fM 2 f fd [aB,bj] (JT K):=by
 refine F.ok2 fw ?_;rintro _ _ _ s H _ Q _ hr _ ⟨a,ns,k,rfl,hS,k0,k1,q⟩;refine⟨_,(ae (aw 2 fw.nd (aQ C._law_at hr (cE bh cA)))
  (ae (aw 3 fw.nd aI)
  (ae (aw 4 fw.nd (cV K (bG (cT rfl)) (aq (aq dL ag) ag)))
  (ae (aw 5 fw.nd (cV K (bG (cT rfl)) (aq (aq dL ag) ag)))
  (am (aG (eN (cj (N:=["_law_j","_law_letters",aM,"_law_step"]) (src:=[none,some 3,some 2,some 4]) (ao eV) [aB,bj,aM,"_law_letters","_law_step",cf]) (LD T.range (bW (cv 5))) (λ_ _ _=>(bu (i:=0) ["_law_j","_law_letters",aM,"_law_step"])) (λ_ _ _=>bI) (λ_ _ _=>(cV K cA (aq (aq dL (aq bh (cv 3))) ag)))))))))),?_⟩
 refine cq (bq (sp:=rV K) (af ac (af ac aC)) (λQ q=>⟨a,ns,k,rfl,hS,k0,k1,q⟩)) ?_;generalize lawAt ns k=c;refine cq ar ?_;refine ba (λv H'=>∃st:Int,v=.int st/\st∈([1,3,5,7,9,11,15,17,19,21,23,25]:List Int)/\ak H H') (λQ q=>?_) ?_
 .obtain⟨n,e,hn⟩:=vj (ns:=[1,3,5,7,9,11,15,17,19,21,23,25]) (i:=c / 26 % 12) (by omega) (by show _<(12:Int);omega);exact mq iH (by decide) (λH'=>(bR (db ac ar) ar)) e (λH' s=>q _ _ ⟨n,rfl,hn,s⟩)
 rintro _ H1 ⟨st,rfl,hst,s1⟩;refine ba (λv H'=>∃n:Int,v=.int n/\n∈([1,2,3,2,3,6,4,5]:List Int)/\ak H1 H') (λQ q=>?_) ?_
 .obtain⟨n,e,hn⟩:=vj (ns:=[1,2,3,2,3,6,4,5]) (i:=c / 312 % 8) (by omega) (by show _<(8:Int);omega);exact mq iH (by decide) (λH'=>(bR (db ac ar) ar)) e (λH' s=>q _ _ ⟨n,rfl,hn,s⟩)
 rintro _ H2 ⟨n,rfl,hn,s2⟩;have hn6:1<=n/\n<=6:=by simp only[Wn,WB,or_false]at hn;omega
 refine vY (af ac aC) (by omega) (by rw[Sw];omega) (by omega) rfl (λ_=>true)
  (λx=>match x with| .int i=>iw (97+((c+i*st) % 26).toNat)|_=>.non) (λi hi=>fE) (λi hi _=>?_) (λd hd=>?_)
 .exact xx ac (bR (dm ac (iE ac ac (.inl ⟨by omega,by omega⟩))) ar) (by decide) (Mv (by omega) (by omega))
 .refine q d ((List.range n.toNat).map λ(i:Nat)=>97+((c+(0+(i:Int))*st) % 26).toNat) _ ⟨?_,?_,?_,?_,?_⟩ ((s1.trans s2).free hd) ((s1.trans s2).upd hd)
  .rw[aj,WP.mpr (λ_ _=>rfl),Ws,Ws];rfl
  .intro x hx;obtain⟨i,_,rfl⟩:=Wo.mp hx
   constructor<;>omega
  .rw[Wm,W1];omega
  .rw[Wm,W1];omega
  .rw[XO,XQ,XD];intro x y hx hy hxy e;rw[W1]at hx hy;rw[X7,X7]at e;simp only[Wn,WB,or_false]at hst
   rcases hst with rfl|rfl|rfl|rfl|rfl|rfl|rfl|rfl|rfl|rfl|rfl|rfl
   all_goals omega
def tF(F:fg K "_law_rule" "_law_rule" gS f fd)(T:Txt mg aS aA aE aW aO aF):bM P w K mg R4 fM 1 f fd [aM,au] yr:=by
 refine F.ok2 cY ?_;rintro _ _ _ s H _ Q _ hr hu ⟨c,d,ks,rfl,hk,q⟩;refine⟨_,(ae (aw 2 cY.nd (cV K (bG (cT rfl)) (aq bh ag)))
  (ae (aw 3 cY.nd ag)
  (ae (bc (bf K hu dL aI) (am (aw 3 cY.nd (cV K (bG (cT rfl)) (aq (aq bh ag) ag)))) aD)
  (ae (aw 4 cY.nd (cV K (bG (cT rfl)) (aq (aq bh ag) ag)))
  (ae (bc (bf K hu dL aI) (am (aw 4 cY.nd aI)) aD)
  (ae (aw 5 cY.nd (aq (aq (aq bh ag) (aq (aq ag (cv 3)) ag)) (cv 3)))
  (ae (aw 6 cY.nd (aq (aq (aq bh ag) (aq (aq ag (cv 3)) ag)) (cv 3)))
  (ae (bc (PW.pt (mR (bf K hu (cv 5) ag) (kG (bf K hu (cv 6) ag)))) (am (aw 6 cY.nd (cV K (bG (cE ag (ug ag))) (aq (aq bh ag) ag)))) aD)
  (am (aG (eM (fU (cV K cA (aq (aq bh ag) (kB (eI K) bJ T.len (bW cA)))) (fU dL (fU (cv 4) (cE (cv 5) (cv 6)))))))))))))))),?_⟩
 show cm _ _ _ [oJ c,oR d,none,none,none,none,none] H;refine ba (λv H'=>∃so:Str,v=.str so/\so∈sortsL/\ak H H') (λQ q=>?_) ?_
 .obtain⟨n,e,hn⟩:=yH (ss:=sortsL) (i:=c % 3) (by omega) (by show _<(3:Int);omega);exact mq iH (by decide) (λH'=>(bR ac ar)) e (λH' s=>q _ _ ⟨n,rfl,hn,s⟩)
 rintro _ H1 ⟨so,rfl,hso,s1⟩;refine cq ar ?_;show cm _ _ _ [oJ c,oR d,oT so,oJ 1,none,none,none] H1;refine lT (λσ' H'=>ak H1 H'/\∃fr:Int,σ'=[oJ c,oR d,oT so,oJ fr,none,none,none]/\1<=fr/\fr<=(if so="leap"then 3 else 1)) ?_ (λgo=>?_)
 rotate_left
 .refine bn (bw (dq ac ar)) (λh=>?_) (λh=>go _ _ ⟨ak.refl _,1,rfl,by decide,by split<;>omega⟩);obtain⟨n,e,hn⟩:=vj (ns:=[1,2,3,3]) (i:=c / 3 % 4) (by omega) (by show _<(4:Int);omega);have hn6:1<=n/\n<=3:=by simp only[Wn,WB,or_false]at hn;omega
  exact pZ (mq iH (by decide) (λH'=>(bR (db ac ar) ar)) e (λH' s=>go _ _ ⟨s,n,rfl,hn6.1,by rw[R9 (Sa h)];exact hn6.2⟩))
 rintro _ H2 ⟨s2,fr,rfl,f0,f1⟩;have fr3:fr<=3:=by split at f1<;>omega
 refine ba (λv H'=>∃so:Str,v=.str so/\so∈aimsL/\ak H2 H') (λQ q=>?_) ?_
 .obtain⟨n,e,hn⟩:=yH (ss:=aimsL) (i:=c / 12 % 3) (by omega) (by show _<(3:Int);omega);exact mq iH (by decide) (λH'=>(bR (db ac ar) ar)) e (λH' s=>q _ _ ⟨n,rfl,hn,s⟩)
 rintro _ H3 ⟨ai,rfl,hai,s3⟩;show cm _ _ _ [oJ c,oR d,oT so,oJ fr,oT ai,none,none] H3;refine lT (λσ' H'=>H'=H3/\∃ai:Str,σ'=[oJ c,oR d,oT so,oJ fr,oT ai,none,none]/\ai∈aimsL/\(so="jump"->ai="hit")) ?_ (λgo=>?_)
 rotate_left
 .exact bn (bw (dq ac ar)) (λh=>jz ar (go _ _ ⟨rfl,"hit",rfl,by decide,λ_=>rfl⟩)) (λh=>go _ _ ⟨rfl,ai,rfl,hai,λz=>Sc z (Sb h)⟩)
 rintro _ H3 ⟨rfl,ai,rfl,hai,hjh⟩;refine cq (nh (bR (db ac ar) (dm (iE ar ac (.inl ⟨by decide,by decide⟩)) ar) (by omega)) ac) ?_;refine cq (nh (bR (db ac ar) (dm (iE ar ac (.inl ⟨by decide,by decide⟩)) ar) (by omega)) ac) ?_;have a0:=Yx (c / 36) (by omega:2*fr+1≠0);have a1:=Yy (c / 36) (by omega:0<2*fr+1);have b0:=Yx (c / 252) (by omega:2*fr+1≠0);have b1:=Yy (c / 252) (by omega:0<2*fr+1);have hax: -fr<=c / 36 % (2*fr+1) - fr/\c / 36 % (2*fr+1) - fr<=fr:=by omega
 have hup: -fr<=c / 252 % (2*fr+1) - fr/\c / 252 % (2*fr+1) - fr<=fr:=by omega
 generalize c / 36 % (2*fr+1) - fr=ax at hax;generalize c / 252 % (2*fr+1) - fr=up at hup;show cm _ _ _ [oJ c,oR d,oT so,oJ fr,oT ai,oJ ax,oJ up] H3;refine lT (λσ' H'=>ak H3 H'/\∃up:Int,σ'=[oJ c,oR d,oT so,oJ fr,oT ai,oJ ax,oJ up]/\-fr<=up/\up<=fr/\¬(ax=0/\up=0)) ?_ (λgo=>?_)
 rotate_left
 .refine bn (oz (bw (dz ac ar)) (λ_=>bw (dz ac ar))) (λh=>?_) (λh=>go _ _ ⟨ak.refl _,up,rfl,hup.1,hup.2,λz=>by simp[z.1,z.2]at h⟩);obtain⟨n,e,hn⟩:=vj (ns:=[1, -1]) (i:=c / 1764 % 2) (by omega) (by show _<(2:Int);omega);exact pZ (mq (af ar (af (tX ar) aC)) (by decide) (λH'=>(bR (db ac ar) ar)) e (λH' s=>go _ _ ⟨s,n,rfl,by simp only[Wn,WB,or_false]at hn;omega,by simp only[Wn,WB,or_false]at hn;omega,by simp only[Wn,WB,or_false]at hn;omega⟩))
 rintro _ H4 ⟨s4,up,rfl,u0,u1,n0⟩;have s04:=((s1.trans s2).trans s3).trans s4;have hk4:=hk.same s04;obtain⟨k,hkm,ek⟩:=hk4.pick (c / 3528);have hpos:(0:Int)<((ks.map iw).length:Int):=by rw[Wm];have:=hk.l1;omega
 refine zW (bo (bP ac (bR (db ac ar) (cS ac (.inl (aV.of hk4.at_))) hpos) (.inl (aV.of hk4.at_)) ek) (bo ac (bo ac (bo ac (bo ac (de ⟨by show 5<=h9;decide,λp hp=>?_⟩))))));exact q p ⟨one k,so,ai,ax,up⟩ _ ⟨⟨k,hkm,rfl⟩,hso,hai,hjh,⟨by show -(if so="leap"then 3 else 1)<=ax;omega,Int.le_trans hax.2 f1⟩,⟨by show -(if so="leap"then 3 else 1)<=up;omega,Int.le_trans u1 f1⟩,n0⟩ (s04.free hp) aj (s04.upd hp)
end
def JO(K:Frag):Sp:=λvs H Q _=>∃(a:Z1)(ns:List Int)(k:Int)(d:Z1)(ks:List Nat),vs=[.ref a,.int k,.ref d]/\aV K H a (ns.map V.int)/\0<=k/\k<=900/\jY H d ks/\∀(q:Z1)(zs:List ((Str×Str)×Z1))(H':Hp),D8 ks zs->gZ H' zs->H q=none->H' q=some (.lst (dn zs))->ak H H'->Q (.ref q) H'
def JP(K:Frag):Sp:=λvs H Q _=>∃(a:Z1)(ns:List Int)(k:Int)(d:Z1)(ks:List Nat),vs=[.ref a,.int k,.ref d]/\aV K H a (ns.map V.int)/\0<=k/\k<=900/\jY H d ks/\∀(q:Z1)(us:List (dI×Z1))(H':Hp),(∀z∈us,mK ks z.1)->us.length<=24->ic H' us->H q=none->H' q=some (.lst (gx us))->ak H H'->Q (.ref q) H'
theorem B8:∀ys,(∀y∈ys,∃a u,y=.ref a/\H a=some (.tup (dI.vs u))/\mK ks u)->∃us:List (dI×Z1),ys=gx us/\ic H us/\(∀z∈us,mK ks z.1)/\us.length=ys.length
 | [],_=>⟨[],rfl,λ_ z=>(nomatch z),λ_ z=>(nomatch z),rfl⟩
 |y::ys,h=>by
  obtain⟨a,u,rfl,ha,g⟩:=h y (Wv ..);obtain⟨us,rfl,h1,h2,h3⟩:=B8 ys λy hy=>h y (Wy _ hy);refine⟨(u,a)::us,rfl,λz hz=>?_,λz hz=>?_,by rw[Wx,h3,Wx]⟩
  .rcases Wn.mp hz with rfl|hz
   .exact ha
   .exact h1 z hz
  .rcases Wn.mp hz with rfl|hz
   .exact g
   .exact h2 z hz
structure L2k(P:Ss)(w:World)(K:Frag)(mg:Sf)(R4:SD):Prop extends L1 P w K mg R4 where
 _law_rule:fC P w K mg R4 "_law_rule" [aM,au] 1 yr
section
def qu(F:fg K "_law_rules" "_law_rules" eU f fd)(T:Txt mg aS aA aE aW aO aF)(C:L2k P w K mg R4):bM P w K mg R4 fM 2 f fd [aB,bj,au] (JP K):=by
 refine F.ok2 gG ?_;rintro _ _ _ s H _ Q _ hr hu ⟨a,ns,k,d,ks,rfl,hS,k0,k1,hk,q⟩;refine⟨_,(ae (aw 3 gG.nd (aQ C._law_at hr (cE bh cA)))
  (ae (aw 4 gG.nd (aq (cv 3) ag))
  (ae (bc (bf K hu (aq (aq (cv 3) ag) ag) ag) (am (aw 4 gG.nd (aq (aq (cv 3) ag) ag))) aD)
  (am (aG (eN (cj (N:=["_law_j",au,aB,bj]) (src:=[none,some 2,some 0,some 1]) (ao eU) [aB,bj,au,aM,cf]) (LD T.range (bW (cv 4))) (λ_ _ _=>(bu (i:=0) ["_law_j",au,aB,bj])) (λ_ _ _=>bI) (λ_ _ _=>(aQ C._law_rule hr (cE (aQ C._law_at hr (cE dL (aq (aq (cv 3) ag) bh))) cA))))))))),?_⟩
 refine cq (bq (af ac (af ac aC)) (λQ q=>⟨a,ns,k,rfl,hS,k0,by omega,q⟩)) ?_;generalize lawAt ns k=c;refine cq (bR ac ar) ?_;refine lT (λσ' H'=>H'=H/\∃m:Int,σ'=[oR a,oJ k,oR d,oJ c,oJ m]/\0<=m/\m<=24) ?_ (λgo=>?_)
 rotate_left
 .exact bn (bw (dz (bR (db ac ar) ar) ar)) (λh=>jz (bR (db ac ar) ar) (go _ _ ⟨rfl,_,rfl,by omega,by omega⟩)) (λh=>go _ _ ⟨rfl,_,rfl,by omega,by omega⟩)
 rintro _ H ⟨rfl,m,rfl,m0,m1⟩;refine rz (λQ' z'=>(af ac aC) _ (z' _ (ak.refl _))) (by omega) (by omega) rfl
  (λi H' v=>∃a u,v=.ref a/\H' a=some (.tup (dI.vs u))/\mK ks u) (λi H1 H2 v ⟨a,u,e1,e2,g⟩ s=>⟨a,u,e1,s _ _ e2,g⟩) (λi H' hi s' Q2 z2=>?_) (λp H' ys s' hp hyl hy=>?_)
 .exact dH (af (bq (af ac (af (dm (dm ac ar) ac) aC)) (λQ q=>⟨a,ns,_,rfl,s'.seq hS,by omega,by omega,q⟩)) (af ac aC)) ⟨_,d,ks,rfl,hk.same s',λt u H2 g n e s2=>z2 _ _ ⟨t,u,rfl,e,g⟩ s2⟩
 .obtain⟨us,rfl,h1,h2,h3⟩:=B8 ys λy hym=>by obtain⟨i,hi⟩:=W0 hym;exact hy i y hi
  exact q p us _ h2 (by omega) (h1.same ((ak.refl _).upd hp)) (s'.free hp) aj (s'.upd hp)
def qt(F:fg K "_law_turns" "_law_turns" eT f fd)(T:Txt mg aS aA aE aW aO aF)(C:L1 P w K mg R4):bM P w K mg R4 fM 2 f fd [aB,bj,au] (JO K):=by
 refine F.ok2 fv ?_;rintro _ _ _ s H _ Q _ hr hu ⟨a,ns,k,d,ks,rfl,hS,k0,k1,hk,q⟩;refine⟨_,(ae (aw 3 fv.nd (aQ C._law_at hr (cE bh cA)))
  (ae (aw 4 fv.nd (kB (rA rfl) DU T.min (cE (aq (aq (cv 3) ag) ag) (aq (kB (eI K) bJ T.len (bW dL)) ag))))
  (ae (bc (bf K hu (aq (aq (cv 3) ag) ag) ag) (am (aw 4 fv.nd (aq (kB (eI K) bJ T.len (bW dL)) ag))) aD)
  (ae (aw 5 fv.nd (kQ K dL (bC (cv 4)) bH))
  (am (aG (eN (cj (N:=["_law_j",au,"_law_others",aM]) (src:=[none,some 2,some 5,some 3]) (ao eT) [aB,bj,au,aM,cf,"_law_others"]) (LD T.range (bW (cv 4))) (λ_ _ _=>(bu (i:=0) ["_law_j",au,"_law_others",aM])) (λ_ _ _=>bI) (λ_ _ _=>(eM (cE (cV K cA bh) (cV K dL (aq (aq (aq (cv 3) ag) bh) (kB (eI K) bJ T.len (bW dL)))))))))))))),?_⟩
 show cm _ _ _ [oR a,oJ k,oR d,none,none,none] H;refine cq (bq (sp:=rV K) (af ac (af ac aC)) (λQ q=>⟨a,ns,k,rfl,hS,k0,by omega,q⟩)) ?_;generalize lawAt ns k=c;have hl0:=hk.l1;have hl6:=hk.l6;have hsq:aV K H d (ks.map iw):=aV.of hk.at_;have hlen:((ks.map iw).length:Int)=ks.length:=by rw[Wm]
 refine cq (Du (db (bR ac ar) ar) (nh (cS ac (.inl hsq)) ar)) ?_;rw[hlen];have hm:∃m:Nat,(if(ks.length:Int) - 1<c % 6 / 2 then(ks.length:Int) - 1 else c % 6 / 2)=(m:Int)/\m<ks.length:=by
  split
  .exact⟨ks.length - 1,by omega,by omega⟩
  .exact⟨(c % 6 / 2).toNat,by omega,by omega⟩
 obtain⟨m,em,hm⟩:=hm;rw[em];show cm _ _ _ [oR a,oJ k,oR d,oJ c,oJ (m:Int),none] H;refine lT (λσ' H'=>H'=H/\∃m:Nat,σ'=[oR a,oJ k,oR d,oJ c,oJ (m:Int),none]/\m<ks.length) ?_ (λgo=>?_)
 rotate_left
 .refine bn (bw (dz (bR (db ac ar) ar) ar)) (λh=>jz (v:=.int ((ks.length - 1:Nat):Int)) ?_ (go _ _ ⟨rfl,ks.length - 1,rfl,by omega⟩)) (λh=>go _ _ ⟨rfl,m,rfl,hm⟩);have h:=nh (cS (to:=cc 2) (σ:=[oR a,oJ k,oR d,oJ c,oJ (m:Int),none]) ac (.inl hsq)) (ar (x:=.int 1));rw[hlen,show(ks.length:Int) - 1=((ks.length - 1:Nat):Int) by omega]at h;exact h
 rintro _ H ⟨rfl,m,rfl,hm⟩;refine ba (λv H'=>∃l,v=.ref l/\H' l=some (.lst (cutV (ks.map iw) (some (m:Int)) none))/\ak H H') (λQ q=>oN ac (λQ q=>?_) (λQ q=>q) hsq (λp hp=>q _ _ ⟨p,rfl,aj,(ak.refl H).upd hp⟩)) ?_
 .exact q
 rintro _ H1 ⟨l,rfl,hl,s1⟩;have ec:cutV (ks.map iw) (some (m:Int)) none=(ks.drop m).map iw:=by unfold cutV;rw[HT.sIx_none,HT.sIx_nat,Wm,Yn (Yq hm),<-Xv,WO];rw[Wm,WH];exact Yd _
 rw[ec]at hl;have hol:((ks.drop m).map iw).length=ks.length - m:=by rw[Wm,WH]
 show jx _ _ [oR a,oJ k,oR d,oJ c,oJ (m:Int),oR l] H1;have at_:∀(xs:List Nat)(i:Int),0<=i->i<xs.length->oh (xs.map iw) i=some (iw (xs.getD i.toNat 0))/\xs.getD i.toNat 0∈xs:=λxs i h0 h1=>by
  have hi:i.toNat<xs.length:=by omega
  have e:xs[i.toNat]? =some (xs.getD i.toNat 0):=by rw[WD,Wp hi];rfl
  have z:=bK (xs:=xs.map iw) (j:=i.toNat) (v:=iw (xs.getD i.toNat 0)) (by rw[Wr,e];rfl);rw[YB h0]at z;exact⟨z,Ww e⟩
 have hdl:(ks.drop m).length=ks.length - m:=WH ..;refine rz (n:=(m:Int)) (rest:=[oR d,oR l,oJ c]) (λQ' z'=>(af ac aC) _ (z' _ (ak.refl _))) (by omega) (by omega) rfl
  (λi H' v=>∃a,v=.ref a/\H' a=some (.tup [.str (one (ks.getD i 0)),.str (one ((ks.drop m).getD ((c / 48+(i:Int)) % ((ks.drop m).length:Int)).toNat 0))])) (λi H1 H2 v ⟨a,e1,e2⟩ s=>⟨a,e1,s _ _ e2⟩) (λi H' hi s' Q2 z2=>?_) (λp H' ys s' hp hyl hy=>?_)
 .have hi:i<m:=by omega
  have hos1:(0:Int)<((ks.drop m).length:Int):=by omega
  have ld:aV K H' d (ks.map iw):=aV.of (s' _ _ (s1 _ _ hk.at_));have ll:aV K H' l ((ks.drop m).map iw):=aV.of (s' _ _ hl);have e1:=(at_ ks (0+(i:Int)) (by omega) (by omega)).1;rw[YA,Yw]at e1;have e2:=(at_ (ks.drop m) ((c / 48+(i:Int)) % ((ks.drop m).length:Int)) (Yx _ (by omega)) (Yy _ hos1)).1;rw[YA];refine mO (x:=iw (ks.getD i 0)) (y:=iw ((ks.drop m).getD ((c / 48+(i:Int)) % ((ks.drop m).length:Int)).toNat 0)) (bP ac ac (.inl ld) e1) (bP ac (bR (dm (db ac ar) ac) (cS ac (.inl ll)) (by rw[Wm];exact hos1)) (.inl ll) (by rw[Wm];exact e2)) λa ha=>z2 _ _ ⟨a,rfl,aj⟩ ((ak.refl _).upd ha)
 .obtain⟨zs,rfl,h1,h2,h3⟩:=yF (λi=>(one (ks.getD i 0),one ((ks.drop m).getD ((c / 48+(i:Int)) % ((ks.drop m).length:Int)).toNat 0))) ys 0 λi y hi=>by rw[Nat.zero_add];exact hy i y hi
  have zl:zs.length=m:=by rw[h2,hyl];omega
  have val:∀(i:Nat) z,zs[i]? =some z->i<m/\z.1=(one (ks.getD i 0),one ((ks.drop m).getD ((c / 48+(i:Int)) % ((ks.drop m).length:Int)).toNat 0)):=λi z h=>by have hi:=(Wz.mp h).1;have:=h3 i z h;rw[Nat.zero_add]at this;exact⟨by omega,this⟩
  have inj:∀i j:Nat,i<ks.length->j<ks.length->ks.getD i 0=ks.getD j 0->i=j:=λi j hi hj e=>by rw[WD,WD,Wp hi,Wp hj]at e;exact(Xn hk.nd).mp (by simpa using e)
  have dr:∀j:Nat,(ks.drop m).getD j 0=ks.getD (m+j) 0:=λj=>by rw[WD,WD,List.getElem?_drop]
  have hos1:(0:Int)<((ks.drop m).length:Int):=by omega
  have rg:∀i:Nat,((c / 48+(i:Int)) % ((ks.drop m).length:Int)).toNat<ks.length - m:=λi=>by have a1:=Yy (c / 48+(i:Int)) hos1;omega
  have mem:∀i:Nat,i<ks.length->ks.getD i 0∈ks:=λi hi=>by
   have:=(at_ ks (i:Int) (by omega) (by omega)).2
   rwa[Yw]at this
  refine q p zs _ ⟨by omega,λz h=>?_,?_,λz h y h' e=>?_⟩ (h1.same ((ak.refl _).upd hp)) ((s1.trans s').free hp) aj ((s1.trans s').upd hp)
  .obtain⟨i,hi⟩:=W0 h;obtain⟨a1,e⟩:=val i z hi;rw[e];exact⟨⟨_,mem i (by omega),rfl⟩,_,by rw[dr];exact mem _ (by have:=rg i;omega),rfl⟩
  .rw[XO,XQ,XD];intro i j hi hj hij e;obtain⟨a1,a3⟩:=val i _ (Wp hi);obtain⟨b1,b3⟩:=val j _ (Wp hj);rw[a3,b3]at e;have:=inj i j (by omega) (by omega) (yR e);omega
  .obtain⟨i,hi⟩:=W0 h;obtain⟨j,hj⟩:=W0 h';obtain⟨a1,a3⟩:=val i z hi;obtain⟨b1,b3⟩:=val j y hj;rw[a3,b3]at e;have e:=yR e;rw[dr]at e;have:=rg i;have:=inj _ _ (by omega) (by omega) e;omega
end
structure D9(ks:List Nat)(zs:List ((Str×Str)×Z1)):Prop where
 len:zs.length<=6
 kd:∀z∈zs,z.1.1∈endsL/\∃b∈ks,z.1.2=one b
def JU(K:Frag):Sp:=λvs H Q _=>∃(a:Z1)(ns:List Int)(k:Int)(d:Z1)(ks:List Nat),vs=[.ref a,.int k,.ref d]/\aV K H a (ns.map V.int)/\0<=k/\k<=900/\jY H d ks/\∀(q:Z1)(zs:List ((Str×Str)×Z1))(H':Hp),D9 ks zs->gZ H' zs->H q=none->H' q=some (.lst (dn zs))->ak H H'->Q (.ref q) H'
structure Bh(H:Hp)(pl:Z1)(kd rd td ed:Z1)(ks:List Nat)(us:List (dI×Z1))(ts es:List ((Str×Str)×Z1)):Prop where
 at_:H pl=some (.lst [.ref kd,.ref rd,.ref td,.ref ed])
 kds:jY H kd ks
 rls:H rd=some (.lst (gx us))
 ra:ic H us
 rg:∀z∈us,mK ks z.1
 rl:us.length<=24
 tns:H td=some (.lst (dn ts))
 ta:gZ H ts
 tg:D8 ks ts
 ens:H ed=some (.lst (dn es))
 ea:gZ H es
 eg:D9 ks es
theorem Bh.same(h:Bh H pl kd rd td ed ks us ts es)(s:ak H H'):Bh H' pl kd rd td ed ks us ts es:=
 ⟨s _ _ h.at_,h.kds.same s,s _ _ h.rls,h.ra.same s,h.rg,h.rl,s _ _ h.tns,h.ta.same s,h.tg,s _ _ h.ens,h.ea.same s,h.eg⟩
def JQ(K:Frag):Sp:=λvs H Q _=>∃(a:Z1)(ns:List Int)(k:Int),vs=[.ref a,.int k]/\aV K H a (ns.map V.int)/\0<=k/\k<=800/\∀(pl kd rd td ed:Z1)(ks:List Nat)(us:List (dI×Z1))(ts es:List ((Str×Str)×Z1))(H':Hp),Bh H' pl kd rd td ed ks us ts es->H pl=none->H kd=none->H rd=none->H td=none->H ed=none->ak H H'->Q (.ref pl) H'
structure L3k(P:Ss)(w:World)(K:Frag)(mg:Sf)(R4:SD):Prop where
 _law_kinds:fC P w K mg R4 "_law_kinds" [aB,bj] 2 (JT K)
 _law_rules:fC P w K mg R4 "_law_rules" [aB,bj,au] 2 (JP K)
 _law_turns:fC P w K mg R4 "_law_turns" [aB,bj,au] 2 (JO K)
 _law_ends:fC P w K mg R4 "_law_ends" [aB,bj,au] 2 (JU K)
section
def tH(F:fg K "_law_ends" "_law_ends" gU f fd)(T:Txt mg aS aA aE aW aO aF)(C:L1 P w K mg R4):bM P w K mg R4 fM 2 f fd [aB,bj,au] (JU K):=by
 refine F.ok2 fZ ?_;rintro _ _ _ s H _ Q _ hr hu ⟨a,ns,k,d,ks,rfl,hS,k0,k1,hk,q⟩;refine⟨_,(ae (aw 3 fZ.nd (aQ C._law_at hr (cE bh cA)))
  (ae (aw 4 fZ.nd (bG pan))
  (ae (iC SZ rfl (LD T.range (bW (cV K (bG (cT rfl)) (aq (cv 3) ag)))) (bN 5 fZ.nd) (ae (aw 6 fZ.nd (aQ C._law_at hr (cE bh (aq (aq cA ag) (cv 5)))))
  (am (kH (pU (cv 4) (eM (cE (cV K (bG (cE aI aI)) (aq (cv 6) ag)) (cV K dL (aq (aq (cv 6) ag) (kB (eI K) bJ T.len (bW dL)))))))))))
  (am (aG (cv 4)))))),?_⟩
 show cm _ _ _ [oR a,oJ k,oR d,none,none,none,none] H;refine cq (bq (sp:=rV K) (af ac (af ac aC)) (λQ q=>⟨a,ns,k,rfl,hS,k0,by omega,q⟩)) ?_;generalize lawAt ns k=c;refine BP λfq hq1=>?_;have sm:ak H (upd H fq (.lst [])):=(ak.refl H).upd hq1;obtain⟨n,e,hn⟩:=vj (ns:=[0,1,2,1,3,6]) (i:=c % 6) (by omega) (by show _<(6:Int);omega);have hn2:0<=n/\n<=6:=by simp only[Wn,WB,or_false]at hn;omega
 show cm _ _ _ [oR a,oJ k,oR d,oJ c,oR fq,none,none] (upd H fq (.lst []));refine dJ (λσ' H'=>(∃o5 o6,σ'=[oR a,oJ k,oR d,oJ c,oR fq,o5,o6])/\(∃zs,H' fq=some (.lst (dn zs))/\gZ H' zs/\D9 ks zs)/\ak H H') (λK' hK=>?_) ?_
 .refine AT n (λQ q=>OX iH (by decide) (λH'=>(bR ac ar)) e q) (by omega) (by omega)
   (λi σ' H'=>(∃o5 o6,σ'=[oR a,oJ k,oR d,oJ c,oR fq,o5,o6])/\(∃zs,H' fq=some (.lst (dn zs))/\zs.length<=i/\gZ H' zs/\∀z∈zs,z.1.1∈endsL/\∃b∈ks,z.1.2=one b)/\ak H H')
   (λH' s=>⟨⟨_,_,rfl⟩,⟨[],s _ _ aj,Yd _,λx hx=>(nomatch hx),λx hx=>(nomatch hx)⟩,sm.trans s⟩) ?_ (λσ' H' h=>?_)
  .rintro i _ H3 hi' ⟨⟨o5,o6,rfl⟩,⟨zs,h3,hl,hp3,hx⟩,s3⟩;show cm _ _ _ [oR a,oJ k,oR d,oJ c,oR fq,oJ (0+(i:Int)),o6] H3;refine cq (bq (sp:=rV K) (af ac (af (dm (dm ac ar) ac) aC)) (λQ q=>⟨a,ns,_,rfl,s3.seq hS,by omega,by omega,q⟩)) ?_;generalize lawAt ns _=o;refine DZ ac ⟨_,h3⟩ ?_;obtain⟨n1,e1,hn1⟩:=yH (ss:=endsL) (i:=o % 2) (by omega) (by show _<(2:Int);omega);refine zW (dM (mq iH (by decide) (λH'=>(bR ac ar)) e1 (λH4 s4=>?_)));have hk4:=(hk.same s3).same s4;obtain⟨k1,hkm,ek⟩:=hk4.pick (o / 2);have hpos:(0:Int)<((ks.map iw).length:Int):=by rw[Wm];have:=hk.l1;omega
   refine bo (bP ac (bR (db ac ar) (cS ac (.inl (aV.of hk4.at_))) hpos) (.inl (aV.of hk4.at_)) ek) (de ⟨by show 2<=h9;decide,λp hp=>?_⟩);have h4:=s4 _ _ h3;have npf:fq≠p:=ay h4 hp;have zl:(dn zs).length<h9:=by rw[Wm,Sw];omega
   refine⟨dn zs,by rw[av npf];exact h4,zl,⟨_,_,rfl⟩,⟨zs++[((n1,one k1),p)],by rw[aj];show _=some (HO.lst (List.map _ (zs++_)));rw[WA];rfl,by rw[Wq];show zs.length+1<=_;omega,λx hm=>?_,λx hm=>?_⟩,((s3.trans s4).upd hp).put hq1⟩
   .rcases WF.mp hm with z|z
    .have hc4:=s4 _ _ (hp3 x z);rw[av (ir hc4 h4 (by simp)),av (ay hc4 hp)];exact hc4
    .rw[Wu.mp z,av npf.symm,aj];rfl
   .rcases WF.mp hm with z|z
    .exact hx x z
    .rw[Wu.mp z];exact⟨hn1,k1,hkm,rfl⟩
  .obtain⟨ho,⟨zs,h3,hl,hp3,hx⟩,s3⟩:=h;exact hK _ _ ⟨ho,⟨zs,h3,hp3,⟨by omega,hx⟩⟩,s3⟩
 rintro _ H3 ⟨⟨o5,o6,rfl⟩,⟨zs,h3,hp3,g⟩,s3⟩;exact aZ ac (q _ zs _ g hp3 hq1 h3 s3)
def qv(F:fg K "_law_parts" "_law_parts" gi f fd)(T:Txt mg aS aA aE aW aO aF)(C:L3k P w K mg R4):bM P w K mg R4 fM 3 f fd [aB,bj] (JQ K):=by
 refine F.ok2 gH ?_;rintro _ _ _ s H _ Q _ hr _ ⟨a,ns,k,rfl,hS,k0,k1,q⟩;refine⟨_,(ae (aw 2 gH.nd (aQ C._law_kinds hr (cE bh cA)))
  (ae (aw 3 gH.nd (aQ C._law_rules hr (fU bh (cE (aq cA ag) dL))))
  (ae (aw 4 gH.nd (aQ C._law_turns hr (fU bh (cE (aq cA ag) dL))))
  (am (aG (bG (fU dL (fU (cv 3) (cE (cv 4) (aQ C._law_ends hr (fU bh (cE (aq cA ag) dL)))))))))))),?_⟩
 show cm _ _ _ [oR a,oJ k,none,none,none] H;refine ba (λv H'=>∃kd ks,v=.ref kd/\jY H' kd ks/\H kd=none/\ak H H') (λQ z=>dH (af ac (af ac aC)) ⟨a,ns,k,rfl,hS,k0,by omega,λq ks H' g n s=>z _ _ ⟨q,ks,rfl,g,n,s⟩⟩) ?_;rintro _ H1 ⟨kd,ks,rfl,K1,nk,s1⟩;refine ba (λv H'=>∃rd us,v=.ref rd/\(∀z∈us,mK ks z.1)/\us.length<=24/\ic H' us/\H1 rd=none/\H' rd=some (.lst (gx us))/\ak H1 H') (λQ z=>dH (af ac (af (dm ac ar) (af ac aC))) ⟨a,ns,k+1,kd,ks,rfl,s1.seq hS,by omega,by omega,K1,λq us H' g l r n e s=>z _ _ ⟨q,us,rfl,g,l,r,n,e,s⟩⟩) ?_;rintro _ H2 ⟨rd,us,rfl,rg,rl,ra,nr,er,s2⟩;have s02:=s1.trans s2;refine ba (λv H'=>∃td ts,v=.ref td/\D8 ks ts/\gZ H' ts/\H2 td=none/\H' td=some (.lst (dn ts))/\ak H2 H') (λQ z=>dH (af ac (af (dm ac ar) (af ac aC))) ⟨a,ns,k+2,kd,ks,rfl,s02.seq hS,by omega,by omega,K1.same s2,λq us H' g r n e s=>z _ _ ⟨q,us,rfl,g,r,n,e,s⟩⟩) ?_;rintro _ H3 ⟨td,ts,rfl,tg,ta,nt,et,s3⟩;have s03:=s02.trans s3;refine dR (bo ac (bo ac (bo ac (dM (dH (af ac (af (dm ac ar) (af ac aC))) ⟨a,ns,k+3,kd,ks,rfl,s03.seq hS,by omega,by omega,K1.same (s2.trans s3),λed es H4 eg ea ne ee s4=>de ⟨by show 4<=h9;decide,λp hp=>?_⟩⟩)))));have s5:=(ak.refl H4).upd (o:=.lst [.ref kd,.ref rd,.ref td,.ref ed]) hp;have s45:=s4.trans s5;exact q p kd rd td ed ks us ts es _ ⟨aj,K1.same ((s2.trans s3).trans s45),(s3.trans s45) _ _ er,ra.same (s3.trans s45),rg,rl,s45 _ _ et,ta.same s45,tg,s5 _ _ ee,ea.same s5,eg⟩ ((s03.trans s4).free hp) nk (s1.free nr) (s02.free nt) (s03.free ne) (s03.trans s45)
end
abbrev nT(n:Int):Str:=TB (toString n)
def AE:∀n∈(List.range 67).map (λ(i:Nat)=>(i:Int) - 3),(nT n).length<=2:=by decide+kernel
def xb(h0: -3<=n)(h1:n<=63):(nT n).length<=2:=AE n (Wo.mpr ⟨(n+3).toNat,WG.mpr (by omega),by omega⟩)
def Nb(x:Str):Prop:=32∉x.cps.toList
def ka(x y:Str):Sq x y≠[]:=by
 unfold Sq;split
 .exact λh=>nomatch h
 split
 .exact λh=>nomatch h
 .intro h;have:=Se List.length h;rw[UG]at this;cases this
def JJ(ws:List Str):VF " " ws=TV " " ws:=StrLaws.glued_eq_join _ _
def jH:List (Str×List Str):=[(txboard,[txboard,"number","number"]),("hole",["hole","number"]),("kind",["kind","letter"]),("leap",["rule","letter","aim","number","number"]),("slide",["rule","letter","aim","number","number"]),("jump",["rule","letter","aim","number","number"]),("turn",["turn","letter","letter"]),("without",["end","letter"]),("home",["end","letter"]),(bU,[bU,"word"])]
def lG(x:Str):Option (List Str):=(jH.find? λz=>decide (z.1=x)).map (·.2)
def partV(fm wd:Str):V:=if fm="number"then numV wd else if fm="letter"then(if letB (.str wd)=true then .str wd else .non)else if wd∈(if fm="aim"then aimsL else cW)then .str wd else .non
def iW:V->Str
 | .str z=>z
 |_=>""
def fu(fm ws:List Str):List V:=(ws.take 1).map V.str++List.zipWith (λa b=>partV (iW a) (iW b)) ((fm.map V.str).drop 1) ((ws.map V.str).drop 1)
def isNon:V->Bool
 | .non=>true
 |_=>false
def lC(ws:List Str):Option (List V):=match lG (ws.headD "")with
 |none=>none
 |some fm=>if ws.length=fm.length then(if(fu fm ws).any isNon=true then none else some (fu fm ws))else none
abbrev MC:=List ((Str×List Str)×Z1)
abbrev fkv(fs:MC):List (Key×V):=fs.map λz=>(.inr z.1.1,.ref z.2)
theorem xw:∀fs x,valV (fkv fs) (.inr x)=(fs.find? λz=>decide (z.1.1=x)).map λz=>V.ref z.2
 | [],x=>rfl
 |z::fs,x=>by
  have ih:=xw fs x
  by_cases h:z.1.1=x
  .rw[show fkv (z::fs)=(.inr z.1.1,V.ref z.2)::fkv fs from rfl,j8 (by rw[h]),WT,R6 h];rfl
  .rw[show fkv (z::fs)=(.inr z.1.1,V.ref z.2)::fkv fs from rfl,jc (λe=>h (by injection e)),ih,WT,R7 h]
def zi{fs:MC}(h:fs.map (·.1)=jH)(x:Str):lG x=(fs.find? λz=>decide (z.1.1=x)).map (·.1.2):=by unfold lG;rw[<-h,List.find?_map,Option.map_map];rfl
def Dv(ha:Ev ta σ H (.ref a))(hb:Ev tb σ H .non):Ev (eP K .Is ta tb) σ H (.bl false):=λQ q=>ha _ (hb _ q)
def uJ:Sp:=λvs H Q _=>∃fm wd,vs=[.str fm,.str wd]/\wd.length<=100/\∀H',ak H H'->Q (partV fm wd) H'
def qI:Sp:=λvs H Q _=>∃line:Str,vs=[.str line]/\line.length<=100/\(lC (Sq line " ")=none->∀H',ak H H'->Q .non H')/\∀ps,lC (Sq line " ")=some ps->∀q H',H q=none->H' q=some (.lst ps)->ak H H'->Q (.ref q) H'
structure CPt(P:Ss)(w:World)(K:Frag)(mg:Sf)(R4:SD):Prop where
 number_of:fC P w K mg R4 "number_of" ["text"] 1 yp
 is_letter:fC P w K mg R4 "is_letter" [aR] 1 mP
 is_word:fC P w K mg R4 "is_word" [aR,"words"] 1 (jA K)
structure CPs(P:Ss)(w:World)(K:Frag)(mg:Sf)(R4:SD):Prop where
 part_of:fC P w K mg R4 "part_of" ["form","word"] 2 uJ
def Nb.part(h:x∈Sq y " "):x.length<=y.length:=by
 have e:=UW y " ";have:∀(ws:List Str),x∈ws->x.length<=(TV " " ws).length:=λws=>by
  induction ws with
  |nil=>exact λh=>nomatch h
  |cons a r ih=>
   intro hx;cases r with
   |nil=>
    rw[Wu.mp hx];exact Yd _
   |cons b r=>
    have e2:(TV " " (a::b::r)).length=a.length+(" ":Str).length+(TV " " (b::r)).length:=by show(a++" "++TV " " (b::r)).length=_;rw[bV,gF,gF,Wq,Wq];rfl
    rcases Wn.mp hx with rfl|hx
    .omega
    .have:=ih hx;omega
 have h2:=this _ h;rw[e]at h2;exact h2
section
def wV(F:fg K "part_of" "part_of" jf f fd)(T:Txt mg aS aA aE aW aO aF)(hA:∀H,gY K H aA aimsL)(hW:∀H,gY K H aW cW)(C:CPt P w K mg R4):bM P w K mg R4 fM 2 f fd ["form","word"] uJ:=by
 refine F.ok2 lx ?_;rintro _ _ _ _ H _ Q _ hr hu ⟨fm,wd,rfl,hl,q⟩;refine⟨_,(ae (bc (bf K hu bh aI) (am (aG (aQ C.number_of hr (bW cA)))) aD)
  (ae (bc (bf K hu bh aI) (am (aw 2 lx.nd (aQ C.is_letter hr (bW cA)))) (am (aw 2 lx.nd (aQ C.is_word hr (cE cA (jn (bf K hu bh aI) (kg T.AIMS) (kg T.STUCK_WORDS)))))))
  (am (aG (jn (bF dL) cA dE))))),?_⟩
 unfold partV at q;refine bn (bw (dq ac ar)) (λh=>?_) (λh=>?_)
 .rw[R9 (Sa h)]at q;exact cr (dH (af ac aC) ⟨wd,rfl,hl,q⟩)
 rw[R8 (Sb h)]at q;have hl':wd.length<=1000:=Ye hl (by decide);refine dJ (λσ' H'=>H'=H/\∃b:Bool,σ'=[oT fm,oT wd,some (.bl b)]/\(if b=true then V.str wd else .non)=(if fm="letter"then(if letB (.str wd)=true then .str wd else .non)else if wd∈(if fm="aim"then aimsL else cW)then .str wd else .non)) (λK' hK=>?_) ?_
 .refine(bw (dq ac ar)) _ ?_
  by_cases h2:fm="letter"
  .rw[R6 h2];refine jG (pZ (dH (af ac aC) ⟨.str wd,rfl,hl',hK _ _ ⟨rfl,_,rfl,?_⟩⟩));rw[R9 h2]
  .rw[R7 h2];have fin:∀(aX:Z1)(L:List Str),(∀H,gY K H aX L)->L=(if fm="aim"then aimsL else cW)->jA K [.str wd,.ref aX] H (λv H'=>K' (([some (.str fm),some (.str wd),none]:St).set 2 (some v)) H') E0:=λaX L hL e=>⟨.str wd,aX,L,rfl,hl',hL H,hK _ _ ⟨rfl,wordB (.str wd) L,rfl,?_⟩⟩
   .refine km (pZ (DR (bo ac (dM (x9 (bw (dq ac ar)) (λh3=>?_) (λh3=>?_))))))
    .exact ar _ (de (fin aA aimsL hA (by rw[R9 (Sa h3)])))
    .exact ar _ (de (fin aW cW hW (by rw[R8 (Sb h3)])))
   .rw[R8 h2,<-e];show(if decide (wd∈L)=true then V.str wd else .non)=_;simp only[decide_eq_true_eq]
 rintro _ H1 ⟨rfl,b,rfl,e⟩;rw[<-e]at q;exact cr (x9 (bw ac) (λh=>ac rfl _ (by have:=q H1 (ak.refl _);rw[R9 h]at this;exact this)) (λh=>ar _ (by have:=q H1 (ak.refl _);rw[R8 (by rw[h];decide)]at this;exact this)))
def vp(F:fg K "parts_of" "parts_of" gB f fd)(T:Txt mg aS aA aE aW aO aF)(hF:Ko P w K aF (fkv fs))(hF2:∀z∈fs,∀H,dU K H z.2 (z.1.2.map V.str))(hF3:fs.map (·.1)=jH)(C:CPs P w K mg R4):bM P w K mg R4 fM 3 f fd ["line"] qI:=by
 refine F.ok2 iN ?_;rintro _ _ _ s H _ Q _ hr hu ⟨line,rfl,hl,q0,q1⟩;refine⟨_,(ae (aw 1 iN.nd (Bn PySem.F.slot_str_split PySem.F.type_str_split kI bh (bW aI)))
  (ae (aw 2 iN.nd (PF hF (kg T.FORMS) (cV K cA ag)))
  (ae (bc (PW.pt (dQ (bf K hu dL dE) (dD (bf K hu (kB (eI K) bJ T.len (bW cA)) (kB (eI K) bJ T.len (bW dL)))))) (am (aG dE)) aD)
  (ae (aw 3 iN.nd (aq (kQ K cA bH (bC ag)) (eN (cj (N:=["asked","word"]) (src:=[none,none]) (ao gB) ["line","words","form","parts"]) (Pz K T.zip (cE (Rw K dL (bC ag) bH) (kQ K cA (bC ag) bH))) (λ_ _ _=>(MJ K (n:=2) (cz (bu (i:=0) ["asked","word"]) (cz (bu (i:=1) ["asked","word"]) iP)))) (λ_ _ _=>bI) (λ_ _ _=>(aQ C.part_of hr (cE bh cA))))))
  (am (aG (jn (bf K hu dE (cv 3)) dE (cv 3)))))))),?_⟩
 show cm _ _ _ [oT line,none,none,none] H;have wn:=ka line " ";have wl:∀x∈Sq line " ",x.length<=100:=λx hx=>Ye (Nb.part hx) hl;refine ba (λv H'=>∃p,v=.ref p/\H' p=some (.lst ((Sq line " ").map V.str))/\ak H H') (λQ z=>JZ ac (ar _ ⟨by decide,Ye hl (by decide),λp hp=>z _ _ ⟨p,rfl,aj,(ak.refl H).upd hp⟩⟩)) ?_;rintro _ H1 ⟨wq,rfl,ew,s1⟩;generalize Sq line " "=ws at wn wl ew q0 q1;obtain⟨w0,wr,rfl⟩:∃w0 wr,ws=w0::wr:=by
  cases ws with
  |nil=>exact Sc rfl wn
  |cons a b=>exact⟨a,b,rfl⟩
 have ev0:∀{σ:St}{H':Hp},Ev (cc 1) σ H' (.ref wq)->H' wq=some (.lst ((w0::wr).map V.str))->Ev (nM K (cc 1) (tC (.int 0))) σ H' (.str w0):=λe h=>bP e ar (.inl (aV.of h)) (bK (j:=0) rfl);have ff:=zi hF3 w0;refine ba (λv H'=>v=((fs.find? λz=>decide (z.1.1=w0)).map λz=>V.ref z.2).getD .non/\H'=H1) (λQ z=>ev0 ac ew _ ⟨.inr w0,rfl,by rw[xw];exact z _ _ ⟨rfl,rfl⟩⟩) ?_;rintro _ _ ⟨rfl,e1⟩;obtain rfl:=e1.symm;unfold lC at q0 q1;rw[List.headD_cons,ff]at q0 q1;cases hz:fs.find? λz=>decide (z.1.1=w0)with
 |none=>
  rw[hz]at q0;exact bn (b:=true) (dY (a:=true) (b:=false) (bw (tY ac ar)) (λh=>nomatch h)) (λ_=>aZ ar (q0 rfl _ s1)) (λh=>nomatch h)
 |some z=>
  rw[hz]at q0 q1;have q0:(if(w0::wr).length=z.1.2.length then(if(fu z.1.2 (w0::wr)).any isNon=true then none else some (fu z.1.2 (w0::wr)))else none)=none->∀H',ak H H'->Q .non H':=q0;have q1:∀ps,(if(w0::wr).length=z.1.2.length then(if(fu z.1.2 (w0::wr)).any isNon=true then none else some (fu z.1.2 (w0::wr)))else none)=some ps->∀q H',H q=none->H' q=some (.lst ps)->ak H H'->Q (.ref q) H':=q1;have hm:=Xw hz;have hT:=hF2 z hm;show cm _ _ _ [oT line,oR wq,oR z.2,none] H1;refine bn (dY (a:=false) (bw (Dv ac ar)) (λ_=>bw (zp (cS ac (.inl (aV.of ew))) (cS ac (.inr (hT H1)))))) (λh=>?_) (λh=>?_)
  .refine aZ ar (q0 (R8 λe=>?_) _ s1);rw[YM,Wm,Wm,e,R6 rfl]at h;cases h
  have hlen:(w0::wr).length=z.1.2.length:=by
   rw[YM,Wm,Wm]at h;have:=Sa (by cases e:decide (((w0::wr).length:Int)=(z.1.2.length:Int))with|true=>rfl|false=>rw[e]at h;cases h)
   omega
  rw[R9 hlen]at q0 q1;have fl5:z.1.2.length<=5:=by have:z.1∈jH:=hF3▸Wo.mpr ⟨z,hm,rfl⟩;exact(by decide:∀y∈jH,y.2.length<=5) _ this
  have fl2:2<=z.1.2.length:=by have:z.1∈jH:=hF3▸Wo.mpr ⟨z,hm,rfl⟩;exact(by decide:∀y∈jH,2<=y.2.length) _ this
  generalize z.1.2=fm at*;have cutD:∀(xs:List V),1<=xs.length->cutV xs (some 1) none=xs.drop 1:=λxs hx=>by unfold cutV;rw[HT.sIx_none,show(1:Int)=((1:Nat):Int)from rfl,HT.sIx_nat,Yn hx,WO];rw[WH];exact Yd _
  refine ba (λv H'=>∃p,v=.ref p/\H' p=some (.lst (fu fm (w0::wr)))/\H1 p=none/\ak H1 H') (λQ z2=>?_) ?_
  .refine pV (oN (lo:=none) (hi:=some 1) ac gy (fT ar) (aV.of ew) λp1 h1=>?_);rw[P8];have r1:=(ak.refl H1).upd (o:=.lst (((w0::wr).map V.str).take 1)) h1;have f1:(upd H1 p1 (.lst (((w0::wr).map V.str).take 1))) p1=some (.lst (((w0::wr).map V.str).take 1)):=aj;generalize upd H1 p1 (.lst (((w0::wr).map V.str).take 1))=H2 at r1 f1 ⊢;refine OL (dM (OW (lo:=some 1) (hi:=none) ac (fT ar) gy (hT H2) (λhh=>?_) λp2 h2=>?_))
   .have h3:=hh.1;rw[show(1:Int)=((1:Nat):Int)from rfl,HT.sIx_nat,Wm,Yn (by omega)]at h3;cases h3
   rw[cutD _ (by rw[Wm];omega)];have r2:=(ak.refl H2).upd (o:=.tup ((fm.map V.str).drop 1)) h2;have f2:(upd H2 p2 (.tup ((fm.map V.str).drop 1))) p2=some (.tup ((fm.map V.str).drop 1)):=aj;generalize upd H2 p2 (.tup ((fm.map V.str).drop 1))=H3 at r2 f2 ⊢;refine dM (oN (lo:=some 1) (hi:=none) ac (fT ar) gy (aV.of ((r1.trans r2) _ _ ew)) λp3 h3=>de ?_);rw[cutD _ (by rw[Wm];show 1<=wr.length+1;omega)];have r3:=(ak.refl H3).upd (o:=.lst (((w0::wr).map V.str).drop 1)) h3;have f3:(upd H3 p3 (.lst (((w0::wr).map V.str).drop 1))) p3=some (.lst (((w0::wr).map V.str).drop 1)):=aj;generalize upd H3 p3 (.lst (((w0::wr).map V.str).drop 1))=H4 at r3 f3 ⊢;have ll:((fm.map V.str).drop 1).length=(((w0::wr).map V.str).drop 1).length:=by rw[WH,WH,Wm,Wm,hlen]
   refine AY (rest:=[]) (dU.of (r3 _ _ f2)) (aV.of f3) ll (by rw[WH,Wm];omega) (λH' s=>dU.of ((r3.trans s) _ _ f2)) rfl (λa b=>partV (iW a) (iW b)) (λi x y H' hx hy s Q q=>?_) λH' d s hd=>?_
   .obtain⟨a,_,rfl⟩:=Wo.mp (Xi (Ww hx));obtain⟨b,hb,rfl⟩:=Wo.mp (Xi (Ww hy));exact dH (af ac (af ac aC)) ⟨a,b,rfl,wl b hb,q⟩
   .have sd:=(s.upd (o:=.lst (List.zipWith (λa b=>partV (iW a) (iW b)) ((fm.map V.str).drop 1) (((w0::wr).map V.str).drop 1))) hd);have r24:=r2.trans (r3.trans sd);refine mF (r24 _ _ f1) aj (by rw[WJ,XG,WH,Wm,Wm,WH];omega) λp hp=>z2 _ _ ⟨p,rfl,?_,(r1.trans r24).free hp,(r1.trans r24).upd hp⟩;rw[aj];unfold fu;rw[Xx]
  rintro _ H2 ⟨p,rfl,ep,np,s2⟩;have fl:(fu fm (w0::wr)).all flatV=true:=by
   rw[WC];intro x hx
   rcases WF.mp hx with hx|hx
   .obtain⟨a,_,rfl⟩:=Wo.mp hx;rfl
   .obtain⟨a,b,hab,rfl⟩:∃a b,True/\partV a b=x:=by
     obtain⟨i,hi⟩:=W0 hx;rw[List.getElem?_zipWith]at hi;split at hi
     .rename_i a b _ _;exact⟨iW a,iW b,trivial,Sd hi⟩
     .cases hi
    unfold partV numV
    repeat' split
    all_goals rfl
  have ein:Ka .non (fu fm (w0::wr))=(fu fm (w0::wr)).any isNon:=by unfold Ka;refine Se _ (funext λx=>?_);cases x<;>rfl
  have tst:Tv (iG (eP K .In (tC .non) (cc 3))) [some (.str line),some (.ref wq),some (.ref z.2),some (.ref p)] H2 ((fu fm (w0::wr)).any isNon):=λQ q=>xF (ar _ (ac rfl _ (by
   rw[mi];exact⟨p,_,rfl,.inl (aV.of ep),rfl,fl,by rw[ein];exact q⟩)))
  refine cr (x9 tst (λh=>ar _ (q0 (by rw[R9 h]) _ (s1.trans s2))) (λh=>ac rfl _ (q1 _ (R8 (by rw[h];decide)) _ _ (s1.free np) ep (s1.trans s2))))
end
def rk(x:Str):decide (kR x none (some 1)=("-":Str))=[45].isPrefixOf x.cps.toList:=by
 have e:(kR x none (some 1)).cps.toList=x.cps.toList.take 1:=by
  rw[kL];show((x.cps.toList.drop 0).take (HT.sIx x.length x.length (some ((1:Nat):Int)) - 0))=_;rw[HT.sIx_nat,Xd,Yv,bV];cases x.cps.toList with
  |nil=>rfl
  |cons c r=>rw[Wx,show min 1 (r.length+1)=1 from by omega]
 have h2:(kR x none (some 1)=("-":Str))<->x.cps.toList.take 1=[45]:=by rw[<-e,<-qF];exact⟨λh=>by rw[h],λh=>str_ext h⟩
 have key:∀l:List Nat,decide (l.take 1=[45])=[45].isPrefixOf l:=λl=>by
  cases l with
  |nil=>rfl
  |cons c r=>
   by_cases h:c=45
   .subst h;simp
   .have:¬(45=c):=λe=>h e.symm;show decide ([c]=[45])=((45:Nat) == c&&([]:List Nat).isPrefixOf r);rw[R7 (by simpa using h),show((45:Nat) == c)=false from by simpa using this];rfl
 rw[<-key];exact decide_eq_decide.mpr h2
def Mn(h:te σ H λv H1=>r [v] H1 Q):L2.cB r (bg te cw) σ H Q:=h
def uD(h:te σ H (ib Q)):iG te σ H Q:=h
def jL(h:ta σ H λx H1=>tb σ H1 λy H2=>bT K op x y H2 Q):eP K op ta tb σ H Q:=h
section
def pc(F:fg K "_law_number" "_law_number" eA f fd)(T:Txt mg aS aA aE aW aO aF):bM P w K mg R4 fM 1 f fd [aY] yp:=by
 refine F.ok2 kc ?_;rintro _ _ _ s H _ Q _ hr hu ⟨x,rfl,hx,k⟩;refine⟨_,(ae (aw 1 kc.nd (jn (bf K hu (kQ K bh bH (bC ag)) aI) (kQ K bh (bC ag) bH) bh))
  (ae (bc (PW.pt (dQ (bf K hu cA aI) (dD (bf K hu (kB (eI K) bJ T.len (bW cA)) ag)))) (am (aG dE)) aD)
  (ae (bc (bf K hu (eN (cj (N:=["_law_sign_here"]) (src:=[none]) (ao eA) [aY,"_law_body"]) (Cz cA) (λ_ _ _=>(bu (i:=0) ["_law_sign_here"])) (λ_ _ _=>(ki (bf K hu bh aI))) (λ_ _ _=>bh)) (bG pan)) (am (aG dE)) aD)
  (ae (bc (PW.pt (mR (bf K hu (cV K cA ag) aI) (kG (bf K hu bh aI)))) (am (aG dE)) aD)
  (am (aG (nI eC hU T.int (bW bh)))))))),?_⟩
 have hxs:x.length<=h9:=Ye hx (by decide);refine ba (λv H'=>v=.str (fig x)/\H=H') (λQ q=>x9 (bw (dq (Dr ac gy (fT ar) hxs) ar)) (λh=>lR (Dr ac (fT ar) gy hxs) (q _ _ ⟨by unfold fig;rw[<-rk,R9 h],rfl⟩)) (λh=>lR (ac rfl) (q _ _ ⟨by unfold fig;rw[<-rk,h];rfl,rfl⟩))) ?_;rintro _ _ ⟨rfl,rfl⟩;have hy:=zo x;have el:=pO x;generalize fig x=y at hy el ⊢;have hy':=Ye hy hxs;have no:¬iR x.cps.toList=true->∀H',ak H H'->Q .non H':=λh H' s=>by
  have:=k H' s
  rwa[yT h]at this
 have yes:iR x.cps.toList=true->∀H',ak H H'->∃n,PySem.intText? x=some n/\x.length<=640/\Q (.int n) H':=λh H' s=>by obtain⟨n,e⟩:=qP h (by omega);have:=k H' s;rw[yS h e]at this;exact⟨n,e,by omega,this⟩
 have ok:iR x.cps.toList=(decide (1<=y.length)&&decide (y.length<=9)&&y.cps.toList.all (λc=>decide (48<=c/\c<=57))&& !(y.cps.toList.head? == some 48&& !decide (x=("0":Str)))):=by unfold iR;rw[<-el,<-bV,show(x.cps.toList == [48])=decide (x=("0":Str)) by rw[YF];simp[Bs]]
 have y0:(y=("":Str))<->y.length=0:=by
  constructor
  .intro h;rw[h];decide+kernel
  .intro h;rw[bV]at h;exact str_ext (by rw[W6.mp h];decide+kernel)
 refine bn (dY (bw (dq ac ar)) (λ_=>bw (rf (kK ac hy') ar))) (λh=>?_) (λh=>?_)
 .refine aZ ar (no ?_ _ (ak.refl H));rw[ok];rw[YN,decide_eq_true_iff,decide_eq_true_iff]at h
  rcases h with h|h
  .rw[R7 (by rw[y0.mp h];decide)];simp
  .rw[R7 (show¬y.length<=9 by omega)];simp
 rw[YV,decide_eq_false_iff_not,decide_eq_false_iff_not]at h;have l1:1<=y.length:=by exact Nat.pos_of_ne_zero (λe=>h.1 (y0.mpr e))
 have l9:y.length<=9:=by omega
 rw[R6 l1,R6 l9,YE,YE]at ok;refine cF (λc H'=>c= !(y.cps.toList.all λc=>decide (48<=c/\c<=57))/\ak H H') (λR q=>?_) (λH1 h=>?_) (λH1 h=>?_)
 .refine uD (jL (AZ ac (by omega) rfl (λc=> !decide (c∈("0123456789":Str).cps.toList)) (λc=>.str (one c)) (λc H' hc s' R r=>(bw (Fu ac ar)) _ (r _ (ak.refl H'))) (λc H' hc _ s'=>ac rfl) (λH' d s' hd=>dR (de ⟨Yh _,λd2 hd2=>⟨_,ou (((ak.refl _).upd hd2) _ _ aj) aj,q _ _ ⟨?_,(s'.upd hd).upd hd2⟩⟩⟩))));rw[yg];congr 1;rw[YF,decide_eq_true_iff,X8,Xj,WC];refine⟨λh c hc=>?_,λh c hc=>?_⟩
  .have:=h c hc;simp at this ⊢;omega
  .have:=h c hc;simp at this ⊢;omega
 .refine aZ ar (no ?_ _ h.2);have h1:=h.1;rw[eq_comm,YH]at h1;rw[ok,h1];simp
 obtain⟨h1,s1⟩:=h;rw[eq_comm,YI]at h1;rw[h1,YE]at ok;obtain⟨c0,r0,e0⟩:∃c r,y.cps.toList=c::r:=by
  cases e:y.cps.toList with
  |nil=>rw[bV,e]at l1;simp at l1
  |cons c r=>exact⟨c,r,rfl⟩
 refine bn (oz (bw (dq (xx ac ar hy' (bK (by rw[e0];rfl))) ar)) (λ_=>bw (lJ ac ar))) (λh=>?_) (λh=>?_)
 .refine aZ ar (no ?_ _ s1);rw[YC,decide_eq_true_iff,YH,decide_eq_false_iff_not]at h;have:c0=48:=by have:=Se (λx:Str=>x.cps.toList) h.1;rw[str_0]at this;simpa using this
  rw[ok,e0,R7 h.2,this];simp
 .have ho:iR x.cps.toList=true:=by
   rw[ok,e0]
   by_cases h0:x=("0":Str)
   .rw[R6 h0];simp
   .have:¬c0=48:=λe=>by subst e;rw[R6 (show(⟨#[48]⟩:Str)=("0":Str)from by decide+kernel),R7 h0]at h;cases h
    simp[this]
  obtain⟨n,e,l,qn⟩:=yes ho _ s1;exact cr (Mn (lR (ac rfl) ⟨n,e,l,qn⟩))
end
def BW:Sp:=λvs H Q _=>∃x,vs=[.str x]/\x.length<=100/\Q (.bl (letB (.str x))) H
def jI(fm wd:Str):Bool:=if fm="number"then !decide (numV wd=.non)else if fm="letter"then letB (.str wd)else decide (wd∈Sq fm "/")
def BZ:Sp:=λvs H Q _=>∃wd fm,vs=[.str wd,.str fm]/\wd.length<=100/\fm.length<=100/\∀H',ak H H'->Q (.bl (jI fm wd)) H'
structure C8f(P:Ss)(w:World)(K:Frag)(mg:Sf)(R4:SD):Prop where
 _law_number:fC P w K mg R4 "_law_number" [aY] 1 yp
 _law_is_letter:fC P w K mg R4 "_law_is_letter" [aY] 1 BW
def uG(ho:Ev to σ H (.str a))(hb:b.length=1)(ha:a.length<=1000)(q:∀p,H p=none->Q (.ref p) (L2.upd H p (.lst ((Sq a b).map V.str)))):Kj KJ to (bg (tC (.str b)) cw) σ H Q:=ho _ ⟨hb,ha,q⟩
def PL(W:gY K H d ws)(q:Q (.bl (decide (x∈ws))) H):bT K .In (.str x) (.ref d) H Q:=by refine⟨d,ws.map V.str,rfl,W,rfl,nc ws,?_⟩;rw[R8 (by decide),pI];exact q
section
def mj(F:fg K "_law_is_letter" "_law_is_letter" dO f fd)(T:Txt mg aS aA aE aW aO aF):bM P w K mg R4 fM 1 f fd [aY] BW:=by
 refine F.ok2 l8 ?_;rintro _ _ _ _ H _ Q _ hr hu ⟨x,rfl,hx,k⟩;refine⟨_,(am (aG (eE (fX K hu (kB (eI K) bJ T.len (bW bh)) ag) (fo (fX K hu bh aI))))),?_⟩;have hx':x.length<=h9:=Ye hx (by decide)
 by_cases h1:x.length=1
 .obtain⟨c,ec⟩:∃c,x.cps.toList=[c]:=by rw[bV]at h1;exact List.length_eq_one_iff.mp h1
  have ex:x=one c:=str_ext (by rw[ec]);subst ex;have e:letB (.str (one c))=(decide (((one c).length:Int)=1)&&decide (c∈("abcdefghijklmnopqrstuvwxyz":Str).cps.toList)):=by
   have e1:("abcdefghijklmnopqrstuvwxyz":Str).cps.toList=[97,98,99,100,101,102,103,104,105,106,107,108,109,110,111,112,113,114,115,116,117,118,119,120,121,122]:=by decide+kernel
   rw[R6 (by omega),YE,e1];apply decide_eq_decide.mpr;simp;omega
  rw[e]at k;exact aZ (dc (dz (kK ac hx') ar) (λ_=>L7 ac ar)) k
 .have e:letB (.str x)=(decide ((x.length:Int)=1)&&false):=by
   rw[YJ];unfold letB;dsimp only;split
   .rename_i c ec;rw[bV,ec]at h1;exact Sc rfl h1
   .rfl
  rw[e]at k;exact aZ (dc (dz (kK ac hx') ar) (λh=>Sc (Sa h) (by omega))) k
def tG(F:fg K "_law_fits" "_law_fits" gT f fd)(T:Txt mg aS aA aE aW aO aF)(C:C8f P w K mg R4):bM P w K mg R4 fM 2 f fd [aY,"_law_form"] BZ:=by
 refine F.ok2 sy ?_;rintro _ _ _ s H _ Q _ hr hu ⟨wd,fm,rfl,hw,hf,k⟩;refine⟨_,(ae (bc (bf K hu cA aI) (am (aG (fX K hu (aQ C._law_number hr (bW bh)) dE))) aD)
  (ae (bc (bf K hu cA aI) (am (aG (aQ C._law_is_letter hr (bW bh)))) aD)
  (am (aG (fX K hu bh (Bn PySem.F.slot_str_split PySem.F.type_str_split kI cA (bW aI))))))),?_⟩
 unfold jI at k;refine bn (bw (dq ac ar)) (λh=>?_) (λh=>?_)
 .rw[R9 (Sa h)]at k;refine cr (jL (dH (af ac aC) ⟨wd,rfl,hw,λH' s=>lR ar ?_⟩));exact k _ s
 rw[R8 (Sb h)]at k;refine bn (bw (dq ac ar)) (λh=>?_) (λh=>?_)
 .rw[R9 (Sa h)]at k;exact cr (dH (af ac aC) ⟨wd,rfl,hw,k _ (ak.refl H)⟩)
 rw[R8 (Sb h)]at k;exact cr (jL (lR (ac rfl) (uG ac (by decide+kernel) (by omega) λp hp=>PL (.inl (aV.of aj)) (k _ ((ak.refl H).upd hp)))))
end
def gp:List Str:=["board number number","hole number","kind letter","leap/slide/jump letter go/hit/any number number","turn letter letter","without/home letter","stuck lost/even/won"]
def og(ws:List Str)(fm:Str):Bool:=decide ((Sq fm " ").length=ws.length)&&(List.range ws.length).all λk=>jI ((Sq fm " ").getD k "") (ws.getD k "")
def sortI(ws:List Str):Option Nat:=(List.range 7).find? λi=>og ws (gp.getD i "")
def jR(ws:List Str):V:=match sortI ws with
 |some i=>.int i
 |none=>.non
def yk:Sp:=λvs H Q _=>∃x:Str,vs=[.str x]/\x.length<=100/\∀H',ak H H'->Q (jR (Sq x " ")) H'
structure C8s(P:Ss)(w:World)(K:Frag)(mg:Sf)(R4:SD):Prop where
 _law_fits:fC P w K mg R4 "_law_fits" [aY,"_law_form"] 2 BZ
def A0{ta:TA}{te:TE}{tt:TT}{src:List (Option Nat)}{σ rest:L2.St}{H:Hp}{Q:VK}(m:Nat)(ha:Av ta σ H [.int (m:Int)])(hm:m<=1000)(hs:gK src σ=none::rest)(p:Nat->Bool)(ht:∀(i:Nat)(H':Hp),i<m->ak H H'->∀R:Bool->Hp->Prop,(∀H'',ak H' H''->R (p i) H'')->tt (some (.int (0+(i:Int)))::rest) H' R)(he:∀(i:Nat)(H':Hp),Ev te (some (.int (0+(i:Int)))::rest) H' (.int (0+(i:Int))))(q:∀H' d,ak H H'->H' d=none->Q (.ref d) (L2.upd H' d (.lst (((List.range m).filter p).map λ(i:Nat)=>.int (0+(i:Int)))))):tComp (pJ ta) (gName 0) tt te src σ H Q:=by
 refine ha _ ⟨m,rfl,by omega,by omega,?_⟩;rw[Yw];refine iF m (λi ys σ' H'=>ak H H'/\(∃o0,σ'=o0::rest)/\ys=((List.range i).filter p).map λ(i:Nat)=>.int (0+(i:Int))) (by rw[Sw];omega) (λi ys σ H h=>?_) (λi ys σ H h hi=>hi) (λys σ H h=>Yd _) ⟨ak.refl H,⟨_,hs⟩,rfl⟩ ?_ ?_
 .rw[h.2.2,Wm];refine Ye (WW _ _) ?_;rw[W1];exact Yd _
 .rintro i ys _ H1 x H2 hi ⟨s1,⟨o0,rfl⟩,rfl⟩ ⟨rfl,rfl⟩ Kt Kf kt kf;refine ht i _ hi s1 _ (λH3 s3=>?_);cases hp:p i with
  |true=>
   refine jG (he i _ _ (kt _ _ _ ⟨s1.trans s3,⟨_,rfl⟩,?_⟩));rw[Xf,WY,WA,WR,R9 hp];rfl
  |false=>
   refine km (kf _ _ ⟨s1.trans s3,⟨_,rfl⟩,?_⟩);rw[Xf,WY,WA,WR,R8 (by rw[hp];decide)];simp
 .rintro ys σ' H' d ⟨s1,_,rfl⟩ hd;exact q H' d s1 hd
def Eo(P:Bool->Hp->Prop)(hc:∀Q:Bool->Hp->Prop,(∀b H',P b H'->Q b H')->c σ H Q)(h1:∀H',P true H'->t D σ H')(h2:∀H',P false H'->D.nx σ H'):qd c t oA D σ H:=by
 refine hc _ λb H' p=>?_;cases b with
 |true=>exact jG (h1 H' p)
 |false=>exact km (h2 H' p)
def nu(h:ta σ H λx H1=>tb σ H1 λy H2=>lO op x y H2 Q):iJ op ta tb σ H Q:=h
def zY(a b:Str):(Sq a b).length<=a.length+2:=by
 unfold Sq;split
 .show 1<=_;omega
 split
 .show 1<=_;omega
 .rw[UG];have:=Vv a b 0 a.length (a.length+1);omega
section
def tj(F:fg K "_law_sort" "_law_sort" fS f fd)(T:Txt mg aS aA aE aW aO aF)(C:C8s P w K mg R4):bM P w K mg R4 fM 3 f fd [cC] yk:=by
 refine F.ok2 cX ?_;rintro _ _ _ _ H _ Q _ hr hu ⟨x,rfl,hx,k⟩;refine⟨_,(ae (aw 1 cX.nd (Bn PySem.F.slot_str_split PySem.F.type_str_split kI bh (bW aI)))
  (ae (aw 2 cX.nd (bG (cT rfl)))
  (ae (aw 2 cX.nd (aq dL (bG (bW aI))))
  (ae (aw 2 cX.nd (aq dL (bG (cT rfl))))
  (ae (iC SZ rfl (C4 K T.enumerate dL) (MJ K (n:=2) (cz (bN 3 cX.nd) (cz (bN 4 cX.nd) iP))) (ae (aw 5 cX.nd (Bn PySem.F.slot_str_split PySem.F.type_str_split kI (cv 4) (bW aI)))
  (am (bc (bf K hu (kB (eI K) bJ T.len (bW (cv 5))) (kB (eI K) bJ T.len (bW cA))) (ae (ie (i:=6) rfl (cj (N:=[bj,bp,aL]) (src:=[none,some 1,some 5]) (ao fS) [cC,bp,"_law_forms",bi,"_law_form",aL,"_law_wrong"]) (LD T.range (bW (kB (eI K) bJ T.len (bW cA)))) (λ_ _ _=>(bu (i:=0) [bj,bp,aL])) (λ_ _ _=>(ki (bE (bF (aQ C._law_fits hr (cE (cV K cA bh) (cV K dL bh))))))) (λ_ _ _=>bh) cX.nd rfl (Or.inl rfl) rfl (Or.inl rfl))
  (am (bc (bf K hu (cv 6) (bG pan)) (am (aG (cv 3))) aD))) aD))))
  (am (aG dE))))))),?_⟩
 have hl:=λz(h:z∈Sq x " ")=>Ye (Nb.part h) hx;have hn:(Sq x " ").length<=1000:=Ye (zY x " ") (by omega);generalize hws:Sq x " "=ws at k hl hn;refine ba (λv H'=>∃q:Z1,v=.ref q/\H' q=some (.lst (ws.map V.str))/\ak H H') (λQ q=>uG ac (by decide+kernel) (by omega) λp hp=>q _ _ ⟨p,rfl,by rw[aj,hws],(ak.refl H).upd hp⟩) ?_;rintro _ H1 ⟨wq,rfl,ew,s1⟩;refine ba (λv H'=>∃q:Z1,v=.ref q/\H' q=some (.lst ((gp.take 3).map V.str))/\ak H1 H') (λQ q=>dR (iH _ ⟨by decide,λp hp=>q _ _ ⟨p,rfl,aj,(ak.refl H1).upd hp⟩⟩)) ?_;rintro _ H2 ⟨f1,rfl,e1,s2⟩;refine ba (λv H'=>∃q:Z1,v=.ref q/\H' q=some (.lst ((gp.take 4).map V.str))/\ak H2 H') (λQ q=>nu (lR (ac rfl) (dR (bo ar (de ⟨by decide,λp hp=>⟨f1,p,_,_,rfl,rfl,((ak.refl H2).upd hp) _ _ e1,aj,by decide,λp2 hp2=>q _ _ ⟨p2,rfl,aj,((ak.refl H2).upd hp).upd hp2⟩⟩⟩))))) ?_;rintro _ H3 ⟨f2,rfl,e2,s3⟩;refine ba (λv H'=>∃q:Z1,v=.ref q/\H' q=some (.lst (gp.map V.str))/\ak H3 H') (λQ q=>nu (lR (ac rfl) (dR (iH _ ⟨by decide,λp hp=>⟨f2,p,_,_,rfl,rfl,((ak.refl H3).upd hp) _ _ e2,aj,by decide,λp2 hp2=>q _ _ ⟨p2,rfl,aj,((ak.refl H3).upd hp).upd hp2⟩⟩⟩)))) ?_;rintro _ H4 ⟨fl,rfl,e3,s4⟩;have ew4:=s4 _ _ (s3 _ _ (s2 _ _ ew));have s04:=((s1.trans s2).trans s3).trans s4;have all7:∀fm∈gp,fm.length<=100/\(Sq fm " ").length<=100/\∀z∈Sq fm " ",z.length<=100:=by decide+kernel
 refine dJ (λσ' H'=>(∀j,j<7->og ws (gp.getD j "")=false)/\ak H H') (λKK hK=>?_) ?_
 .refine vN (λd H'=>fl=d/\H4=H') (λQ q=>lR (v:=.ref fl) ac (q _ _ ⟨rfl,rfl⟩)) ?_;rintro _ _ ⟨rfl,rfl⟩;refine⟨_,aV.of e3,λi σ' H'=>(∃y3 y4 y5 y6,σ'=[oT x,oR wq,oR fl,y3,y4,y5,y6])/\(∀j,j<i->og ws (gp.getD j "")=false)/\ak H4 H',⟨⟨_,_,_,_,rfl⟩,λj hj=>by omega,ak.refl _⟩,?_,?_,?_⟩
  .rintro i σ' H' ⟨_,_,s'⟩;exact aV.of (s' _ _ e3)
  .rintro i v _ H5 t hv ⟨⟨y3,y4,y5,y6,rfl⟩,hj,s5⟩ nt;rw[Wr]at hv;obtain⟨fm,hf,rfl⟩:=Y7.mp hv;refine pM aj ?_;have s6:=s5.upd (o:=.tup [.int (i:Int),.str fm]) nt;generalize L2.upd H5 t (.tup [.int (i:Int),.str fm])=H6 at s6 ⊢;obtain⟨f100,p100,pz⟩:=all7 fm (Ww hf);have ef:gp.getD i ""=fm:=by rw[WD,hf];rfl
   have hi7:=(Wz.mp hf).1;generalize hps:Sq fm " "=ps at p100 pz;have efit:og ws fm=(decide (ps.length=ws.length)&&(List.range ws.length).all λk=>jI (ps.getD k "") (ws.getD k "")):=by unfold og;rw[hps]
   refine ba (λv H'=>∃q:Z1,v=.ref q/\H' q=some (.lst (ps.map V.str))/\ak H6 H') (λQ q=>uG ac (by decide+kernel) (by omega) λp hp=>q _ _ ⟨p,rfl,by rw[aj,hps],(ak.refl H6).upd hp⟩) ?_;rintro _ H7 ⟨pq,rfl,ep,s7⟩;have s47:=s6.trans s7;have ew7:=s47 _ _ ew4;have next:og ws fm=false->∀j,j<i+1->og ws (gp.getD j "")=false:=λh j hj'=>by
    by_cases e:j=i
    .rw[e,ef];exact h
    .exact hj j (by omega)
   refine kD (bw (dz (cS ac (.inl (aV.of ep))) (cS ac (.inl (aV.of ew7))))) (λh=>?_) (λh=>⟨⟨_,_,_,_,rfl⟩,next ?_,s47⟩)
   .have hle:ps.length=ws.length:=by have:=Sa h;rw[Wm,Wm]at this;omega
    rw[R6 hle,YE]at efit;refine ba (λv H'=>∃q:Z1,v=.ref q/\H' q=some (.lst (((List.range ws.length).filter λk=> !jI (ps.getD k "") (ws.getD k "")).map λ(i:Nat)=>.int (0+(i:Int))))/\ak H7 H') (λQ q=>A0 ws.length (λR r=>(af (cS ac (.inl (aV.of ew7))) aC) _ (by rw[Wm];exact r)) hn rfl (λk=> !jI (ps.getD k "") (ws.getD k "")) (λj H' hj' s' R r=>?_) (λj H'=>ac rfl) (λH' d s' hd=>q _ _ ⟨d,rfl,aj,s'.upd hd⟩)) ?_
    .have ej:ws[j]? =some (ws.getD j ""):=by rw[WD,Wp hj'];rfl
     have ejp:ps[j]? =some (ps.getD j ""):=by rw[WD,Wp (by omega)];rfl
     exact Mg (af (bP ac ac (.inl (aV.of (s' _ _ ew7))) (by rw[YA];exact bK (by rw[Wr,ej];rfl))) (af (bP ac ac (.inl (aV.of (s' _ _ ep))) (by rw[YA];exact bK (by rw[Wr,ejp];rfl))) aC)) ⟨_,_,rfl,hl _ (Ww ej),pz _ (Ww ejp),λH'' s''=>r _ s''⟩
    rintro _ H8 ⟨wr,rfl,er,s8⟩;have hemp:decide ((((List.range ws.length).filter λk=> !jI (ps.getD k "") (ws.getD k "")).map λ(i:Nat)=>V.int (0+(i:Int)))=[])=og ws fm:=by rw[efit,YF,decide_eq_true_iff,X8,Xj,WC];exact⟨λh c hc=>by have:=h c hc;simpa using this,λh c hc=>by have:=h c hc;simpa using this⟩
    have s48:=s47.trans s8;refine Eo (λc H'=>c=og ws fm/\ak H8 H') (λR r=>uD (jL (lR (ac rfl) (dR (de ⟨Yh _,λd2 hd2=>⟨_,ou (((ak.refl H8).upd hd2) _ _ er) aj,r _ _ ⟨hemp,(ak.refl H8).upd hd2⟩⟩⟩))))) (λH' h=>?_) (λH' h=>⟨⟨_,_,_,_,rfl⟩,next h.1.symm,s48.trans h.2⟩);refine aZ ac ?_;have e:jR ws=.int (i:Int):=by
     unfold jR sortI;have:(List.range 7).find? (λi=>og ws (gp.getD i ""))=some i:=by rw[List.find?_range_eq_some];exact⟨by rw[ef];exact h.1.symm,WG.mpr hi7,λj hj'=>by rw[hj j hj'];rfl⟩
     rw[this]
    rw[<-e];exact k _ ((s04.trans s48).trans h.2)
   .rw[efit];rw[decide_eq_false_iff_not,Wm,Wm]at h;rw[R7 (by omega)];rfl
  .rintro σ' H' ⟨_,hj,s'⟩;exact hK _ _ ⟨λj hj'=>hj j hj',s04.trans s'⟩
 rintro _ H5 ⟨hj,s5⟩;refine aZ ar ?_;have e:jR ws=.non:=by unfold jR sortI;rw[Xk.mpr (λj hj'=>by rw[hj j (WG.mp hj')];exact YD)]
 rw[<-e];exact k _ s5
end
def bD(at_:Nat)(last:Int):List (Option Nat)->Option Nat
 | []=>if last=6 then none else some at_
 |none::_=>some at_
 |some i::r=>if((decide ((i:Int)=0) != decide ((at_:Int)=0))||(decide ((i:Int)<last)||decide (last=6)))=true then some at_ else bD (at_+1) i r
def Lg:Option Nat->V
 |some i=>.int i
 |none=>.non
def JN(K:Frag):Sp:=λvs H Q _=>∃(d:Z1)(xs:List Str),vs=[.ref d]/\H d=some (.lst (xs.map V.str))/\(∀x∈xs,x.length<=100)/\xs.length<=1000/\∀H',ak H H'->Q (Lg (bD 0 (-1) (xs.map λx=>sortI (Sq x " ")))) H'
structure RY(P:Ss)(w:World)(K:Frag)(mg:Sf)(R4:SD):Prop where
 _law_sort:fC P w K mg R4 "_law_sort" [cC] 3 yk
def Fv(ha:Ev ta σ H (.bl a))(hb:Ev tb σ H (.bl b)):Ev (eP K .NotEq ta tb) σ H (.bl (!decide (a=b))):=λQ q=>ha _ (hb _ q)
section
def lD(F:fg K "_law_wrong_line" "_law_wrong_line" dw f fd)(T:Txt mg aS aA aE aW aO aF)(C:RY P w K mg R4):bM P w K mg R4 fM 4 f fd [aH] (JN K):=by
 refine F.ok2 cH ?_;rintro _ _ _ s H _ Q _ hr hu ⟨d,xs,rfl,ed,xl,xn,k⟩;refine⟨_,(ae (aw 1 cH.nd (ug ag))
  (ae (iC SZ rfl (C4 K T.enumerate bh) (MJ K (n:=2) (cz (bN 2 cH.nd) (cz (bN 3 cH.nd) iP))) (ae (aw 4 cH.nd (aQ C._law_sort hr (bW (cv 3))))
  (ae (bc (PW.pt (dQ (bf K hu (cv 4) dE) (dQ (bf K hu (fX K hu (cv 4) ag) (fX K hu dL ag)) (dQ (bf K hu (cv 4) cA) (dD (bf K hu cA ag)))))) (am (aG dL)) aD)
  (am (aw 1 cH.nd (cv 4))))))
  (ae (bc (bf K hu cA ag) (am (aG (kB (eI K) bJ T.len (bW bh)))) aD)
  (am (aG dE))))),?_⟩
 show cm _ _ _ [oR d,none,none,none,none] H;refine cq (v:=.int (-1)) (tX ar) ?_;generalize hss:(xs.map λx=>sortI (Sq x " "))=ss at k;have ls:ss.length=xs.length:=by rw[<-hss,Wm]
 refine dJ (λσ' H'=>∃(L:Int)(y2 y3 y4:Option V),σ'=[oR d,oJ L,y2,y3,y4]/\bD 0 (-1) ss=(if L=6 then none else some xs.length)/\ak H H') (λKK hK=>?_) ?_
 .refine vN (λe H'=>d=e/\H=H') (λQ q=>lR (v:=.ref d) ac (q _ _ ⟨rfl,rfl⟩)) ?_;rintro _ _ ⟨rfl,rfl⟩;refine⟨_,aV.of ed,λi σ' H'=>∃(L:Int)(y2 y3 y4:Option V),σ'=[oR d,oJ L,y2,y3,y4]/\bD 0 (-1) ss=bD i L (ss.drop i)/\ak H H',⟨-1,none,none,none,rfl,rfl,ak.refl _⟩,?_,?_,?_⟩
  .rintro i σ' H' ⟨_,_,_,_,_,_,s'⟩;exact aV.of (s' _ _ ed)
  .rintro i v _ H5 t hv ⟨L,y2,y3,y4,rfl,ew,s5⟩ nt;rw[Wr]at hv;obtain⟨x,hx,rfl⟩:=Y7.mp hv;refine pM aj ?_;have s6:=s5.upd (o:=.tup [.int (i:Int),.str x]) nt;generalize L2.upd H5 t (.tup [.int (i:Int),.str x])=H6 at s6 ⊢;show cm _ _ _ [oR d,oJ L,oJ (i:Int),oT x,y4] H6;have es:ss[i]? =some (sortI (Sq x " ")):=by rw[<-hss,Wr,hx];rfl
   have dr:ss.drop i=sortI (Sq x " ")::ss.drop (i+1):=by have hi:=(Wz.mp es);obtain⟨hi1,hi2⟩:=hi;rw[Xr hi1,hi2]
   rw[dr]at ew;refine ba (λv H'=>v=jR (Sq x " ")/\ak H6 H') (λQ q=>dH (af ac aC) ⟨x,rfl,xl x (Ww hx),λH' s=>q _ _ ⟨rfl,s⟩⟩) ?_;rintro _ H7 ⟨rfl,s7⟩;have s07:=s6.trans s7;unfold jR;cases hso:sortI (Sq x " ")with
   |none=>
    rw[hso]at ew;refine bn (dY (b:=false) (bw (Dx ac ar)) (λh=>by simp at h)) (λ_=>?_) (λh=>by simp at h);refine aZ ac ?_;have:=k _ s07;rw[ew]at this;exact this
   |some n=>
    rw[hso]at ew;have eb:∀X:Bool,(decide (V.int (n:Int)=V.non)||(!decide (decide ((n:Int)=0)=decide ((i:Int)=0))||X))=((decide ((n:Int)=0) != decide ((i:Int)=0))||X):=λX=>by rw[R7 (by intro h;cases h),YM];cases decide ((n:Int)=0)<;>cases decide ((i:Int)=0)<;>rfl
    refine bn (dY (bw (Dx ac ar)) (λ_=>dY (bw (Fv (dz ac ar) (dz ac ar))) (λ_=>dY (bw (P3 ac ac)) (λ_=>bw (dz ac ar))))) (λh=>?_) (λh=>?_)
    .rw[eb]at h;refine aZ ac ?_;have:=k _ s07;rw[ew]at this;unfold bD at this;rw[R9 h]at this;exact this
    .rw[eb]at h;refine jz ac ⟨(n:Int),_,_,_,rfl,?_,s07⟩;rw[ew];show(if _=true then _ else _)=_;rw[R8 (by rw[h];exact YD)]
  .rintro _ H' ⟨L,y2,y3,y4,rfl,ew,s'⟩;refine hK _ _ ⟨L,y2,y3,y4,rfl,?_,s'⟩;rw[ew,Wm,<-ls,List.drop_length];rfl
 rintro _ H5 ⟨L,y2,y3,y4,rfl,ew,s5⟩;refine bn (bw (zp ac ar)) (λh=>?_) (λh=>?_)
 .have:=k _ s5;rw[ew,R8 (by simpa using h)]at this;refine aZ (cS ac (.inl (aV.of (s5 _ _ ed)))) ?_;rw[Wm];exact this
 .have:=k _ s5;rw[ew,R9 (by simpa using h)]at this;exact aZ ar this
end
def Bo(H:Hp)(vs:List V)(L:List (List Str)):Prop:=vs.length=L.length/\∀(i:Nat) v ws,vs[i]? =some v->L[i]? =some ws->∃r,v=.ref r/\H r=some (.lst (ws.map V.str))
def Bo.same(h:Bo H vs L)(s:ak H H'):Bo H' vs L:=⟨h.1,λi v ws a b=>by
 obtain⟨r,e,h⟩:=h.2 i v ws a b;exact⟨r,e,s _ _ h⟩⟩
def Bo.snoc(h:Bo H vs L)(hr:H r=some (.lst (ws.map V.str))):Bo H (vs++[.ref r]) (L++[ws]):=by
 refine⟨by rw[Wq,Wq,h.1];rfl,λi v ws' a b=>?_⟩
 by_cases hi:i<vs.length
 .rw[W3 hi]at a;rw[W3 (by rw[<-h.1];exact hi)]at b;exact h.2 i v ws' a b
 .by_cases hi2:i=vs.length
  .subst hi2;rw[Xb (Yd _),Nat.sub_self]at a;rw[h.1,Xb (Yd _),Nat.sub_self]at b;cases a;cases b;exact⟨r,rfl,hr⟩
  .rw[WX (by rw[Wq];show vs.length+1<=i;omega)]at a;cases a
def oj(xs:List Str)(s:Int):List (List Str):=(xs.map λx=>Sq x " ").filter λws=>decide (jR ws=.int s)
def rS:Sp:=λvs H Q _=>∃d xs s,vs=[.ref d,.int s]/\H d=some (.lst (xs.map V.str))/\(∀x∈xs,x.length<=100)/\xs.length<=1000/\∀q us H',H q=none->H' q=some (.lst us)->Bo H' us (oj xs s)->ak H H'->Q (.ref q) H'
def DK{K:Frag}{tl te:TE}{tt:TT}{src:List (Option Nat)}{σ rest:L2.St}{H:Hp}{Q:VK}{d:Z1}{xs:List Str}(hl:Ev tl σ H (.ref d))(hx:H d=some (.lst (xs.map V.str)))(hz:xs.length<=1000)(hs:gK src σ=none::rest)(p:Str->Bool)(ht:∀x H',x∈xs->ak H H'->∀R:Bool->Hp->Prop,(∀H'',ak H' H''->R (p x) H'')->tt (some (.str x)::rest) H' R)(he:∀x H',x∈xs->ak H H'->∀R:VK,(∀r,H' r=none->R (.ref r) (L2.upd H' r (.lst ((Sq x " ").map V.str))))->te (some (.str x)::rest) H' R)(q:∀H' e us,ak H H'->H' e=none->Bo H' us (((xs.filter p).map λx=>Sq x " "))->Q (.ref e) (L2.upd H' e (.lst us))):tComp (iS K tl) (gName 0) tt te src σ H Q:=by
 refine hl _ ⟨d,rfl,⟨_,aV.of hx⟩,?_⟩;have lm:(xs.map V.str).length=xs.length:=Wm ..;refine iF (xs.map V.str).length (λi ys σ' H'=>ak H H'/\(∃v,σ'=v::rest)/\ys.length<=i/\Bo H' ys (((xs.take i).filter p).map λx=>Sq x " ")) (by rw[lm,Sw];omega) (λi ys σ H h=>h.2.2.1)
  (λi ys σ H' h hi=>⟨_,_,aV.of (h.1 _ _ hx),Wp hi⟩) (λys σ H' h=>⟨_,aV.of (h.1 _ _ hx),Yd _⟩) ⟨ak.refl H,⟨none,hs⟩,Yd _,⟨rfl,λi v ws a=>by simp at a⟩⟩ ?_ ?_
 .rintro i ys _ H1 v H2 hi ⟨s1,⟨v0,rfl⟩,hle,hy⟩ ⟨rfl,hyy⟩ Kt Kf kt kf;have ex:=hyy _ (aV.of (s1 _ _ hx));rw[Wr]at ex;obtain⟨x,hxx,rfl⟩:=Y7.mp ex;have hm:=Ww hxx;have tk:xs.take (i+1)=xs.take i++[x]:=by rw[W9,hxx];rfl
  show tt (some (.str x)::rest) _ _;refine ht x _ hm s1 _ (λH3 s3=>?_);cases hp:p x with
  |true=>
   refine jG (he x _ hm (s1.trans s3) _ λr hr=>kt _ _ _ ⟨(s1.trans s3).upd hr,⟨_,rfl⟩,by rw[Wq];show ys.length+1<=i+1;omega,?_⟩);rw[tk,WY,WA,WR,R9 hp];exact Bo.snoc ((hy.same s3).same ((ak.refl H3).upd hr)) aj
  |false=>
   refine km (kf _ _ ⟨s1.trans s3,⟨_,rfl⟩,by omega,?_⟩);rw[tk,WY,WA,WR,R8 (by rw[hp];decide)];simp;exact hy.same s3
 .rintro ys _ H1 e ⟨s1,_,_,hy⟩ hd;rw[lm,W7]at hy;exact q H1 e ys s1 hd hy
section
def qq(F:fg K "_law_words" "_law_words" eS f fd)(T:Txt mg aS aA aE aW aO aF)(C:RY P w K mg R4):bM P w K mg R4 fM 4 f fd [aH,bi] rS:=by
 refine F.ok2 qh ?_;rintro _ _ _ s H _ Q _ hr hu ⟨d,xs,s,rfl,ed,xl,xn,k⟩;refine⟨_,(am (aG (eN (cj (N:=[cC,bi]) (src:=[none,some 1]) (ao eS) [aH,bi]) (mw K bh) (λ_ _ _=>(bu (i:=0) [cC,bi])) (λ_ _ _=>(ki (bf K hu (aQ C._law_sort hr (bW bh)) cA))) (λ_ _ _=>(Bn PySem.F.slot_str_split PySem.F.type_str_split kI bh (bW aI)))))),?_⟩;refine cr (DK ac ed xn rfl (λx=>decide (jR (Sq x " ")=.int s)) (λx H' hx s' R r=>?_) (λx H' hx s' R r=>uG ac (by decide+kernel) (by have:=xl x hx;omega) r) (λH' e us s' hd hy=>k e us _ (by cases h0:H e with|none=>rfl|some o=>rw[s' _ _ h0]at hd;cases hd) aj ((Bo.same ?_ ((ak.refl H').upd hd))) (s'.upd hd)))
 .refine uD (jL (dH (af ac aC) ⟨x,rfl,xl x hx,λH'' s''=>lR (ac rfl) ?_⟩));have hr':=r _ s'';unfold jR at hr' ⊢;cases hso:sortI (Sq x " ")with
  |none=>
   rw[hso]at hr';dsimp only at hr';rw[R7 (by intro h;cases h)]at hr';exact hr'
  |some n=>
   rw[hso]at hr';dsimp only at hr';rw[show decide (V.int (n:Int)=.int s)=decide ((n:Int)=s)from decide_eq_decide.mpr ⟨λh=>by injection h,λh=>by rw[h]⟩]at hr';exact hr'
 .unfold oj;rw[XR];exact hy
end
def n9(w:Str):Bool:= !decide (numV w=.non)
def mo(fm wd:Str):Bool:=if fm="number"then n9 wd else if fm="letter"then letB (.str wd)else if fm="aim"then decide (wd∈aimsL)else decide (wd∈cW)
def okPs:List Str->List Str->Bool
 | [],[]=>true
 |f::fs,w::ws=>mo f w&&okPs fs ws
 |_,_=>false
def tblL:List (List Str×List Str):=[([txboard],["number","number"]),(["hole"],["number"]),(["kind"],["letter"]),(["leap","slide","jump"],["letter","aim","number","number"]),(["turn"],["letter","letter"]),(["without","home"],["letter"]),([bU],["word"])]
def Fq(t:List Str×List Str)(ws:List Str):Bool:=match ws with
 | []=>false
 |h::r=>decide (h∈t.1)&&okPs t.2 r
def uF:gp.map (λf=>Sq f " ")=([[txboard,"number","number"],["hole","number"],["kind","letter"],["leap/slide/jump","letter","go/hit/any","number","number"],["turn","letter","letter"],["without/home","letter"],[bU,"lost/even/won"]]:List (List Str)):=by decide+kernel
def wF:Sq txboard "/"=([txboard]:List Str)/\Sq "hole" "/"=(["hole"]:List Str)/\Sq "kind" "/"=(["kind"]:List Str)/\Sq "leap/slide/jump" "/"=(["leap","slide","jump"]:List Str)/\Sq "go/hit/any" "/"=(["go","hit","any"]:List Str)/\Sq "turn" "/"=(["turn"]:List Str)/\Sq "without/home" "/"=(["without","home"]:List Str)/\Sq bU "/"=([bU]:List Str)/\Sq "lost/even/won" "/"=(["lost","even","won"]:List Str):=by decide+kernel
def my(w:Str):jI "number" w=mo "number" w:=rfl
def mz(w:Str):jI "letter" w=mo "letter" w:=by unfold jI mo;rw[R8 (by decide+kernel),R9 rfl,R8 (by decide+kernel),R9 rfl]
def tV{f:Str}(w:Str)(h1:f≠"number")(h2:f≠"letter"):jI f w=decide (w∈Sq f "/"):=by unfold jI;rw[R8 h1,R8 h2]
def ng:List Str->List Str->Bool
 | [],[]=>true
 |f::fs,w::ws=>jI f w&&ng fs ws
 |_,_=>false
theorem zj:∀fs ws,(decide (fs.length=ws.length)&&(List.range ws.length).all λk=>jI (fs.getD k "") (ws.getD k ""))=ng fs ws
 | [],[]=>rfl
 | [],w::ws=>by simp[ng]
 |f::fs,[]=>by simp[ng]
 |f::fs,w::ws=>by
  rw[ng,<-zj fs ws,Wx,Wx,List.range_succ_eq_map,WE,WQ]
  by_cases h:fs.length=ws.length
  .rw[R6 h,R6 (by omega),YE,YE];rfl
  .rw[R7 h,R7 (by omega)];simp
def Fp(ws:List Str)(fm:Str):og ws fm=ng (Sq fm " ") ws:=zj _ _
def Do(ws:List Str):∀i,i<7->og ws (gp.getD i "")=Fq (tblL.getD i ([],[])) ws:=by
 obtain⟨a1,a2,a3,a4,a5,a6,a7,a8,a9⟩:=wF;have hd:∀(fs:List Str)(g:Str)(hs:List Str)(gs:List Str),g≠"number"->g≠"letter"->Sq g "/"=hs->(∀r,ng fs r=okPs gs r)->ng (g::fs) ws=Fq (hs,gs) ws:=λfs g hs gs h1 h2 h3 h4=>by
  cases ws with
  |nil=>rfl
  |cons h r=>
   show(jI g h&&ng fs r)=(decide (h∈hs)&&okPs gs r);rw[tV h h1 h2,h3,h4]
 have c1:∀(f g:Str)(fs gs:List Str),(∀w,jI f w=mo g w)->(∀r,ng fs r=okPs gs r)->∀r,ng (f::fs) r=okPs (g::gs) r:=λf g fs gs h1 h2 r=>by
  cases r with
  |nil=>rfl
  |cons w r=>
   show(jI f w&&ng fs r)=(mo g w&&okPs gs r);rw[h1,h2]
 have c0:∀r,ng [] r=okPs [] r:=λr=>by cases r<;>rfl
 have aim:∀w,jI "go/hit/any" w=mo "aim" w:=λw=>by rw[tV w (by decide+kernel) (by decide+kernel),a5];unfold mo;rw[R8 (by decide+kernel),R8 (by decide+kernel),R9 rfl];rfl
 have wrd:∀w,jI "lost/even/won" w=mo "word" w:=λw=>by rw[tV w (by decide+kernel) (by decide+kernel),a9];unfold mo;rw[R8 (by decide+kernel),R8 (by decide+kernel),R8 (by decide+kernel)];rfl
 have sf:∀i,i<7->Sq (gp.getD i "") " "=(gp.map λf=>Sq f " ").getD i []:=λi hi=>by
  have:i=0\/i=1\/i=2\/i=3\/i=4\/i=5\/i=6:=by omega
  rcases this with rfl|rfl|rfl|rfl|rfl|rfl|rfl<;>rfl
 intro i hi;rw[Fp,sf i hi,uF];have:i=0\/i=1\/i=2\/i=3\/i=4\/i=5\/i=6:=by omega
 rcases this with rfl|rfl|rfl|rfl|rfl|rfl|rfl
 .exact hd _ _ _ _ (by decide+kernel) (by decide+kernel) a1 (c1 _ _ _ _ my (c1 _ _ _ _ my c0))
 .exact hd _ _ _ _ (by decide+kernel) (by decide+kernel) a2 (c1 _ _ _ _ my c0)
 .exact hd _ _ _ _ (by decide+kernel) (by decide+kernel) a3 (c1 _ _ _ _ mz c0)
 .exact hd _ _ _ _ (by decide+kernel) (by decide+kernel) a4 (c1 _ _ _ _ mz (c1 _ _ _ _ aim (c1 _ _ _ _ my (c1 _ _ _ _ my c0))))
 .exact hd _ _ _ _ (by decide+kernel) (by decide+kernel) a6 (c1 _ _ _ _ mz (c1 _ _ _ _ mz c0))
 .exact hd _ _ _ _ (by decide+kernel) (by decide+kernel) a7 (c1 _ _ _ _ mz c0)
 .exact hd _ _ _ _ (by decide+kernel) (by decide+kernel) a8 (c1 _ _ _ _ wrd c0)
theorem lI{α:Type}{p q:α->Bool}:∀{l:List α},(∀x∈l,p x=q x)->l.find? p=l.find? q
 | [],_=>rfl
 |a::l,h=>by rw[WT,WT,h a Wv,lI λx hx=>h x (Wy _ hx)]
def zZ(ws:List Str):sortI ws=[0,1,2,3,4,5,6].find? λi=>Fq (tblL.getD i ([],[])) ws:=by unfold sortI;exact lI λi hi=>Do ws i (WG.mp hi)
def orderL:List Str:=[txboard,"hole","kind","rule","turn","end",bU]
def headI(h:Str):Option Nat:=[0,1,2,3,4,5,6].find? λi=>decide (h∈(tblL.getD i ([],[])).1)
def pK(h:Str):lG h=(headI h).map λi=>orderL.getD i ""::(tblL.getD i ([],[])).2:=by
 by_cases a0:h=txboard
 .subst a0;decide+kernel
 by_cases a1:h="hole"
 .subst a1;decide+kernel
 by_cases a2:h="kind"
 .subst a2;decide+kernel
 by_cases a3:h="leap"
 .subst a3;decide+kernel
 by_cases a4:h="slide"
 .subst a4;decide+kernel
 by_cases a5:h="jump"
 .subst a5;decide+kernel
 by_cases a6:h="turn"
 .subst a6;decide+kernel
 by_cases a7:h="without"
 .subst a7;decide+kernel
 by_cases a8:h="home"
 .subst a8;decide+kernel
 by_cases a9:h=bU
 .subst a9;decide+kernel
 have e1:headI h=none:=by
  unfold headI;rw[Xk];intro i hi;have:i=0\/i=1\/i=2\/i=3\/i=4\/i=5\/i=6:=by simpa using hi
  rcases this with rfl|rfl|rfl|rfl|rfl|rfl|rfl<;>simp[tblL,a0,a1,a2,a3,a4,a5,a6,a7,a8,a9]
 have e2:lG h=none:=by unfold lG jH;simp[Ne.symm a0,Ne.symm a1,Ne.symm a2,Ne.symm a3,Ne.symm a4,Ne.symm a5,Ne.symm a6,Ne.symm a7,Ne.symm a8,Ne.symm a9]
 rw[e1,e2];rfl
def AQ:∀i∈[0,1,2,3,4,5,6],∀h∈(tblL.getD i ([],[])).1,headI h=some i:=by decide+kernel
def lu(h:Str)(r:List Str):sortI (h::r)=(headI h).bind λi=>if okPs (tblL.getD i ([],[])).2 r=true then some i else none:=by
 rw[zZ];cases e:headI h with
 |none=>
  unfold headI at e;rw[Xk]at e;show _=none;rw[Xk];intro i hi;show¬(decide (h∈(tblL.getD i ([],[])).1)&&_)=true;have:=e i hi;rw[YW]at this;rw[this];simp
 |some i=>
  show _=if okPs (tblL.getD i ([],[])).2 r=true then some i else none;have hi:i∈[0,1,2,3,4,5,6]:=Xw e;have hm:h∈(tblL.getD i ([],[])).1:=by have:=List.find?_some e;exact Sa this
  have other:∀j∈[0,1,2,3,4,5,6],h∈(tblL.getD j ([],[])).1->j=i:=λj hj hmj=>by have:=AQ j hj h hmj;rw[e]at this;exact(Sd this).symm
  by_cases ok:okPs (tblL.getD i ([],[])).2 r=true
  .rw[R9 ok];have:([0,1,2,3,4,5,6].find? λj=>Fq (tblL.getD j ([],[])) (h::r))=[0,1,2,3,4,5,6].find? λj=>decide (j=i):=lI λj hj=>by
    show(decide (h∈(tblL.getD j ([],[])).1)&&okPs (tblL.getD j ([],[])).2 r)=decide (j=i)
    by_cases ej:j=i
    .subst ej;rw[R6 hm,ok,R6 rfl];rfl
    .rw[R7 (λz=>ej (other j hj z)),R7 ej];rfl
   rw[this];have hi':i=0\/i=1\/i=2\/i=3\/i=4\/i=5\/i=6:=by simpa using hi
   rcases hi' with rfl|rfl|rfl|rfl|rfl|rfl|rfl<;>rfl
  .rw[R8 ok,Xk];intro j hj;show¬(decide (h∈(tblL.getD j ([],[])).1)&&okPs (tblL.getD j ([],[])).2 r)=true
   by_cases ej:j=i
   .subst ej;rw[YW]at ok;rw[ok];simp
   .rw[R7 (λz=>ej (other j hj z))];simp
def EW(f w:Str):isNon (partV f w)= !mo f w:=by
 unfold partV mo n9
 by_cases h1:f="number"
 .rw[R9 h1,R9 h1];cases e:numV w<;>simp[isNon]
 .rw[R8 h1,R8 h1]
  by_cases h2:f="letter"
  .rw[R9 h2,R9 h2];cases letB (.str w)<;>rfl
  .rw[R8 h2,R8 h2]
   by_cases h3:f="aim"
   .rw[R9 h3,R9 h3]
    by_cases h4:w∈aimsL
    .rw[R9 h4,R6 h4];rfl
    .rw[R8 h4,R7 h4];rfl
   .rw[R8 h3,R8 h3]
    by_cases h4:w∈cW
    .rw[R9 h4,R6 h4];rfl
    .rw[R8 h4,R7 h4];rfl
theorem Br:∀fs r,fs.length=r.length->((List.zipWith (λa b=>partV (iW a) (iW b)) (fs.map V.str) (r.map V.str)).any isNon)= !okPs fs r
 | [],[],_=>rfl
 | [],_::_,h=>by simp at h
 |_::_,[],h=>by simp at h
 |f::fs,w::r,h=>by
  show(isNon (partV f w)||_)= !(mo f w&&okPs fs r)
  rw[EW,Br fs r (by simpa using h),Bool.not_and]
theorem vw:∀{fs r:List Str},okPs fs r=true->fs.length=r.length
 | [],[],_=>rfl
 | [],_::_,h=>by cases h
 |_::_,[],h=>by cases h
 |f::fs,w::r,h=>by have h:(mo f w&&okPs fs r)=true:=h;rw[YC]at h;rw[Wx,Wx,vw h.2]
def oY(h:Str)(r:List Str):lC (h::r)=(sortI (h::r)).map λi=>fu (orderL.getD i ""::(tblL.getD i ([],[])).2) (h::r):=by
 rw[lu];unfold lC;rw[show(h::r).headD ""=h from rfl,pK];cases e:headI h with
 |none=>rfl
 |some i=>
  rw[Za,Zc];dsimp only
  by_cases hl:(tblL.getD i ([],[])).2.length=r.length
  .rw[R9 (by rw[Wx,Wx,hl])];have e2:(fu (orderL.getD i ""::(tblL.getD i ([],[])).2) (h::r)).any isNon= !okPs (tblL.getD i ([],[])).2 r:=Br _ r hl;rw[e2];cases okPs (tblL.getD i ([],[])).2 r<;>rfl
  .rw[R8 (by rw[Wx,Wx];omega),R8 (λz=>hl (vw z))];rfl
def BV:Sp:=λvs H Q _=>∃c:Int,vs=[.int c]/\∀z:Str,z.length<=1->Q (.str z) H
def JW:Sp:=λvs H Q _=>∃x c,vs=[.str x,.int c]/\x.length<=30/\∀z H',z.length<=100->ak H H'->Q (.str z) H'
structure C8b(P:Ss)(w:World)(K:Frag)(mg:Sf)(R4:SD):Prop where
 _law_sign:fC P w K mg R4 "_law_sign" [aM] 1 BV
def wt(ws:List Str):Nat:=(ws.map λw=>w.length+1).sum
def Kx(a b:List Str):wt (a++b)=wt a+wt b:=by unfold wt;rw[WA,List.sum_append]
def eQ(w:Str)(ws:List Str):wt (w::ws)=w.length+1+wt ws:=by unfold wt;rw[WI,XS]
theorem wg:∀ws:List Str,(ws.map (·.length)).sum+ws.length=wt ws
 | []=>rfl
 |w::ws=>by have:=wg ws;rw[eQ,WI,XS,Wx];omega
theorem om:∀w ws,(TV " " (w::ws)).length+1=wt (w::ws)
 |w,[]=>by rw[eQ];rfl
 |w,b::r=>by
  have e2:(TV " " (w::b::r)).length=w.length+(" ":Str).length+(TV " " (b::r)).length:=by show(w++" "++TV " " (b::r)).length=_;rw[bV,gF,gF,Wq,Wq];rfl
  have e3:(" ":Str).length=1:=by decide+kernel
  have:=om b r;rw[eQ];omega
def E9(ws:List Str):(VF " " ws).length<=wt ws:=by
 rw[JJ];cases ws with
 |nil=>show(TV " " []).length<=0;decide+kernel
 |cons w ws=>
  have:=om w ws;omega
def Bu(x:Str):wt (Sq x " ")<=x.length+1:=by
 have e:=UW x " ";cases h:Sq x " "with
 |nil=>exact Yh _
 |cons w ws=>
  rw[h]at e;have:=om w ws;rw[e]at this;omega
def Bt(h:a.Sublist b):wt a<=wt b:=by
 induction h with
 |slnil=>exact Yd _
 |cons x _ ih=>rw[eQ];omega
 |cons_cons x _ ih=>rw[eQ,eQ];omega
def MD(te:TE)(σ:L2.St)(H:Hp)(n:Nat):Prop:= ∀Q:VK,(∀q(zs:List Str) H',H' q=some (.lst (zs.map V.str))->wt zs<=n->ak H H'->Q (.ref q) H')->te σ H Q
section
def CU(ws:List Str):ws.length<=wt ws:=by have:=wg ws;omega
def ub(h1:MD ta σ H n)(h2:∀H1,ak H H1->MD tb σ H1 n')(hn:n+n'<=1000):MD (iJ .Add ta tb) σ H (n+n'):=λQ q=>pV (h1 _ λa zs H1 ha zn s1=>h2 H1 s1 _ λb ws H2 hb wn s2=>
 mF (s2 _ _ ha) hb (by rw[Wm,Wm];have:=CU zs;have:=CU ws;omega) λp hp=>q p (zs++ws) _ (by rw[aj,WA]) (by rw[Kx];omega) ((s1.trans s2).upd hp))
def ua(ha:Ev ta σ H (.ref d))(hl:∀Q:Option Int->Hp->Prop,Q lo H->tl σ H Q)(hh:∀Q:Option Int->Hp->Prop,Q hi H->th σ H Q)(hx:H d=some (.lst (ys.map V.str)))(hm:wt ys<=n):MD (Bc K ta tl th) σ H n:=λQ q=>by refine oN ha hl hh (aV.of hx) λp hp=>q p ((ys.drop (HT.sIx (ys.map V.str).length 0 lo)).take (HT.sIx (ys.map V.str).length (ys.map V.str).length hi - HT.sIx (ys.map V.str).length 0 lo)) _ ?_ (Ye (Bt ((Xp _ _).trans (Xu _ _))) hm) ((ak.refl H).upd hp);rw[aj];unfold cutV;rw[Xx,Xv]
def Fy(h:Ev te σ H (.str z))(hz:z.length+1<=n):MD (rR (bg te cw)) σ H n:=λQ q=>dR (bo h (de ⟨by show 1<=h9;decide,λp hp=>q p [z] _ aj (by rw[eQ];show _+0<=n;omega) ((ak.refl H).upd hp)⟩))
def Fx(ha:Ev te σ H (.ref d))(hx:H d=some (.lst (ys.map V.str)))(hm:wt ys<=n):MD te σ H n:=λQ q=>ha _ (q d ys H hx hm (ak.refl H))
theorem Bv:∀ws i z,wt (ws.set i z)<=wt ws+z.length+1
 | [],_,_=>by simp[wt]
 |w::ws,0,z=>by rw[W4,eQ,eQ];omega
 |w::ws,i+1,z=>by rw[XM,eQ,eQ];have:=Bv ws i z;omega
def oK:List Str:=["go","hit","any","leap","slide","jump","a","b","0","1","-1","4","9","70","won","home","turn","-0","007","1234567890","","kind","hole",txboard,bU,"without","lost","even"]
def LN(h:MD tb σ H n)(hn:n<=1000)(q:∀(z:Str) H',z.length<=n->ak H H'->Q (.str z) H'):Kj (qW K) (tC (.str " ")) (bg tb cw) σ H Q:=h _ λd ys H1 e hw s=>by show qW K (.str " ") [.ref d] H1 Q;rw[Ce];refine⟨ys,aV.of e,?_,q _ _ (Ye (E9 ys) hw) s⟩;have:=wg ys;rw[show(" ":Str).length=1 from by decide+kernel,Nat.mul_one];omega
end
section
def tu(F:fg K "_law_sign" "_law_sign" gO f fd)(T:Txt mg aS aA aE aW aO aF):bM P w K mg R4 fM 1 f fd [aM] BV:=by
 refine F.ok2 lY ?_;rintro _ _ _ _ H _ Q _ hr hu ⟨c,rfl,k⟩;refine⟨_,(ae (aw 1 lY.nd aI)
  (am (aG (cV K cA (aq bh (kB (eI K) bJ T.len (bW cA))))))),?_⟩
 show cm _ _ _ [oJ c,none] H;refine cq ar ?_;generalize hz:TB "0123456789-abcxyzABZ .,_#\n\t"=z;have zl:z.length=27:=by rw[<-hz];decide+kernel
 have zS:z.length<=h9:=by rw[zl,Sw];decide
 have h0:0<=c % (z.length:Int):=Yx _ (by omega);have h1:c % (z.length:Int)<z.length:=Yy _ (by omega);have hlt:(c % (z.length:Int)).toNat<z.cps.toList.length:=by rw[<-bV];omega
 have eq:=bK (Wp hlt);rw[YB h0]at eq;exact aZ (xx ac (bR ac (kK ac zS) (by omega)) zS eq) (k _ (Yd 1))
def ml(F:fg K "_law_bent_line" "_law_bent_line" dP f fd)(T:Txt mg aS aA aE aW aO aF)(C:C8b P w K mg R4):bM P w K mg R4 fM 2 f fd [cC,aM] JW:=by
 refine F.ok2 cg ?_;rintro _ _ _ _ H _ Q _ hr hu ⟨x,c,rfl,hx,k⟩;refine⟨_,(ae (aw 2 cg.nd (aq cA ag))
  (ae (aw 3 cg.nd (aq (aq cA ag) (aq (kB (eI K) bJ T.len (bW bh)) ag)))
  (ae (aw 4 cg.nd (Bn PySem.F.slot_str_split PySem.F.type_str_split kI bh (bW aI)))
  (ae (aw 5 cg.nd (aq (aq cA ag) (kB (eI K) bJ T.len (bW (cv 4)))))
  (ae (bc (bf K hu dL ag) (am (aG (aq (aq (kQ K bh bH (bC (cv 3))) (aQ C._law_sign hr (bW (aq cA ag)))) (kQ K bh (bC (cv 3)) bH)))) aD)
  (ae (bc (bf K hu dL ag) (am (aG (aq (kQ K bh bH (bC (cv 3))) (kQ K bh (bC (aq (cv 3) ag)) bH)))) aD)
  (ae (bc (bf K hu dL ag) (am (aG (aq (aq (kQ K bh bH (bC (cv 3))) (aQ C._law_sign hr (bW (aq cA ag)))) (kQ K bh (bC (aq (cv 3) ag)) bH)))) aD)
  (ae (bc (bf K hu dL ag) (am (aG (Bn PySem.F.slot_str_join PySem.F.type_str_join (yZ K) aI (bW (aq (kQ K (cv 4) bH (bC (cv 5))) (kQ K (cv 4) (bC (aq (cv 5) ag)) bH)))))) aD)
  (ae (bc (bf K hu dL ag) (am (aG (Bn PySem.F.slot_str_join PySem.F.type_str_join (yZ K) aI (bW (aq (aq (kQ K (cv 4) bH (bC (cv 5))) (bG (bW (cV K (cv 4) (cv 5))))) (kQ K (cv 4) (bC (cv 5)) bH)))))) aD)
  (ae (aw 6 cg.nd (bG (cT rfl)))
  (ae (aw 6 cg.nd (aq (cv 6) (bG (cT rfl))))
  (ae (aw 6 cg.nd (aq (cv 6) (bG (cT rfl))))
  (ae (bc (bf K hu dL ag) (ae (Cr (cV K (cv 6) (aq (aq cA ag) ag)) (Le (cv 4) (cv 5) B3))
  (am (aG (Bn PySem.F.slot_str_join PySem.F.type_str_join (yZ K) aI (bW (cv 4)))))) aD)
  (am (aG (aq (aq bh aI) (cV K (cv 6) (aq (aq cA ag) ag)))))))))))))))))),?_⟩
 show cm _ _ _ [oT x,oJ c,none,none,none,none,none] H;have hw:=Bu x;have wne:0<(Sq x " ").length:=by
  cases h:Sq x " "with
  |nil=>exact Sc h (ka x _)
  |cons a r=>exact Yu _
 generalize hws:Sq x " "=ws at hw wne;have xS:x.length<=h9:=by rw[Sw];omega
 refine cq (v:=.int (c % 7)) (bR ac ar) ?_;refine cq (v:=.int (c / 7 % ((x.length:Int)+1))) (bR (db ac ar) (dm (kK ac xS) ar) (by omega)) ?_;refine ba (λv H'=>∃q:Z1,v=.ref q/\H' q=some (.lst (ws.map V.str))/\H q=none/\ak H H') (λQ q=>uG ac (by decide+kernel) (by omega) λp hp=>q _ _ ⟨p,rfl,by rw[aj,hws],hp,(ak.refl H).upd hp⟩) ?_;rintro _ H1 ⟨wq,rfl,ew,nw,s1⟩;have wl:(0:Int)<((ws.map V.str).length:Int):=by rw[Wm];omega
 refine cq (v:=.int (c / 7 % ((ws.map V.str).length:Int))) (bR (db ac ar) (cS ac (.inl (aV.of ew))) wl) ?_;have p0:0<=c / 7 % ((ws.map V.str).length:Int):=Yx _ (by omega);have p1:c / 7 % ((ws.map V.str).length:Int)<((ws.map V.str).length:Int):=Yy _ wl;generalize c / 7 % ((ws.map V.str).length:Int)=sp at p0 p1;generalize c / 7 % ((x.length:Int)+1)=ah;generalize c % 7=wy;show cm _ _ _ [oT x,oJ c,oJ wy,oJ ah,oR wq,oJ sp,none] H1;have sg:∀H',ME (ia BV (bg (iJ .FloorDiv (cc 1) (tC (.int 217))) cw)) [some (.str x),some (.int c),some (.int wy),some (.int ah),some (.ref wq),some (.int sp),none] H' 1:=λH' Q q=>dH (af (db ac ar) aC) ⟨_,rfl,λz hz=>q _ _ hz (ak.refl _)⟩;refine bn (bw (dz ac ar)) (λ_=>?_) (λ_=>?_)
 .exact cr (jJ (jJ (ni ac gy (fT ac) hx (by decide)) (λH2 _=>sg H2) (by decide)) (λH2 _=>ni ac (fT ac) gy hx (by decide)) (by decide) _ λz H' hz s'=>k z H' (by omega) (s1.trans s'))
 refine bn (bw (dz ac ar)) (λ_=>?_) (λ_=>?_)
 .exact cr (jJ (ni ac gy (fT ac) hx (by decide)) (λH2 _=>ni ac (fT (dm ac ar)) gy hx (by decide)) (by decide) _ λz H' hz s'=>k z H' (by omega) (s1.trans s'))
 refine bn (bw (dz ac ar)) (λ_=>?_) (λ_=>?_)
 .exact cr (jJ (jJ (ni ac gy (fT ac) hx (by decide)) (λH2 _=>sg H2) (by decide)) (λH2 _=>ni ac (fT (dm ac ar)) gy hx (by decide)) (by decide) _ λz H' hz s'=>k z H' (by omega) (s1.trans s'))
 have hw31:wt ws<=31:=by omega
 refine bn (bw (dz ac ar)) (λ_=>?_) (λ_=>?_)
 .exact cr (LN (ub (ua ac gy (fT ac) ew hw31) (λH2 s2=>ua ac (fT (dm ac ar)) gy (s2 _ _ ew) hw31) (by decide)) (by decide) λz H' hz s'=>k z H' (by omega) (s1.trans s'))
 obtain⟨wd,ewd,hwd⟩:=Cy (ss:=ws) p0 (by rw[Wm]at p1;exact p1);have wl31:∀z∈ws,z.length<=31:=λz hz=>by have:=Bt (List.singleton_sublist.mpr hz);rw[eQ]at this;omega
 refine bn (bw (dz ac ar)) (λ_=>?_) (λ_=>?_)
 .exact cr (LN (ub (ub (ua ac gy (fT ac) ew hw31) (λH2 s2=>Fy (n:=32) (bP ac ac (.inl (aV.of (s2 _ _ ew))) ewd) (by have:=wl31 _ hwd;omega)) (by decide)) (λH2 s2=>ua ac (fT ac) gy (s2 _ _ ew) hw31) (by decide)) (by decide) λz H' hz s'=>k z H' (by omega) (s1.trans s'))
 refine ba (λv H'=>∃q:Z1,v=.ref q/\H' q=some (.lst ((oK.take 12).map V.str))/\ak H1 H') (λQ q=>dR (iH _ ⟨by show 12<=h9;decide,λp hp=>q _ _ ⟨p,rfl,aj,(ak.refl H1).upd hp⟩⟩)) ?_;rintro _ H2 ⟨f1,rfl,e1,s2⟩;refine ba (λv H'=>∃q:Z1,v=.ref q/\H' q=some (.lst ((oK.take 21).map V.str))/\ak H2 H') (λQ q=>nu (lR (v:=.ref f1) ac (dR (iH _ ⟨by show 9<=h9;decide,λp hp=>⟨f1,p,_,_,rfl,rfl,((ak.refl H2).upd hp) _ _ e1,aj,by show 21<=h9;decide,λp2 hp2=>q _ _ ⟨p2,rfl,aj,((ak.refl H2).upd hp).upd hp2⟩⟩⟩)))) ?_;rintro _ H3 ⟨f2,rfl,e2,s3⟩;refine ba (λv H'=>∃q:Z1,v=.ref q/\H' q=some (.lst (oK.map V.str))/\ak H3 H') (λQ q=>nu (lR (v:=.ref f2) ac (dR (iH _ ⟨by show 7<=h9;decide,λp hp=>⟨f2,p,_,_,rfl,rfl,((ak.refl H3).upd hp) _ _ e2,aj,by show 28<=h9;decide,λp2 hp2=>q _ _ ⟨p2,rfl,aj,((ak.refl H3).upd hp).upd hp2⟩⟩⟩)))) ?_;rintro _ H4 ⟨fl,rfl,e3,s4⟩;have s24:=(s2.trans s3).trans s4;have ew4:=s24 _ _ ew;obtain⟨pk,epk,hpk⟩:=Cy (ss:=oK) (i:=c / 217 % 28) (by omega) (by show _<(28:Int);omega);have pk10:pk.length<=10:=(by decide+kernel:∀z∈oK,z.length<=10) pk hpk;refine bn (bw (dz ac ar)) (λ_=>?_) (λ_=>?_)
 .refine dJ (λσ' H'=>σ'[4]? =some (some (.ref wq))/\(∃zs:List Str,H' wq=some (.lst (zs.map V.str))/\wt zs<=42)/\ak H H') (λKK hK=>Pe (P:=λv H'=>v=.str pk/\H'=H4) (l:=wq) (i:=sp) (λQ q=>?_) ?_) ?_
  .exact(bP ac (bR (db ac ar) ar) (.inl (aV.of e3)) epk) _ (q _ _ ⟨rfl,rfl⟩)
  .rintro _ _ ⟨rfl,rfl⟩;refine⟨ac rfl,ac rfl,_,ew4,p0,p1,hK _ _ ⟨rfl,⟨ws.set sp.toNat pk,by rw[aj,List.map_set],?_⟩,(s1.trans s24).put nw⟩⟩;have:=Bv ws sp.toNat pk;omega
  rintro σ' H5 ⟨e4,⟨zs,ez,hz⟩,s5⟩;exact cr (LN (Fx (ac e4) ez hz) (by decide) λz H' hz s'=>k z H' (by omega) (s5.trans s'))
 exact cr (jJ (jJ (uc ac hx) (λ_ _=>uc ar (Yd 1)) (by decide)) (λH2 s'=>uc (bP ac (bR (db ac ar) ar) (.inl (aV.of (s' _ _ e3))) epk) pk10) (by decide) _ λz H' hz s'=>k z H' (by omega) ((s1.trans s24).trans s'))
end
def CY(lv:V):Prop:=lv=.non\/∃la,lv=.str la/\la∈orderL
def CQ(so:Str)(lv:V):Bool:=match lv with
 | .str la=> !decide (so=txboard)&&(!decide (la=bU)&&decide (orderL.idxOf la<=orderL.idxOf so))
 |_=>decide (so=txboard)
def JS:Sp:=λvs H Q _=>∃so lv,vs=[.str so,lv]/\so∈orderL/\CY lv/\Q (.bl (CQ so lv)) H
abbrev C1(ks:List Str)(ls:List Z1):List (Key×V):=List.zipWith (λs a=>((.inr s:Key),V.ref a)) ks ls
theorem tP:∀{ks:List Str}{ls:List Z1}{j:Nat}{s:Str}{l:Z1},ks.Nodup->ks[j]? =some s->ls[j]? =some l->valV (C1 ks ls) (.inr s)=some (.ref l)
 | [],_,j,s,l,_,h,_=>by cases j<;>cases h
 |_::_,[],j,s,l,_,_,h=>by cases j<;>cases h
 |k::ks,a::ls,0,s,l,_,h1,h2=>by obtain rfl:k=s:=Sd h1;obtain rfl:a=l:=Sd h2;exact j8 rfl
 |k::ks,a::ls,j+1,s,l,nd,h1,h2=>by have h1:=h1;rw[W2]at nd;have e:¬((.inr k:Key)=.inr s):=λe=>nd.1 (by injection e with e;rw[e];exact Ww h1);exact(jc e).trans (tP nd.2 h1 h2)
theorem vF:∀{ks:List Str}{ls:List Z1}{s:Str},(∀i,i<ls.length->ks[i]?≠some s)->valV (C1 ks ls) (.inr s)=none
 | [],_,_,_=>rfl
 |_::_,[],_,_=>rfl
 |k::ks,a::ls,s,h=>by have e:¬((.inr k:Key)=.inr s):=λe=>h 0 (by simp) (by injection e with e;rw[e];rfl);exact(jc e).trans (vF λi hi z=>h (i+1) (by simpa using hi) z)
theorem vE:∀{ks:List Str}{ls:List Z1}{s:Str}{a:Z1},ks[ls.length]? =some s->C1 ks (ls++[a])=C1 ks ls++[(.inr s,.ref a)]
 | [],ls,s,a,h=>by simp at h
 |k::ks,[],s,a,h=>by obtain rfl:k=s:=Sd h;cases ks<;>rfl
 |k::ks,b::ls,s,a,h=>by have ih:=vE (ks:=ks) (ls:=ls) (s:=s) (a:=a) h;show(_,_)::C1 ks (ls++[a])=(_,_)::(C1 ks ls++_);rw[ih]
def wR:orderL.Nodup:=by decide+kernel
structure Bj(H:Hp)(q:Z1)(ls:List Z1)(gs:List (Nat×List V)):Prop where
 dict:H q=some (.dK (C1 orderL ls))
 len:ls.length=7
 nd:ls.Nodup
 qn:q∉ls
 grp:∀j l,ls[j]? =some l->∃zs:List (Z1×List V),H l=some (.lst (zs.map λz=>V.ref z.1))/\zs.map (·.2)=(gs.filter λg=>decide (g.1=j)).map (·.2)/\∀z∈zs,H z.1=some (.lst z.2)/\z.1∉ls/\z.1≠q
def Bj.same(F:Bj H q ls gs)(s:ak H H'):Bj H' q ls gs:=
 ⟨s _ _ F.dict,F.len,F.nd,F.qn,λj l h=>by
  obtain⟨zs,a,b,c⟩:=F.grp j l h;exact⟨zs,s _ _ a,b,λz hz=>⟨s _ _ (c z hz).1,(c z hz).2⟩⟩⟩
def Pq{ls:List Z1}{i j:Nat}(nd:ls.Nodup)(h1:ls[i]? =some l)(h2:ls[j]? =some l):i=j:=by obtain⟨a,e1⟩:=Wz.mp h1;obtain⟨b,e2⟩:=Wz.mp h2;exact(Xn nd).mp (e1.trans e2.symm)
def L9(h:tv σ H λv H1=>td σ H1 λx H2=>ty σ H2 λy H3=>∃a H4,x=.ref a/\Bk H3 a y v H4/\D.nx σ H4):yD td ty tv D σ H:=h
def nm{ls:List Z1}(h:x∉ls)(hl:l∈ls):x≠l:=λe=>h (by rw[e];exact hl)
def Bj.add(F:Bj H q ls gs)(hl:ls[j]? =some l)(hx:H l=some (.lst xs))(hp:H p=some (.lst ps))(pn:p∉ls)(pq:p≠q):Bj (upd H l (.lst (xs++[.ref p]))) q ls (gs++[(j,ps)]):=by
 have lm:=Ww hl;refine⟨?_,F.len,F.nd,F.qn,λi m hm=>?_⟩
 .rw[av (nm F.qn lm)];exact F.dict
 obtain⟨zs,a,b,c⟩:=F.grp i m hm;have old:∀z∈zs,(upd H l (.lst (xs++[.ref p]))) z.1=some (.lst z.2)/\z.1∉ls/\z.1≠q:=λz hz=>by obtain⟨c1,c2,c3⟩:=c z hz;exact⟨by rw[av (nm c2 lm)];exact c1,c2,c3⟩
 by_cases e:i=j
 .subst e;obtain rfl:l=m:=Sd (hl.symm.trans hm);rw[hx]at a;obtain rfl:xs=zs.map λz=>V.ref z.1:=by injection a with a;injection a
  refine⟨zs++[(p,ps)],?_,?_,λz hz=>?_⟩
  .rw[aj,WA];rfl
  .rw[WA,b,WY,WA,WR,R6 rfl];rfl
  .rcases WF.mp hz with hz|hz
   .exact old z hz
   .rw[Wu.mp hz];exact⟨by rw[av (nm pn lm)];exact hp,pn,pq⟩
 .have ne:m≠l:=λe2=>e (Pq F.nd hm (e2▸hl));refine⟨zs,by rw[av ne];exact a,?_,old⟩;rw[b,WY,WR,R7 (show¬(j=i)from λz=>e z.symm)];rw[R8 YD,List.filter_nil,WN]
structure RQ(line:Str)(g:Nat×List V):Prop where
 len:line.length<=100
 ps:lC (Sq line " ")=some g.2
 so:∃so w0 rest fr,orderL[g.1]? =some so/\g.2=.str w0::rest/\lG w0=some (so::fr)
def lineI(x:Str):Option Nat:=sortI (Sq x " ")
def gOf(x:Str):Nat×List V:=((lineI x).getD 0,fu (orderL.getD ((lineI x).getD 0) ""::(tblL.getD ((lineI x).getD 0) ([],[])).2) (Sq x " "))
def hZ(L:Int):V:=if L<0 then .non else .str (orderL.getD L.toNat "")
def JY(h:sortI ws=some j):j<7:=by unfold sortI at h;exact WG.mp (Xw h)
def wT(h:j<7):orderL[j]? =some (orderL.getD j ""):=by rw[WD];rw[Wp (show j<orderL.length from h)];rfl
def Pw(hx:x.length<=100)(h:lineI x=some j):RQ x (gOf x):=by
 unfold lineI at h;have hj:=JY h;cases e:Sq x " "with
 |nil=>exact Sc e (ka _ _)
 |cons w0 r=>
  rw[e]at h;have e1:gOf x=(j,fu (orderL.getD j ""::(tblL.getD j ([],[])).2) (w0::r)):=by unfold gOf lineI;rw[e,h];rfl
  refine⟨hx,?_,?_⟩
  .rw[e,oY,h,e1];rfl
  .rw[e1];have hh:headI w0=some j:=by
    rw[lu]at h;obtain⟨i,h1,h2⟩:=Zb.mp h;split at h2
    .rw[h1,Sd h2]
    .cases h2
   exact⟨orderL.getD j "",w0,_,_,wT hj,rfl,by rw[pK,hh];rfl⟩
def E6(h:lineI x=none):lC (Sq x " ")=none:=by
 unfold lineI at h;cases e:Sq x " "with
 |nil=>exact Sc e (ka _ _)
 |cons w0 r=>rw[e]at h;rw[oY,h];rfl
def Ps:∀j∈List.range 7,∀L∈List.range 7,CQ (orderL.getD j "") (.str (orderL.getD L ""))= !(decide (j=0)||(decide (j<L)||decide (L=6))):=by decide+kernel
def Pu:∀j∈List.range 7,CQ (orderL.getD j "") .non=decide (j=0):=by decide+kernel
def LB:∀L∈List.range 7,decide (orderL.getD L ""=bU)=decide (L=6):=by decide+kernel
def CP{at_ j:Nat}{L:Int}(hj:j<7)(hL:(L= -1/\at_=0)\/(0<=L/\L<7/\0<at_)):CQ (orderL.getD j "") (hZ L)= !((decide ((j:Int)=0) != decide ((at_:Int)=0))||(decide ((j:Int)<L)||decide (L=6))):=by
 rcases hL with⟨rfl,rfl⟩|⟨h0,h7,h1⟩
 .rw[show hZ (-1)=.non from rfl,Pu j (WG.mpr hj)];have e:decide ((j:Int)=0)=decide (j=0):=by rw[decide_eq_decide];omega
  rw[e,R7 (show¬((j:Int)< -1) by omega)];cases decide (j=0)<;>rfl
 .have e0:hZ L=.str (orderL.getD L.toNat ""):=by unfold hZ;rw[R8 (by omega)]
  rw[e0,Ps j (WG.mpr hj) L.toNat (WG.mpr (by omega))];have e1:decide ((j:Int)=0)=decide (j=0):=by rw[decide_eq_decide];omega
  have e2:decide ((j:Int)<L)=decide (j<L.toNat):=by rw[decide_eq_decide];omega
  have e3:decide (L=6)=decide (L.toNat=6):=by rw[decide_eq_decide];omega
  rw[e1,e2,e3,R7 (show¬((at_:Int)=0) by omega)];cases decide (j=0)<;>rfl
def B0(cL:Z1):Sp:=λvs H Q _=>∃(e:Z1)(i:Nat),vs=[.ref e,.int (i:Int)]/\H e=some (gX cL none e)/\i<=400/\∀dx,H dx=none->dx≠e->Q .non (upd (upd H e (gX cL (some dx) e)) dx (.xd [("at",.int (i:Int))]))
def qH(cL:Z1):Sp:=λvs H Q E=>∃(d:Z1)(ls:List Str),vs=[.ref d]/\H d=some (.lst (ls.map V.str))/\(∀x∈ls,x.length<=100)/\ls.length<=400/\
 (∀at_,bD 0 (-1) (ls.map lineI)=some at_->∀dx H',H' dx=some (.xd [("at",.int (at_:Int))])->ak H H'->E (.ref cL) (some dx) H')/\
 (bD 0 (-1) (ls.map lineI)=none->∀q as H',Bj H' q as (ls.map gOf)->H q=none->ak H H'->Q (.ref q) H')
def Rc{a b nm:Str}{d:Option Z1}{i:Nat}(h0:Ev ta σ H (.ref e))(h1:Ev te σ H (.int (i:Int)))(hi:i<=400)(xc:XC K C f nm)(he:H e=some (gX C d e))(k:u D σ H):cm (lS (cXI K (bg ta (bg (tFs a b te) cw)))) u D σ H:=
 h0 _ (h1 _ ⟨i,rfl,hi,λz=>⟨e,C,f,.str z,d,nm,rfl,xc,he,k⟩⟩)
def Rb{nm:Str}(h0:Ev ta σ H (.ref e))(h1:Ev tv σ H y)(xc:XC K C f nm)(he:H e=some (gX C none e))(k:∀dx,H dx=none->dx≠e->D.nx σ (upd (upd H e (gX C (some dx) e)) dx (.xd [(nm,y)]))):sXF K ta tv nm D σ H:=
 h1 _ (h0 _ ⟨e,C,f,rfl,xc,he,k⟩)
structure CSo(P:Ss)(w:World)(K:Frag)(mg:Sf)(R4:SD)(cL:Z1):Prop where
 parts_of:fC P w K mg R4 "parts_of" ["line"] 3 qI
 may_follow:fC P w K mg R4 "may_follow" ["sort","last"] 1 JS
 BadLine:RO P w K mg R4 "BadLine" cL "at" ["self","at"] 1 (B0 cL)
section
def n8(F:fg K "__init__" "BadLine.__init__" dk f fd)(m_PlayError:mg "PlayError"=some (.ref cP))(xi:XI K cP)(xc:XC K cL f' "at"):bM P w K mg R4 fM 1 f fd ["self","at"] (B0 cL):=by
 refine F.ok2 kO ?_;rintro _ _ _ _ H _ Q _ hr _ ⟨e,i,rfl,he,hi,k⟩;refine⟨_,(ae (kH (CB m_PlayError xi (cE bh (Lf cA (by decide)))))
  (am (EJ bh cA rfl))),?_⟩
 exact Rc ac ac hi xc he (Rb ac ac xc he k)
def ql(F:fg K "may_follow" "may_follow" gc f fd)(T:Txt mg aS aA aE aW aO aF)(hO:hV K aO orderL):bM P w K mg R4 fM 1 f fd ["sort","last"] JS:=by
 refine F.ok2 qf ?_;rintro _ _ _ _ H _ Q _ hr hu ⟨so,lv,rfl,hso,hl,q⟩;refine⟨_,(ae (bc (PW.pt (dQ (bf K hu bh aI) (dD (bf K hu cA dE)))) (am (aG (eE (fX K hu bh aI) (fo (fX K hu cA dE))))) aD)
  (am (aG (eE (fX K hu cA aI) (fo (fX K hu (zF K (kg T.ORDER) cA) (zF K (kg T.ORDER) bh))))))),?_⟩
 rcases hl with rfl|⟨la,rfl,hla⟩
 .have e1:Ev (eP K .Is (cc 1) (tC .non)) [some (.str so),some .non] H (.bl true):=tY ac ar;refine bn (dY (bw (dq ac ar)) (λ_=>bw e1)) (λ_=>?_) (λh=>?_)
  .refine aZ (dc (dq ac ar) (λ_=>e1)) ?_;rw[YK];exact q
  .rw[YT]at h;cases h
 .have e1:Ev (eP K .Is (cc 1) (tC .non)) [some (.str so),some (.str la)] H (.bl false):=λQ q=>(show Ev (cc 1) _ _ (.str la)from ac rfl) _ (ar _ q);have ix:∀{te:TE}{z:Str},Ev te [oT so,oT la] H (.str z)->z∈orderL->Ev (Ki K (tC (.ref aO)) te) [some (.str so),some (.str la)] H (.int (orderL.idxOf z:Nat)):=λhe hz Q q=>⟨orderL,hO,he _ ⟨_,rfl,hz,q⟩⟩;refine bn (dY (bw (dq ac ar)) (λ_=>bw e1)) (λh=>?_) (λh=>?_)
  .rw[YL]at h;refine aZ (dc (dq ac ar) (λ_=>e1)) ?_;have q:Q (.bl (!decide (so=txboard)&&(!decide (la=bU)&&decide (orderL.idxOf la<=orderL.idxOf so)))) H:=q;rw[h]at q ⊢;exact q
  .rw[YL]at h;refine aZ (dc (lJ ac ar) (λ_=>P4 (ix ac hla) (ix ac hso))) ?_;have q:Q (.bl (!decide (so=txboard)&&(!decide (la=bU)&&decide (orderL.idxOf la<=orderL.idxOf so)))) H:=q;rw[h]at q;rw[show decide ((orderL.idxOf la:Int)<=(orderL.idxOf so:Int))=decide (orderL.idxOf la<=orderL.idxOf so) by rw[decide_eq_decide];omega];exact q
end
theorem mM:∀{ns:List Str}{us:List Z0},bZ (ns.map V.str) us->jv (ns.map V.str) us
 | [],_,.nil=>.nil
 |_::_,_,.cons r t=>.cons r (mM t)
def CW(h:L= -1\/(0<=L/\L<7)):CY (hZ L):=by
 rcases h with rfl|⟨h0,h7⟩
 .exact .inl rfl
 .refine .inr ⟨orderL.getD L.toNat "",?_,Ww (wT (by omega))⟩;unfold hZ;rw[R8 (by omega)]
def KR{cL:Z1}{te:TE}{E:XK}{D:j6}{σ:L2.St}{H:Hp}{i:Nat}(h:Ev te σ H (.int (i:Int)))(hi:i<=400)(k:∀dx H',H' dx=some (.xd [("at",.int (i:Int))])->ak H H'->E (.ref cL) (some dx) H'):ya cL (B0 cL) (bg te cw) E D σ H:=
 h _ ⟨by show 1<=h9;decide,λe he=>⟨e,i,rfl,aj,hi,λdx hd ne=>by
  rw[av ne]at hd;refine⟨rfl,dx,by rw[av ne.symm,aj],k dx _ ?_ λb o hb=>?_⟩
  .unfold tK;rw[R8 ne,aj]
  .have b1:b≠e:=λz=>by rw[z,he]at hb;cases hb
   have b2:b≠dx:=λz=>by rw[z,hd]at hb;cases hb
   unfold tK;rw[R8 b1,av b2,av b1,av b1];exact hb⟩⟩
section
def qk(F:fg K "sorted_out" "sorted_out" gb f fd)(T:Txt mg aS aA aE aW aO aF)(hF:Ko P w K aF (fkv fs))(hF2:∀z∈fs,∀H,dU K H z.2 (z.1.2.map V.str))(hF3:fs.map (·.1)=jH)(hO:hV K aO orderL)(C:CSo P w K mg R4 cL):bM P w K mg R4 (jb P w) 4 f fd ["lines"] (qH cL):=by
 refine F.okX2 cJ (λvs H Q E h=>?_) (λcdv A R5 s H vs Q E hr h=>?_)
 .obtain⟨d,ls,rfl,_⟩:=h;rfl
 .obtain⟨d,ls,rfl,hd,hln,hgl,kx,k⟩:=h;have hu:=LV hr;refine⟨_,(ae (aw 1 cJ.nd CF) (ae (iC PassesOwn.leaving rfl (kpt K (kg T.ORDER)) (bN 2 cJ.nd) (am (PD hu cA dL (bG pan)))) (ae (aw 3 cJ.nd dE) (ae (iC PassesOwn.leaving rfl (C4 K T.enumerate bh) (MJ K (n:=2) (cz (bN 4 cJ.nd) (cz (bN 5 cJ.nd) iP))) (ae (aw 6 cJ.nd (aQ C.parts_of hr (bW (cv 5)))) (ae (bc (bf K hu (cv 6) dE) (am (mT C.BadLine rfl hr (bW (cv 4)) jF)) aD) (ae (aw 2 cJ.nd (cV K (LL hF (kg T.FORMS) (cV K (cv 6) ag)) ag)) (ae (bc (bE (bF (aQ C.may_follow hr (cE dL (cv 3))))) (am (mT C.BadLine rfl hr (bW (cv 4)) jF)) aD) (ae (kH (pU (nH hu cA dL) (cv 6))) (am (aw 3 cJ.nd dL)))))))) (ae (bc (bf K hu (cv 3) aI) (am (mT C.BadLine rfl hr (bW (kB (eI K) bJ T.len (bW bh))) jF)) aD) (am (aG cA))))))),?_⟩;show cm _ _ _ [oR d,none,none,none,none,none,none] H;refine ba (λv H'=>∃q,v=.ref q/\H q=none/\H'=upd H q (.dK [])) (λQ z p hp=>z _ _ ⟨p,rfl,hp,rfl⟩) ?_;rintro _ _ ⟨q,rfl,hq,rfl⟩;have hT:∀H',dU K H' aO (orderL.map V.str):=λH'=>by obtain⟨its,n,sl,h1,h2⟩:=hO;refine .inr ⟨_,its.toArray,n,h1,rfl,rfl,?_,mM h2⟩;have:=h2.length;rw[Wm]at this;rw[Wt,<-this];decide
  refine dJ (λσ' H'=>(∃o2,σ'=[oR d,oR q,o2,none,none,none,none])/\∃as,Bj H' q as []/\(∀l∈as,H l=none)/\ak H H') (λK' hK=>?_) ?_
  .refine Dl (K:=K) (λv H'=>v=.ref aO/\H'=upd H q (.dK [])) (λQ z=>ar _ (z _ _ ⟨rfl,rfl⟩)) ?_;rintro _ _ ⟨rfl,rfl⟩;refine⟨aO,orderL.map V.str,rfl,hT _,λi σ' H'=>(∃o2,σ'=[oR d,oR q,o2,none,none,none,none])/\∃as:List Z1,as.length=i/\as.Nodup/\q∉as/\H' q=some (.dK (C1 orderL as))/\(∀l∈as,H' l=some (.lst [])/\H l=none)/\ak H H',?_,λi σ' H' _ _=>hT H',?_,?_⟩
   .exact⟨⟨_,rfl⟩,[],rfl,List.nodup_nil,(λh=>by cases h),aj,(λl h=>by cases h),(ak.refl H).upd hq⟩
   .rintro i x _ H1 hx ⟨⟨o2,rfl⟩,as,la,nd,qn,eq,al,s1⟩;rw[Wr]at hx;obtain⟨so,hso,rfl⟩:∃so,orderL[i]? =some so/\V.str so=x:=by
     cases e:orderL[i]? with
     |none=>rw[e]at hx;cases hx
     |some so=>rw[e]at hx;exact⟨so,rfl,Sd hx⟩
    show yD _ _ _ _ [some (.ref d),some (.ref q),some (.str so),none,none,none,none] H1;refine L9 (dR (de ⟨Yh _,λa ha=>?_⟩));have qa:q≠a:=ay eq ha;have vn:valV (C1 orderL as) (.inr so)=none:=vF λj hj e=>by rw[la]at hj;obtain⟨a1,e1⟩:=Wz.mp e;obtain⟨a2,e2⟩:=Wz.mp hso;have:=(Xn wR).mp (e1.trans e2.symm);omega
    have i7:i<7:=(Wz.mp hso).1;have lk:(C1 orderL as).length<=7:=by rw[XG];exact Nat.min_le_left _ _
    have ea:(upd H1 a (.lst [])) q=some (.dK (C1 orderL as)):=by rw[av qa];exact eq
    refine ac rfl _ (ac rfl _ ⟨q,_,rfl,Bk.k (k:=.inr so) ea (by rw[Sw];omega),⟨_,rfl⟩,as++[a],?_,?_,?_,?_,?_,?_⟩)
    .rw[Wq,la];rfl
    .rw[Xg];refine⟨nd,by simp,λu hu' v hv e=>?_⟩;rw[Wu.mp hv]at e;have:=(al u hu').1;rw[e,ha]at this;cases this
    .intro h
     rcases WF.mp h with h|h
     .exact qn h
     .exact qa (Wu.mp h)
    .rw[aj,Cq _ vn,vE (by rw[la];exact hso)]
    .intro l hl
     rcases WF.mp hl with h|h
     .have h2:=(al l h).1;rw[av (nm qn h).symm,av (ay h2 ha)];exact⟨h2,(al l h).2⟩
     .rw[Wu.mp h,av qa.symm,aj];exact⟨rfl,s1.free ha⟩
    .exact(s1.upd ha).put hq
   .rintro σ' H' ⟨ho,as,la,nd,qn,eq,al,s1⟩;refine hK _ _ ⟨ho,as,⟨eq,by rw[la];rfl,nd,qn,λj l h=>⟨[],(al l (Ww h)).1,rfl,(λz hz=>by cases hz)⟩⟩,λl h=>(al l h).2,s1⟩
  rintro _ H1 ⟨⟨o2,rfl⟩,as,F1,frl,s1⟩;refine cq ar ?_;generalize hss:ls.map lineI=ss at kx k;have sl:ss.length=ls.length:=by rw[<-hss,Wm]
  refine dJ (λσ' H'=>∃(L:Int)(o2 o4 o5 o6:Option V),σ'=[oR d,oR q,o2,some (hZ L),o4,o5,o6]/\(L= -1\/(0<=L/\L<7))/\bD 0 (-1) ss=(if L=6 then none else some ls.length)/\Bj H' q as (ls.map gOf)/\ak H H') (λK' hK=>?_) ?_
  .refine Fo (K:=K) (d:=d) (xs:=ls.map V.str) (λH'=>H'=H1) (λQ z=>ac rfl _ (z _ rfl)) (λH' e=>by rw[e];exact aV.of (s1 _ _ hd)) (λi σ' H'=>∃(L:Int)(o2 o4 o5 o6:Option V),σ'=[oR d,oR q,o2,some (hZ L),o4,o5,o6]/\((L= -1/\i=0)\/(0<=L/\L<7/\0<i))/\bD 0 (-1) ss=bD i L (ss.drop i)/\Bj H' q as ((ls.take i).map gOf)/\ak H H') (λH' e=>?_) (λi σ' H' p=>by obtain⟨_,_,_,_,_,_,_,_,_,s'⟩:=p;exact aV.of (s' _ _ hd)) ?_ ?_
   .rw[e];exact⟨-1,_,_,_,_,rfl,.inl ⟨rfl,rfl⟩,rfl,F1,s1⟩
   .rintro i x _ H2 t hx ⟨L,o2,o4,o5,o6,rfl,hL,hw,F2,s2⟩ ht;rw[Wr]at hx;obtain⟨line,hline,rfl⟩:∃line,ls[i]? =some line/\V.str line=x:=by
     cases e:ls[i]? with
     |none=>rw[e]at hx;cases hx
     |some so=>rw[e]at hx;exact⟨so,rfl,Sd hx⟩
    have il:i<ls.length:=(Wz.mp hline).1;have h100:=hln line (Ww hline);have hsi:ss[i]? =some (lineI line):=by rw[<-hss,Wr,hline];rfl
    have hdr:ss.drop i=lineI line::ss.drop (i+1):=by obtain⟨h1,h2⟩:=Wz.mp hsi;rw[Xr h1,h2]
    rw[hdr]at hw;refine pM aj ?_;have st:=(ak.refl H2).upd (o:=.tup [.int (i:Int),.str line]) ht;generalize upd H2 t (.tup [.int (i:Int),.str line])=H3 at st ⊢;have F3:=F2.same st;have s3:=s2.trans st;show cm _ _ _ [oR d,oR q,o2,some (hZ L),oJ (i:Int),oT line,o6] H3;cases hl:lineI line with
    |none=>
     rw[hl]at hw;refine ba (λv H'=>v=.non/\ak H3 H') (λQ z=>dH (af ac aC) ⟨line,rfl,h100,(λe H' s=>z _ _ ⟨rfl,s⟩),λps e=>by rw[E6 hl]at e;cases e⟩) ?_;rintro _ H4 ⟨rfl,s4⟩;refine bn (b:=true) (bw (tY ac ar)) (λ_=>KR ac (by omega) λdx H' e s'=>kx i hw dx H' e ((s3.trans s4).trans s')) (λh=>nomatch h)
    |some j=>
    rw[hl]at hw;have LK:=Pw h100 hl;have hj:j<7:=JY hl;have eg1:(gOf line).1=j:=by unfold gOf;rw[hl];rfl
    obtain⟨so,w0,rest,fr,hso,eps,hfm⟩:=LK.so;rw[eg1]at hso;have eso:so=orderL.getD j "":=Sd (hso.symm.trans (wT hj));refine ba (λv H'=>∃p,v=.ref p/\H3 p=none/\H' p=some (.lst (gOf line).2)/\ak H3 H') (λQ z=>dH (af ac aC) ⟨line,rfl,h100,(λe=>by rw[LK.ps]at e;cases e),λps e p H' n a s=>?_⟩) ?_
    .rw[LK.ps]at e;obtain rfl:=Sd e;exact z _ _ ⟨p,rfl,n,a,s⟩
    rintro _ H4 ⟨p,rfl,np,ep,s4⟩;have F4:=F3.same s4;have s04:=s3.trans s4;show cm _ _ _ [oR d,oR q,o2,some (hZ L),oJ (i:Int),oT line,oR p] H4;refine bn (b:=false) (bw (Dv ac ar)) (λh=>nomatch h) (λ_=>?_);obtain⟨z,hz,hzf⟩:∃z∈fs,valV (fkv fs) (.inr w0)=some (.ref z.2)/\z.1.2=so::fr:=by
     rw[zi hF3]at hfm;cases e:fs.find? λz=>decide (z.1.1=w0)with
     |none=>rw[e]at hfm;cases hfm
     |some z=>
      rw[e]at hfm;exact⟨z,Xw e,by rw[xw,e];rfl,Sd hfm⟩
    rw[eps]at ep;refine cq (i:=2) (v:=.str so) (bP (p:=z.2) (xs:=(so::fr).map V.str) (λQ k=>(show Ev (nM K (cc 6) (tC (.int 0))) _ H4 (.str w0)from bP ac ar (.inl (aV.of ep)) (bK (j:=0) rfl)) _ ⟨.inr w0,_,rfl,hzf.1,k⟩) ar (.inr (by rw[<-hzf.2];exact hF2 z hz H4)) (bK (j:=0) rfl)) ?_;show cm _ _ _ [oR d,oR q,oT so,some (hZ L),oJ (i:Int),oT line,oR p] H4;have hL7:L= -1\/(0<=L/\L<7):=by omega
    refine cF (λb H'=>b=(!CQ so (hZ L))/\H'=H4) (λQ z=>eF (af ac (af ac aC)) ⟨so,_,rfl,Ww hso,CW hL7,z _ _ ⟨rfl,rfl⟩⟩) (λH' h=>?_) (λH' h=>?_)
    .obtain⟨hb,rfl⟩:=h;rw[eso,CP hj hL,YU]at hb;have hw':bD 0 (-1) ss=some i:=by rw[hw];unfold bD;rw[<-hb,R9 rfl]
     exact KR ac (by omega) λdx H' e s'=>kx i hw' dx H' e (s04.trans s')
    obtain⟨hb,rfl⟩:=h;rw[eso,CP hj hL,YU]at hb;have hw':bD 0 (-1) ss=bD (i+1) j (ss.drop (i+1)):=by rw[hw,bD,<-hb,R8 YD]
    have j7:j<as.length:=by rw[F4.len];exact hj
    obtain⟨l,hl'⟩:∃l,as[j]? =some l:=⟨_,Wp j7⟩;obtain⟨zs,el,ez,_⟩:=F4.grp j l hl';have zl:zs.length<=ls.length:=by have e:=Se List.length ez;rw[Wm,Wm]at e;rw[e];refine Ye (WW _ _) ?_;rw[Wm];exact X9 _ _
    refine KH (l:=l) (λQ k=>ac rfl _ (ac rfl _ ⟨q,.ref l,rfl,by rw[<-tP wR hso hl'];exact xZ.k (k:=.inr so) F4.dict,k⟩)) ac el (by rw[Wm];rw[Sw];omega) ?_;have pn:p∉as:=λh=>by obtain⟨j,hj⟩:=W0 h;obtain⟨zs',e',_⟩:=F3.grp j p hj;rw[np]at e';cases e'
    have pq:p≠q:=λh=>by have:=F3.dict;rw[<-h,np]at this;cases this
    have lH:H l=none:=by
     cases e:H l with
     |none=>rfl
     |some o=>rw[frl l (Ww hl')]at e;cases e
    have e1:(ls.take (i+1)).map gOf=(ls.take i).map gOf++[(j,(gOf line).2)]:=by rw[W9,hline,WA,<-eg1];rfl
    refine pZ (ac rfl _ ⟨j,some (.str so),some (.int (i:Int)),some (.str line),some (.ref p),?_,.inr ⟨by omega,by omega,by omega⟩,hw',?_,s04.put lH⟩)
    .show[some (V.ref d),some (.ref q),some (.str so),some (.str so),_,_,_]=_;rw[eso];unfold hZ;rw[R8 (by omega),Yw]
    .rw[e1];exact F4.add hl' el (by rw[ep,eps]) pn pq
   .rintro σ' H' ⟨L,o2,o4,o5,o6,rfl,hL,hw,F2,s2⟩;rw[Wm]at hL hw F2;rw[W7]at F2;rw[<-sl,List.drop_length]at hw;refine hK _ _ ⟨L,_,_,_,_,rfl,by omega,?_,F2,s2⟩;rw[hw,sl];rfl
  rintro _ H2 ⟨L,o2,o4,o5,o6,rfl,hL,hw,F2,s2⟩
  by_cases h6:L=6
  .subst h6;rw[R9 rfl]at hw;refine bn (b:=false) (bw (b:=false) ?_) (λh=>nomatch h) (λ_=>aZ ac (k hw q as H2 F2 hq s2));have z:=lJ (K:=K) (z:=bU) (z':=bU) (ta:=cc 3) (tb:=tC (.str bU)) (σ:=[oR d,oR q,o2,oT (bU),o4,o5,o6]) (H:=H2) ac ar;exact z
  .rw[R8 h6]at hw;refine bn (b:=true) (bw (b:=true) ?_) (λ_=>KR (i:=ls.length) (λQ z=>?_) hgl λdx H' e s'=>kx _ hw dx H' e (s2.trans s')) (λh=>nomatch h)
   .rcases hL with rfl|⟨h0,h7⟩
    .exact λQ z=>(show Ev (cc 3) _ H2 .non from ac rfl) _ (ar _ z)
    .have e0:hZ L=.str (orderL.getD L.toNat ""):=by unfold hZ;rw[R8 (by omega)]
     have z:=lJ (K:=K) (z:=orderL.getD L.toNat "") (z':=bU) (ta:=cc 3) (tb:=tC (.str bU)) (σ:=[oR d,oR q,o2,oT (orderL.getD L.toNat ""),o4,o5,o6]) (H:=H2) ac ar;rw[LB L.toNat (WG.mpr (by omega)),R7 (by omega)]at z;rw[e0];exact z
   .have z2:=(cS (K:=K) (to:=cc 0) (σ:=[oR d,oR q,o2,some (hZ L),o4,o5,o6]) ac (.inl (aV.of (s2 _ _ hd)))) Q;rw[Wm]at z2;exact z2 z
end
def pE(H:Hp)(v:V):List Str:=match lstOf H v with
 |some xs=>xs.map iL
 |none=>[]
def vM(H:Hp)(kv rv tv ev sv:V):Bool:=kindsB H kv&&(rulesB H rv (pE H kv)&&(turnsB H tv (pE H kv)&&(pairsB H ev endsL (pE H kv)&&wordB sv cW)))
def C3(h:kindsB H v=true):∃kd ws,v=.ref kd/\H kd=some (.lst (ws.map V.str))/\pE H v=ws/\∀s∈ws,s.length<=1000:=by
 unfold kindsB at h;unfold pE;split at h
 .rename_i xs e;obtain⟨a,rfl,ea⟩:=fL e;rw[YC,YC,WC]at h;have e2:(xs.map iL).map V.str=xs:=by rw[Ws];refine(WK λx hx=>?_).trans (WZ _);obtain⟨c,rfl,_⟩:=pB (h.1.2 x hx);rfl
  refine⟨a,xs.map iL,rfl,by rw[e2];exact ea,by first|rw[e]|rfl,λs hs=>?_⟩
  obtain⟨x,hx,rfl⟩:=Wo.mp hs;obtain⟨c,rfl,_⟩:=pB (h.1.2 x hx);show 1<=1000;decide
 .cases h
def uN(cG cN:Z1):Sp:=λvs H _ E=>∃p dx bv kv rv tv ev sv,vs=[.ref p,bv,kv,rv,tv,ev,sv]/\H p=some (.ins cG dx [])/\fB H 1 kv/\fB H 2 rv/\fB H 2 tv/\fB H 2 ev/\Thg H sv/\vM H kv rv tv ev sv=false/\∀H',ak H H'->E (.ref cN) none H'
section
def qy(F:fg K "__init__" "Game.__init__" du f fd)(T:Txt mg aS aA aE aW aO aF)(hW:∀H,gY K H aW cW)(m_BadGame:mg "BadGame"=some (.ref cN))(q_BadGame:Zs K cN [.type "ValueError",.type "Exception",.type "BaseException",.type "object"] "ValueError.__new__"=true)(C:RS P w K mg R4):bM P w K mg R4 (jb P w) 6 f fd ["self",txboard,txkinds,"rules","turns","ends",bU] (uN cG cN):=by
 refine F.okX2 je (λvs H Q E h=>?_) (λcdv A R5 s H vs Q E hr h=>?_)
 .obtain⟨p,dx,bv,kv,rv,tv,ev,sv,rfl,_⟩:=h;rfl
 .obtain⟨p,dx,bv,kv,rv,tv,ev,sv,rfl,hp,tk,tr,tt,te,ts,bad,k⟩:=h;refine⟨_,(ae (bc (bE (bF (aQ C.are_kinds hr (bW dL)))) (am (iA PySem.F.excBase_ValueError rfl rfl m_BadGame q_BadGame (bW aI) dX)) aD) (ae (bc (bE (bF (aQ C.are_rules hr (cE (cv 3) dL)))) (am (iA PySem.F.excBase_ValueError rfl rfl m_BadGame q_BadGame (bW aI) dX)) aD) (ae (bc (bE (bF (aQ C.is_turns hr (cE (cv 4) dL)))) (am (iA PySem.F.excBase_ValueError rfl rfl m_BadGame q_BadGame (bW aI) dX)) aD) (ae (bc (bE (bF (aQ C.is_ends hr (cE (cv 5) dL)))) (am (iA PySem.F.excBase_ValueError rfl rfl m_BadGame q_BadGame (bW aI) dX)) aD) (ae (bc (bE (bF (aQ C.is_word hr (cE (cv 6) (kg T.STUCK_WORDS))))) (am (iA PySem.F.excBase_ValueError rfl rfl m_BadGame q_BadGame (bW aI) dX)) aD) qN))))),?_⟩;cases bk:kindsB H kv with
  |false=>
   refine cF (λb H'=>b=true/\ak H H') (λQ q=>eF (af ac aC) ⟨kv,rfl,tk,λH' s=>?_⟩) (λH1 w=>?_) (λH1 w=>nomatch w.1)
   .rw[bk];exact q _ _ ⟨rfl,s⟩
   .exact⟨by decide,k _ w.2⟩
  |true=>
   obtain⟨kd,ws,rfl,ek,ew,_⟩:=C3 bk;have wk:∀H',ak H H'->gY K H' kd ws:=λH' s=>.inl (aV.of (s _ _ ek));unfold vM at bad;rw[bk,ew,YE]at bad;refine cF (λb H'=>b=false/\ak H H') (λQ q=>eF (af ac aC) ⟨.ref kd,rfl,tk,λH' s=>?_⟩) (λH1 w=>nomatch w.1) (λH1 w=>?_)
   .rw[bk];exact q _ _ ⟨rfl,s⟩
   have s1:=w.2;cases br:rulesB H rv ws with
   |false=>
    refine cF (λb H'=>b=true/\ak H1 H') (λQ q=>eF (af ac (af ac aC)) ⟨rv,kd,ws,rfl,tr.same s1,wk _ s1,λH' s=>?_⟩) (λH2 w=>?_) (λH2 w=>nomatch w.1)
    .rw[kh tr s1,br];exact q _ _ ⟨rfl,s⟩
    .exact⟨by decide,k _ (s1.trans w.2)⟩
   |true=>
    rw[br,YE]at bad;refine cF (λb H'=>b=false/\ak H1 H') (λQ q=>eF (af ac (af ac aC)) ⟨rv,kd,ws,rfl,tr.same s1,wk _ s1,λH' s=>?_⟩) (λH2 w=>nomatch w.1) (λH2 w=>?_)
    .rw[kh tr s1,br];exact q _ _ ⟨rfl,s⟩
    have s2:=s1.trans w.2;cases bt:turnsB H tv ws with
    |false=>
     refine cF (λb H'=>b=true/\ak H2 H') (λQ q=>eF (af ac (af ac aC)) ⟨tv,kd,ws,rfl,tt.same s2,wk _ s2,λH' s=>?_⟩) (λH3 w=>?_) (λH3 w=>nomatch w.1)
     .rw[j9 tt s2,bt];exact q _ _ ⟨rfl,s⟩
     .exact⟨by decide,k _ (s2.trans w.2)⟩
    |true=>
     rw[bt,YE]at bad;refine cF (λb H'=>b=false/\ak H2 H') (λQ q=>eF (af ac (af ac aC)) ⟨tv,kd,ws,rfl,tt.same s2,wk _ s2,λH' s=>?_⟩) (λH3 w=>nomatch w.1) (λH3 w=>?_)
     .rw[j9 tt s2,bt];exact q _ _ ⟨rfl,s⟩
     have s3:=s2.trans w.2;cases be:pairsB H ev endsL ws with
     |false=>
      refine cF (λb H'=>b=true/\ak H3 H') (λQ q=>eF (af ac (af ac aC)) ⟨ev,kd,ws,rfl,te.same s3,wk _ s3,λH' s=>?_⟩) (λH4 w=>?_) (λH4 w=>nomatch w.1)
      .rw[iQ te s3,be];exact q _ _ ⟨rfl,s⟩
      .exact⟨by decide,k _ (s3.trans w.2)⟩
     |true=>
      rw[be,YE]at bad;refine cF (λb H'=>b=false/\ak H3 H') (λQ q=>eF (af ac (af ac aC)) ⟨ev,kd,ws,rfl,te.same s3,wk _ s3,λH' s=>?_⟩) (λH4 w=>nomatch w.1) (λH4 w=>?_)
      .rw[iQ te s3,be];exact q _ _ ⟨rfl,s⟩
      have s4:=s3.trans w.2;refine bn (cQ (bw (bq (af ac (af ar aC)) (λQ q=>⟨sv,aW,cW,rfl,ts.same s4,hW H4,q⟩)))) (λ_=>?_) (λh=>by rw[bad]at h;cases h);exact⟨by decide,k _ s4⟩
structure CHg(P:Ss)(w:World)(K:Frag)(mg:Sf)(R4:SD):Prop where
 is_among:fC P w K mg R4 "is_among" [aR,"least","most"] 2 lV
def qo(F:fg K "are_holes" "are_holes" fR f fd)(T:Txt mg aS aA aE aW aO aF)(C:CHg P w K mg R4):bM P w K mg R4 fM 3 f fd [aR,"many"] lU:=by
 refine F.ok2 sk ?_;rintro _ _ _ _ H _ Q _ hr hu ⟨v,m,rfl,t,m64,k⟩;refine⟨_,(ae (bc (PW.pt (dQ (bE (bF (Ec .list T.isinstance T.list jN bh))) (dD (bf K hu (kB (eI K) bJ T.len (bW bh)) cA)))) (am (aG fb)) aD)
  (ae (bc (bE (bF (kB (C5 K) pW T.all (bW (eN (cj (N:=["hole","many"]) (src:=[none,some 1]) (ao fR) [aR,"many"]) (mw K bh) (λ_ _ _=>(bu (i:=0) ["hole","many"])) (λ_ _ _=>bI) (λ_ _ _=>(aQ C.is_among hr (fU bh (cE ag (aq cA ag)))))))))) (am (aG fb)) aD)
  (am (aG (fX K hu (kB xK bJ T.len (bW (nI (Rx K hr) nn T.set (bW bh)))) (kB (eI K) bJ T.len (bW bh))))))),?_⟩
 show cm _ _ _ [some v,oJ m] H;have hs:=pP (T:=.list) (te:=cc 0) (σ:=[some v,oJ m]) ac t.thg;rw[CT t.thg]at hs;unfold ko at k;cases e:lstOf H v with
 |none=>
  rw[e]at hs k;exact bn (b:=true) (λQ q=>cQ (bw hs) _ (jG q)) (λ_=>aZ ar (k H (ak.refl H))) (λh=>by cases h)
 |some xs=>
  rw[e]at hs k;obtain⟨a,rfl,ha⟩:=fL e;have tx:=t.2 xs (.inr e);have k:∀H',ak H H'->Q (.bl (decide ((xs.length:Int)<m)&&xs.all (λx=>amongB x 0 (m - 1))&&decide ((xs.map λx=>match x with| .int i=>i|_=>0).Nodup))) H':=k
  refine bn (b:=false||decide (m<=(xs.length:Int))) (dY (a:=false) (cQ (bw hs)) (λ_=>bw (Ke (cS ac (.inl (aV.of ha))) ac))) (λh=>?_) (λh=>?_)
  .have h:m<=(xs.length:Int):=Sa h;have k:=k H (ak.refl H);rw[R7 (by omega)]at k;exact aZ ar k
  have h:¬m<=(xs.length:Int):=Sb h;rw[R6 (by omega:(xs.length:Int)<m)]at k;refine cF (λb H'=>b=(!xs.all (λx=>amongB x 0 (m - 1)))/\ak H H') (λQ q=>?_) (λH1 w=>?_) (λH1 w=>?_)
  .refine fH (d:=a) (xs:=xs) (rest:=[oJ m]) ac (aV.of ha) (by rw[Sw];omega) rfl (λ_=>true) (λx=>.bl (amongB x 0 (m - 1))) (λx hx=>fE) (λx hx _=>?_) (λp hp=>?_)
   .exact bq (af ac (af ar (af (nh ac ar) aC))) (λQ q=>⟨x,0,m - 1,rfl,tx x hx,q⟩)
   .refine⟨xs.map λx=>amongB x 0 (m - 1),?_,?_⟩
    .have e2:(xs.filter λ_=>true).map (λx=>V.bl (amongB x 0 (m - 1)))=(xs.map λx=>amongB x 0 (m - 1)).map V.bl:=by rw[WP.mpr (λ_ _=>rfl),Ws];rfl
     rw[<-e2];exact aV.of aj
    .have e3:(xs.map λx=>amongB x 0 (m - 1)).all id=xs.all (λx=>amongB x 0 (m - 1)):=by rw[WQ];rfl
     rw[e3];exact q _ _ ⟨rfl,(ak.refl H).upd hp⟩
  .have e0:xs.all (λx=>amongB x 0 (m - 1))=false:=by
    cases z:xs.all (λx=>amongB x 0 (m - 1))
    .rfl
    .rw[z]at w;cases w.1
   have k:=k H1 w.2;rw[e0]at k;exact aZ ar k
  .have e0:xs.all (λx=>amongB x 0 (m - 1))=true:=by
    cases z:xs.all (λx=>amongB x 0 (m - 1))
    .rw[z]at w;cases w.1
    .rfl
   rw[e0]at k;obtain⟨hs',rfl,good⟩:=za e0;have e5:((hs'.map V.int).map λx=>match x with| .int i=>i|_=>0)=hs':=by
    rw[Ws]
    conv=>rhs;rw[<-WZ hs']
    exact WK λx _=>rfl
   rw[e5]at k;rw[Wm]at h;have hS1:=w.2.seq (aV.of (K:=K) ha);simp only[jx,eP,cB,bg,cw];refine lR (ac rfl) ?_;refine⟨hs',hS1,by have:scanBound=4096:=rfl;omega,λq hq=>?_⟩;refine⟨_,_,aj,?_⟩;have s2:ak H1 (upd H1 q (.set (λk=>(uB hs').any (· == k)) (uB hs').length)):=(ak.refl H1).upd hq;refine lR (v:=.ref a) ac ⟨_,.inl (s2.seq hS1),?_⟩;show Q (.bl (decide ((((uB hs').length:Nat):Int)=(((hs'.map V.int).length:Nat):Int)))) _;have e4:decide ((((uB hs').length:Nat):Int)=(((hs'.map V.int).length:Nat):Int))=(true&&true&&decide hs'.Nodup):=by
    rw[Wm]
    by_cases hn:hs'.Nodup
    .rw[R6 hn,R6 (by rw[(uA _).mpr hn])];rfl
    .rw[R7 hn,R7 (λz=>hn ((uA _).mp (by omega)))];rfl
   rw[e4];exact k _ (w.2.trans s2)
structure CBx(P:Ss)(w:World)(K:Frag)(mg:Sf)(R4:SD):Prop extends CHg P w K mg R4 where
 are_holes:fC P w K mg R4 "are_holes" [aR,"many"] 3 lU
def pe{f cB cN:Z1}{fd:SU}(F:fg K "__init__" "Board.__init__" cI f fd)(T:Txt mg aS aA aE aW aO aF)(m_BadBoard:mg "BadBoard"=some (.ref cN))(q_BadBoard:Zs K cN [.type "ValueError",.type "Exception",.type "BaseException",.type "object"] "ValueError.__new__"=true)(C:CBx P w K mg R4):bM P w K mg R4 (jb P w) 4 f fd ["self","wide","high","holes"] (uO cB cN):=by
 refine F.okX2 iO (λvs H Q E h=>?_) (λcdv A R5 s H vs Q E hr h=>?_)
 .obtain⟨p,dx,wv,hv,dv,rfl,_⟩:=h;rfl
 .obtain⟨p,dx,wv,hv,dv,rfl,hp,tw,th,td,bad,k⟩:=h;refine⟨_,(ae (bc (PW.pt (dQ (bE (bF (aQ C.is_among hr (fU cA (cE ag (kg T.LONGEST)))))) (dD (bE (bF (aQ C.is_among hr (fU dL (cE ag (kg T.LONGEST))))))))) (am (iA PySem.F.excBase_ValueError rfl rfl m_BadBoard q_BadBoard (bW aI) dX)) aD) (ae (bc (bE (bF (aQ C.are_holes hr (cE (cv 3) (aq cA dL))))) (am (iA PySem.F.excBase_ValueError rfl rfl m_BadBoard q_BadBoard (bW aI) dX)) aD) qN)),?_⟩;refine bn (dY (cQ (bw (bq (af ac (af ar (af ar aC))) (λQ q=>⟨wv,1,8,rfl,tw,q⟩)))) (λ_=>cQ (bw (bq (af ac (af ar (af ar aC))) (λQ q=>⟨hv,1,8,rfl,th,q⟩))))) (λ_=>?_) (λh=>?_)
  .exact⟨by decide,k _ (ak.refl H)⟩
  rw[YV,YI,YI]at h;cases wv with
  |int wi=>
   cases hv with
   |int hi=>
    have hw:=Sa h.1;have hh:=Sa h.2;have m1:wi*hi<=8*8:=Yz hw.2 hh.2 (by omega) (by omega);have bad:(decide (1<=wi/\wi<=8)&&decide (1<=hi/\hi<=8)&&ko H dv (wi*hi))=false:=bad;rw[R6 hw,R6 hh]at bad;have bad:ko H dv (wi*hi)=false:=bad;refine cF (λb H'=>b=true/\ak H H') (λQ q=>eF (af ac (af (iE ac ac (.inl ⟨by omega,by omega⟩)) aC)) ⟨dv,wi*hi,rfl,td,by omega,λH' s=>?_⟩) (λH1 w=>?_) (λH1 w=>nomatch w.1)
    .rw[bad];exact q _ _ ⟨rfl,s⟩
    .exact⟨by decide,k _ w.2⟩
   |_=>exact Sc h.2 (by simp[amongB])
  |_=>exact Sc h.1 (by simp[amongB])
end
def bM.or2(F:bM P w K mg R4 fM k f fd ps sp)(G:bM P w K mg R4 (jb P w) k f fd ps sp'):bM P w K mg R4 (jb P w) k f fd ps (λvs H Q E=>sp vs H Q E0\/sp' vs H Q E):=
 ⟨λvs H Q E q=>q.elim (F.len vs H Q E0) (G.len vs H Q E),λA R5 s H args us vs Q E hr he hb hv hs=>by
  rcases hs with hs|hs
  .refine S7 (F.run A R5 s H args us vs Q E0 hr he hb hv hs) λr s' z=>?_;cases r with
   |ok f=>cases f<;>exact z
   |error e=>exact z.elim
  .exact G.run A R5 s H args us vs Q E hr he hb hv hs⟩
def wd(x:Str)(i:Nat):Str:=(Sq x " ").getD i ""
def fW(w:Str):Int:=match numV w with
 | .int n=>n
 |_=>0
def CK(h:n9 w=true):numV w=.int (fW w):=by
 unfold n9 at h;unfold fW;cases e:numO w with
 |none=>rw[show numV w=.non by unfold numV;rw[e],R6 rfl]at h;cases h
 |some n=>rw[show numV w=.int n by unfold numV;rw[e]]
def PK(h:n9 w=true):PySem.intText? w=some (fW w):=by
 have e:=CK h;unfold numV numO at e;split at e
 .rename_i n hn;split at hn
  .rw[hn];exact Se some (V.int.inj e)
  .cases hn
 .cases e
def pv(f w:Str):V:=if f="number"then .int (fW w)else .str w
def EV(h:mo f w=true):partV f w=pv f w:=by
 unfold mo at h;unfold partV pv
 by_cases h1:f="number"
 .rw[R9 h1]at h;rw[R9 h1,R9 h1,CK h]
 .rw[R8 h1]at h;rw[R8 h1,R8 h1]
  by_cases h2:f="letter"
  .rw[R9 h2]at h;rw[R9 h2,R9 h]
  .rw[R8 h2]at h;rw[R8 h2]
   by_cases h3:f="aim"
   .rw[R9 h3]at h;rw[R9 h3,R9 (Sa h)]
   .rw[R8 h3]at h;rw[R8 h3,R9 (Sa h)]
theorem vm:∀{fs r:List Str},okPs fs r=true->List.zipWith (λa b=>partV (iW a) (iW b)) (fs.map V.str) (r.map V.str)=List.zipWith pv fs r
 | [],[],_=>rfl
 | [],_::_,h=>by cases h
 |_::_,[],h=>by cases h
 |f::fs,w::r,h=>by have h:(mo f w&&okPs fs r)=true:=h;rw[YC]at h;show partV f w::_=pv f w::_;rw[EV h.1,vm h.2]
def ny(h:lineI x=some j):∃w0 r,Sq x " "=w0::r/\w0∈(tblL.getD j ([],[])).1/\okPs (tblL.getD j ([],[])).2 r=true/\(gOf x).2=.str w0::List.zipWith pv (tblL.getD j ([],[])).2 r:=by
 have h0:=h;unfold lineI at h;cases e:Sq x " "with
 |nil=>exact Sc e (ka _ _)
 |cons w0 r=>
  rw[e,lu]at h;obtain⟨i,h1,h2⟩:=Zb.mp h;split at h2
  .rename_i ok;obtain rfl:=Sd h2;have hm:w0∈(tblL.getD i ([],[])).1:=by unfold headI at h1;have:=List.find?_some h1;exact Sa this
   refine⟨w0,r,rfl,hm,ok,?_⟩;unfold gOf;rw[h0,e];show V.str w0::List.zipWith (λa b=>partV (iW a) (iW b)) ((tblL.getD i ([],[])).2.map V.str) (r.map V.str)=_;rw[vm ok]
  .cases h2
def nE(h:okPs [f] r=true):∃a,r=[a]/\mo f a=true:=by
 match r,h with
 | [a],h=>exact⟨a,rfl,by have h:(mo f a&&true)=true:=h;rw[YK]at h;exact h⟩
 | [],h=>cases h
 |a::b::r,h=>have h:(mo f a&&false)=true:=h;rw[YJ]at h;cases h
def pi(h:okPs (f::fs) r=true):∃a s,r=a::s/\mo f a=true/\okPs fs s=true:=by
 match r,h with
 | [],h=>cases h
 |a::s,h=>
  have h:(mo f a&&okPs fs s)=true:=h;rw[YC]at h;exact⟨a,s,rfl,h.1,h.2⟩
def mm(h:mo "number" w=true):n9 w=true:=h
def mn(h:mo "letter" w=true):letB (.str w)=true:=by rw[mo,R8 (by decide+kernel),R9 rfl]at h;exact h
def E3(h:mo "aim" w=true):w∈aimsL:=by rw[mo,R8 (by decide+kernel),R8 (by decide+kernel),R9 rfl]at h;exact Sa h
def CJ(h:mo "word" w=true):w∈cW:=by rw[mo,R8 (by decide+kernel),R8 (by decide+kernel),R8 (by decide+kernel)]at h;exact Sa h
def oW(w:Str):pv "number" w=.int (fW w):=R9 rfl
def oX(w:Str):pv "letter" w=.str w:=R8 (by decide+kernel)
def K9(w:Str):pv "aim" w=.str w:=R8 (by decide+kernel)
def EI(w:Str):pv "word" w=.str w:=R8 (by decide+kernel)
def fY(h:Sq x " "=ws)(i:Nat):wd x i=ws.getD i "":=by unfold wd;rw[h]
def sh0(h:lineI x=some 0):Sq x " "=[wd x 0,wd x 1,wd x 2]/\(gOf x).2=[.str (wd x 0),.int (fW (wd x 1)),.int (fW (wd x 2))]/\n9 (wd x 1)=true/\n9 (wd x 2)=true:=by obtain⟨w0,r,e,hm,ok,eg⟩:=ny h;obtain⟨a,s,rfl,ha,ok⟩:=pi ok;obtain⟨b,rfl,hb⟩:=nE ok;rw[eg,fY e,fY e,fY e,e];exact⟨rfl,by show[_,pv "number" a,pv "number" b]=_;rw[oW,oW];rfl,mm ha,mm hb⟩
def Rp(h:lineI x=some 1):Sq x " "=[wd x 0,wd x 1]/\(gOf x).2=[.str (wd x 0),.int (fW (wd x 1))]/\n9 (wd x 1)=true:=by obtain⟨w0,r,e,hm,ok,eg⟩:=ny h;obtain⟨a,rfl,ha⟩:=nE ok;rw[eg,fY e,fY e,e];exact⟨rfl,by show[_,pv "number" a]=_;rw[oW];rfl,mm ha⟩
def Ro(h:lineI x=some 2):Sq x " "=[wd x 0,wd x 1]/\(gOf x).2=[.str (wd x 0),.str (wd x 1)]/\letB (.str (wd x 1))=true:=by obtain⟨w0,r,e,hm,ok,eg⟩:=ny h;obtain⟨a,rfl,ha⟩:=nE ok;rw[eg,fY e,fY e,e];exact⟨rfl,by show[_,pv "letter" a]=_;rw[oX];rfl,mn ha⟩
def sA(x:Str):dI:=⟨wd x 1,wd x 0,wd x 2,fW (wd x 3),fW (wd x 4)⟩
def Rn(h:lineI x=some 3):Sq x " "=[wd x 0,wd x 1,wd x 2,wd x 3,wd x 4]/\(gOf x).2=[.str (wd x 0),.str (wd x 1),.str (wd x 2),.int (fW (wd x 3)),.int (fW (wd x 4))]/\wd x 0∈sortsL/\letB (.str (wd x 1))=true/\wd x 2∈aimsL/\n9 (wd x 3)=true/\n9 (wd x 4)=true:=by obtain⟨w0,r,e,hm,ok,eg⟩:=ny h;obtain⟨a,s,rfl,ha,ok⟩:=pi ok;obtain⟨b,s,rfl,hb,ok⟩:=pi ok;obtain⟨c,s,rfl,hc,ok⟩:=pi ok;obtain⟨d,rfl,hd⟩:=nE ok;rw[eg,fY e,fY e,fY e,fY e,fY e,e];exact⟨rfl,by show[_,pv "letter" a,pv "aim" b,pv "number" c,pv "number" d]=_;rw[oW,oW,oX,K9];rfl,hm,mn ha,E3 hb,mm hc,mm hd⟩
def sh4(h:lineI x=some 4):Sq x " "=[wd x 0,wd x 1,wd x 2]/\(gOf x).2=[.str (wd x 0),.str (wd x 1),.str (wd x 2)]/\letB (.str (wd x 1))=true/\letB (.str (wd x 2))=true:=by obtain⟨w0,r,e,hm,ok,eg⟩:=ny h;obtain⟨a,s,rfl,ha,ok⟩:=pi ok;obtain⟨b,rfl,hb⟩:=nE ok;rw[eg,fY e,fY e,fY e,e];exact⟨rfl,by show[_,pv "letter" a,pv "letter" b]=_;rw[oX,oX];rfl,mn ha,mn hb⟩
def Rl(h:lineI x=some 5):Sq x " "=[wd x 0,wd x 1]/\(gOf x).2=[.str (wd x 0),.str (wd x 1)]/\wd x 0∈endsL/\letB (.str (wd x 1))=true:=by obtain⟨w0,r,e,hm,ok,eg⟩:=ny h;obtain⟨a,rfl,ha⟩:=nE ok;rw[eg,fY e,fY e,e];exact⟨rfl,by show[_,pv "letter" a]=_;rw[oX];rfl,hm,mn ha⟩
def Rk(h:lineI x=some 6):Sq x " "=[wd x 0,wd x 1]/\(gOf x).2=[.str (wd x 0),.str (wd x 1)]/\wd x 1∈cW:=by obtain⟨w0,r,e,hm,ok,eg⟩:=ny h;obtain⟨a,rfl,ha⟩:=nE ok;rw[eg,fY e,fY e,e];exact⟨rfl,by show[_,pv "word" a]=_;rw[EI];rfl,CJ ha⟩
def selJ(ls:List Str)(j:Nat):List Str:=ls.filter λx=>decide (lineI x=some j)
def fG(h:x∈selJ ls j):x∈ls/\lineI x=some j:=by have:=Xl.mp h;exact⟨this.1,Sa this.2⟩
theorem Bw:∀{at_:Nat}{L:Int}{ss:List (Option Nat)},bD at_ L ss=none->∀o∈ss,o≠none
 |_,_,[],_,_,h=>by cases h
 |_,_,none::_,h,_,_=>by cases h
 |at_,L,some i::r,h,o,ho=>by
  rw[bD]at h;split at h
  .cases h
  .rcases Wn.mp ho with rfl|ho
   .intro z;cases z
   .exact Bw h o ho
theorem OO:∀{at_:Nat}{L:Int}{ss:List (Option Nat)},bD at_ L ss=none->L=6\/some 6∈ss
 |at_,L,[],h=>by
  rw[bD]at h;split at h
  .rename_i e;exact .inl e
  .cases h
 |_,_,none::_,h=>by cases h
 |at_,L,some i::r,h=>by
  rw[bD]at h;split at h
  .cases h
  .rcases OO h with e|e
   .have:i=6:=by omega
    subst this;exact .inr (Wv ..)
   .exact .inr (Wy _ e)
def Re(h:bD 0 (-1) ss=none):∃r,ss=some 0::r:=by
 match ss,h with
 | [],h=>rw[bD,R8 (by decide)]at h;cases h
 |none::_,h=>cases h
 |some i::r,h=>
  rw[bD]at h;split at h
  .cases h
  .rename_i c;simp only[YN,not_or,bne_iff_ne,ne_eq,Decidable.not_not]at c;have:i=0:=by have c1:=c.1;rw[decide_eq_decide]at c1;have:=c1.mpr rfl;omega
   exact⟨r,by rw[this]⟩
def Eu(h:bD 0 (-1) (ls.map lineI)=none)(j:Nat):((ls.map gOf).filter λg=>decide (g.1=j)).map (·.2)=(selJ ls j).map λx=>(gOf x).2:=by
 rw[XR,Ws];have:ls.filter ((λg:Nat×List V=>decide (g.1=j))∘gOf)=selJ ls j:=by
  unfold selJ;refine Yb λx hx=>?_;show decide ((gOf x).1=j)=decide (lineI x=some j);have hn:=Bw h (lineI x) (Wo.mpr ⟨x,hx,rfl⟩);cases e:lineI x with
  |none=>exact Sc e hn
  |some i=>
   have:(gOf x).1=i:=by unfold gOf;rw[e];rfl
   rw[this,decide_eq_decide];exact⟨λz=>by rw[z],λz=>Sd z⟩
 rw[this];rfl
def J0(h:bD 0 (-1) (ls.map lineI)=none):∃x r,selJ ls 0=x::r:=by
 obtain⟨r,e⟩:=Re h
 match ls,e with
 |x::t,e=>
  have e1:=(List.cons.inj e).1;refine⟨x,selJ t 0,?_⟩;unfold selJ;rw[WR,R9 (R6 e1)]
def B7(h:bD 0 (-1) (ls.map lineI)=none):∃x r,selJ ls 6=x::r:=by
 rcases OO h with e|e
 .cases e
 .obtain⟨x,hx,e⟩:=Wo.mp e;have hm:x∈selJ ls 6:=Xl.mpr ⟨hx,R6 e⟩;cases e2:selJ ls 6 with
  |nil=>rw[e2]at hm;cases hm
  |cons y r=>exact⟨y,r,rfl⟩
def AD(ls:List Str)(j:Nat):oj ls (j:Int)=(selJ ls j).map λx=>Sq x " ":=by
 unfold oj selJ;rw[XR];refine Se (List.map _) (Yb λx _=>?_);show decide (jR (Sq x " ")=.int (j:Int))=decide (lineI x=some j);unfold jR lineI;cases sortI (Sq x " ")with
 |none=>simp
 |some i=>
  rw[decide_eq_decide];exact⟨λz=>by have:=V.int.inj z;rw[show i=j by omega],λz=>by rw[Sd z]⟩
def ue{zs:List (Z1×List V)}{i:Nat}(hl:Ev tl σ H (.ref l))(e:H l=some (.lst (zs.map λz=>V.ref z.1)))(hz:∀z∈zs,H z.1=some (.lst z.2))(hi:∀z∈zs,i<z.2.length)(hn:zs.length<=1000)(q:∀d,H d=none->Q (.ref d) (upd H d (.lst (zs.map λz=>z.2.getD i .non)))):tComp (iS K tl) (gName 0) gJ (nM K (cc 0) (tC (.int (i:Int)))) [none] σ H Q:=by
 refine fH hl (aV.of e) (by rw[Wm,Sw];omega) rfl (λ_=>true) (λv=>(match lstOf H v with|some xs=>xs.getD i .non|none=>.non)) (λx hx=>fE) (λx hx _=>?_) (λd hd=>?_)
 .obtain⟨z,hm,rfl⟩:=Wo.mp hx;refine bP ac ar (.inl (aV.of (hz z hm))) (bK ?_);rw[iX (hz z hm)];show _=some (z.2.getD i .non);rw[WD,Wp (hi z hm)];rfl
 .have e2:(((zs.map λz=>V.ref z.1).filter λ_=>true).map λv=>(match lstOf H v with|some xs=>xs.getD i .non|none=>V.non))=zs.map λz=>z.2.getD i .non:=by
   rw[WP.mpr λ_ _=>rfl,Ws];refine WK λz hm=>?_;show(match lstOf H (.ref z.1)with|some xs=>xs.getD i .non|none=>V.non)=_
   rw[iX (hz z hm)]
  rw[e2];exact q d hd
def vW{zs:List (Z1×List V)}{F:List V->List V}(hl:Ev tl σ H (.ref l))(e:H l=some (.lst (zs.map λz=>V.ref z.1)))(hn:zs.length<=1000)(he:∀z∈zs,∀H',ak H H'->∀Q:VK,(∀p,H' p=none->Q (.ref p) (upd H' p (.tup (F z.2))))->te [oR z.1] H' Q)(q:∀d H'(ps:List Z1),ps.length=zs.length->(∀(i:Nat)(z:Z1×List V)(p:Z1),zs[i]? =some z->ps[i]? =some p->H' p=some (.tup (F z.2)))->ak H H'->H' d=none->Q (.ref d) (upd H' d (.lst (ps.map V.ref)))):tComp (iS K tl) (gName 0) gJ te [none] σ H Q:=by
 refine zD (hl _ ⟨l,rfl,⟨_,aV.of e⟩,?_⟩);refine iF zs.length (λi ys σ' H'=>ak H H'/\(∃v,σ'=[v])/\∃ps:List Z1,ys=ps.map V.ref/\ps.length=i/\∀(j:Nat)(z:Z1×List V)(p:Z1),zs[j]? =some z->ps[j]? =some p->H' p=some (.tup (F z.2))) (by rw[Sw];omega) ?_ ?_ ?_ ?_ ?_ ?_
 .rintro i ys σ' H' ⟨_,_,ps,rfl,hl,_⟩;rw[Wm];omega
 .rintro i ys σ' H' ⟨s,_⟩ hi;exact⟨_,_,aV.of (s _ _ e),Wp (by rw[Wm];exact hi)⟩
 .rintro ys σ' H' ⟨s,_⟩;exact⟨_,aV.of (s _ _ e),by rw[Wm];exact Yd _⟩
 .exact⟨ak.refl H,⟨_,rfl⟩,[],rfl,rfl,λj z p _ h=>by simp at h⟩
 .rintro i ys _ H' x H2 hi ⟨s,⟨v0,rfl⟩,ps,rfl,hl,hq⟩ ⟨rfl,hy⟩ Kt Kf ht hf;have ey:=hy _ (aV.of (s _ _ e));rw[Wr,Wp hi]at ey;obtain rfl:V.ref zs[i].1=x:=Sd ey;simp only[gName,gJ,W4,if_true];refine he zs[i] (WV hi) H2 s _ λp hp=>?_;have sl:=(ak.refl H2).upd (o:=.tup (F zs[i].2)) hp;refine ht _ _ _ ⟨s.trans sl,⟨_,rfl⟩,ps++[p],by rw[WA];rfl,by rw[Wq];show _+1=_;omega,λj z p' hz hj=>?_⟩
  by_cases c:j<ps.length
  .rw[W3 c]at hj;exact sl _ _ (hq j z p' hz hj)
  .rw[Xb (by omega)]at hj;have e0:j - ps.length=0:=by have:=(Wz.mp hj).1;simp only[Wx,W5]at this;omega
   rw[e0]at hj;obtain rfl:p=p':=Sd hj;have ej:j=i:=by omega
   subst ej;rw[Wp hi]at hz;obtain rfl:=Sd hz;exact aj
 .rintro ys σ' H' d ⟨s,_,ps,rfl,hl,hq⟩ hd;exact q d H' ps hl hq s hd
def Bj.get{K:Frag}{H:Hp}{q:Z1}{ls:List Z1}{gs:List (Nat×List V)}(F:Bj H q ls gs){j:Nat}{so:Str}(hj:orderL[j]? =some so):∃(l:Z1)(zs:List (Z1×List V)),(∀{td:TE}{σ:L2.St}{H':Hp},ak H H'->Ev td σ H' (.ref q)->Ev (BL td (tC (.str so))) σ H' (.ref l))/\H l=some (.lst (zs.map λz=>V.ref z.1))/\zs.map (·.2)=(gs.filter λg=>decide (g.1=j)).map (·.2)/\∀z∈zs,H z.1=some (.lst z.2):=by
 have j7:j<ls.length:=by rw[F.len];exact(Wz.mp hj).1
 obtain⟨l,hl⟩:∃l,ls[j]? =some l:=⟨_,Wp j7⟩;obtain⟨zs,a,b,c⟩:=F.grp j l hl;exact⟨l,zs,λs he Q k=>he _ (ar _ ⟨q,.ref l,rfl,by rw[<-tP wR hj hl];exact xZ.k (k:=.inr so) (s _ _ F.dict),k⟩),a,b,λz hz=>(c z hz).1⟩
def tM{α:Type}{zs:List (Z1×List V)}{xs:List α}{f:α->List V}(h:zs.map (·.2)=xs.map f)(g:List V->V):(zs.map λz=>g z.2)=xs.map λx=>g (f x):=by have:=Se (List.map g) h;rw[Ws,Ws]at this;exact this
def x6{α:Type}{H:Hp}{zs:List (Z1×List V)}{xs:List α}{f:α->List V}{F:List V->List V}{ps:List Z1}(h:zs.map (·.2)=xs.map f)(hl:ps.length=zs.length)(hp:∀(i:Nat)(z:Z1×List V)(p:Z1),zs[i]? =some z->ps[i]? =some p->H p=some (.tup (F z.2))):(xs.zip ps).map (·.1)=xs/\(xs.zip ps).map (λz=>V.ref z.2)=ps.map V.ref/\∀z∈xs.zip ps,H z.2=some (.tup (F (f z.1))):=by
 have l2:xs.length=ps.length:=by have:=Se List.length h;rw[Wm,Wm]at this;omega
 refine⟨List.map_fst_zip (by omega),?_,λz hz=>?_⟩
 .have:(xs.zip ps).map (λz=>V.ref z.2)=((xs.zip ps).map (·.2)).map V.ref:=by rw[Ws];rfl
  rw[this,List.map_snd_zip (by omega)]
 .obtain⟨i,hi⟩:=W0 hz;rw[XZ]at hi;have hx:(zs.map (·.2))[i]? =some (f z.1):=by rw[h,Wr,hi.1];rfl
  rw[Wr]at hx;cases e:zs[i]? with
  |none=>rw[e]at hx;cases hx
  |some y=>
   rw[e]at hx;have:=hp i y z.2 e hi.2;rw[show y.2=f z.1 from Sd hx]at this;exact this
def qT(s:ak H H1)(nx:H1 x=none)(nd:H1 dx=none)(sb:SameBut x (upd (upd H1 dx o1) x o2) H'):ak H H':=λb o e=>by have e1:=s b o e;have nbx:=ay e1 nx;have nbd:=ay e1 nd;exact sb b o (by rw[av nbx,av nbd];exact e1) nbx
def Pr(h:t σ H λvs H1=>∀x dx,H1 x=none->H1 dx=none->dx≠x->sp (.ref x::vs) (upd (upd H1 dx (.own x)) x (.ins C dx [])) (λv H2=>v=.non/\Q (.ref x) H2) EX):Qg EX C sp t σ H Q:=h
def Be(wi hi:Int)(hs:List Int):Bool:=decide (1<=wi/\wi<=8)&&decide (1<=hi/\hi<=8)&&(decide ((hs.length:Int)<wi*hi)&&hs.all (λh=>decide (0<=h/\h<=wi*hi - 1))&&decide hs.Nodup)
def MM(ks:List Str)(us:List dI)(ts es:List (Str×Str)):Bool:=(decide (1<=ks.length/\ks.length<=6)&&ks.all (λk=>letB (.str k))&&decide ks.Nodup)&&((decide (us.length<=24)&&us.all (λu=>jV u.vs ks))&&(((decide (ts.length<=6)&&ts.all (λz=>decide (z.1∈ks)&&decide (z.2∈ks)))&&(!(ts.any λz=>decide (z.2∈ts.map (·.1)))&&decide ((ts.map (·.1)).Nodup)))&&(decide (es.length<=6)&&es.all (λz=>decide (z.1∈endsL)&&decide (z.2∈ks)))))
def Bd(e:H d=some (.lst (hs.map V.int))):xQ H (.int wi) (.int hi) (.ref d)=Be wi hi hs:=by
 unfold xQ ko Be;rw[iX e];dsimp only;have e2:∀f:V->Int,(∀i,f (.int i)=i)->(hs.map V.int).map f=hs:=λf hf=>by rw[Ws];exact(WK λx _=>hf x).trans (WZ _)
 rw[Wm,WQ,e2 _ (λ_=>rfl)];rfl
theorem mJ{α:Type}{p q:α->Bool}:∀{l:List α},(∀x∈l,p x=q x)->l.all p=l.all q
 | [],_=>rfl
 |a::l,h=>by rw[WE,WE,h a (Wv ..),mJ λx hx=>h x (Wy _ hx)]
theorem zK{α:Type}{p q:α->Bool}:∀{l:List α},(∀x∈l,p x=q x)->l.any p=l.any q
 | [],_=>rfl
 |a::l,h=>by rw[WS,WS,h a (Wv ..),zK λx hx=>h x (Wy _ hx)]
section
variable{H:Hp}{d:Z1}{ks A B:List Str}
def AG(e:H d=some (.lst (ks.map V.str))):kindsB H (.ref d)=(decide (1<=ks.length/\ks.length<=6)&&ks.all (λk=>letB (.str k))&&decide ks.Nodup):=by unfold kindsB;rw[iX e];dsimp only;rw[Wm,WQ,Ws];have e2:ks.map (iL∘V.str)=ks:=(WK λx _=>rfl).trans (WZ _);rw[e2];rfl
def CZ(e:H d=some (.lst (ks.map V.str))):pE H (.ref d)=ks:=by unfold pE;rw[iX e];dsimp only;rw[Ws];exact(WK λx _=>rfl).trans (WZ _)
def Ai(e:H d=some (.lst (gx us)))(R:ic H us):rulesB H (.ref d) ks=(decide ((us.map (·.1)).length<=24)&&(us.map (·.1)).all (λu=>jV u.vs ks)):=by unfold rulesB;rw[iX e];dsimp only;rw[Wm,Wm,WQ,WQ];congr 1;refine mJ λz hz=>?_;show gn H (.ref z.2) ks=_;unfold gn;rw[rP (R z hz)];rfl
def qO(e:H d=some (.lst (dn zs)))(R:gZ H zs):pairsB H (.ref d) A B=(decide ((zs.map (·.1)).length<=6)&&(zs.map (·.1)).all (λz=>decide (z.1∈A)&&decide (z.2∈B))):=by unfold pairsB;rw[iX e];dsimp only;rw[Wm,Wm,WQ,WQ];congr 1;refine mJ λz hz=>?_;show gz H (.ref z.2) A B=_;unfold gz;rw[rP (R z hz)];rfl
def zT(e:H d=some (.lst (dn zs)))(R:gZ H zs):turnsB H (.ref d) ks=((decide ((zs.map (·.1)).length<=6)&&(zs.map (·.1)).all (λz=>decide (z.1∈ks)&&decide (z.2∈ks)))&&(!((zs.map (·.1)).any λz=>decide (z.2∈(zs.map (·.1)).map (·.1)))&&decide (((zs.map (·.1)).map (·.1)).Nodup))):=by
 unfold turnsB;rw[qO e R,iX e];dsimp only;have e1:(dn zs).map (eO H)=(zs.map (·.1)).map (·.1):=by rw[Ws,Ws];refine WK λz hz=>?_;show eO H (.ref z.2)=_;unfold eO;rw[rP (R z hz)];rfl
 rw[e1,Xh,Xh];congr 2;refine Se Bool.not (zK λz hz=>?_);show decide (jB H (.ref z.2)∈_)=_;unfold jB;rw[rP (R z hz)];rfl
def Di(ek:H kd=some (.lst (ks.map V.str)))(er:H rd=some (.lst (gx us)))(R:ic H us)(et:H td=some (.lst (dn ts)))(RT:gZ H ts)(ee:H ed=some (.lst (dn es)))(RE:gZ H es)(hs:st∈cW):vM H (.ref kd) (.ref rd) (.ref td) (.ref ed) (.str st)=MM ks (us.map (·.1)) (ts.map (·.1)) (es.map (·.1)):=by unfold vM MM;rw[AG ek,CZ ek,Ai er R,zT et RT,qO ee RE,show wordB (.str st) cW=true from R6 hs,YK]
def Ey(h:H d=some (.lst (gx us)))(R:ic H us)(g:∀z∈us,z.1.kd.length<=1000/\z.1.so.length<=1000/\z.1.ai.length<=1000):fB H 2 (.ref d):=by
 refine jX.n (jX.lst h λx hx=>?_);obtain⟨z,hz,rfl⟩:=Wo.mp hx;refine jX.tup (R z hz) λy hy=>?_;obtain⟨g1,g2,g3⟩:=g z hz;simp only[dI.vs,Wn,WB,or_false]at hy
 rcases hy with rfl|rfl|rfl|rfl|rfl
 .exact jX.flat g1 rfl
 .exact jX.flat g2 rfl
 .exact jX.flat g3 rfl
 .exact jX.flat trivial rfl
 .exact jX.flat trivial rfl
def E8(h:H d=some (.lst (ks.map V.str)))(g:∀k∈ks,k.length<=1000):fB H 1 (.ref d):=by refine jX.n (jX.lst h λx hx=>?_);obtain⟨c,hc,rfl⟩:=Wo.mp hx;exact jX.flat (g c hc) rfl
def vK{hs:List Int}(h:H d=some (.lst (hs.map V.int))):fB H 1 (.ref d):=by refine jX.n (jX.lst h λx hx=>?_);obtain⟨c,hc,rfl⟩:=Wo.mp hx;exact jX.flat trivial rfl
end
def RD(h:∀i,g (.int i)=i){hs:List Int}:(hs.map V.int).map g=hs:=by rw[Ws];exact(WK λx _=>h x).trans (WZ _)
def AK(C:fC P w K mg R4 "are_holes" [aR,"many"] 3 lU):fC P w K mg R4 "are_holes" [aR,"many"] 3 oH:=by
 obtain⟨f,fd,F,z1,z2,z3⟩:=C.ex;refine⟨f,fd,⟨λvs H Q E h=>by obtain⟨d,m,hs,rfl,_⟩:=h;rfl,?_⟩,z1,z2,z3⟩;have im:∀vs H Q E,oH vs H Q E->lU vs H Q E:=λvs H Q E h=>by
  obtain⟨d,m,hs,rfl,e,gd,nd,ln,m64,q⟩:=h;have hb:ko H (.ref d) m=true:=by simp only[ko,lstOf,e];rw[RD λ_=>rfl,Wm,R6 ln,R6 nd,YE,YK,WC];intro x hx;obtain⟨i,hi,rfl⟩:=Wo.mp hx;have:=gd i hi;show decide (0<=i/\i<=m - 1)=true;exact R6 (by omega)
  refine⟨.ref d,m,rfl,vK e,m64,λH' s=>?_⟩;rw[hb];exact q H' s
 exact(F.imp im).run
def wiOf(ls:List Str):Int:=fW (wd ((selJ ls 0).headD "") 1)
def hiOf(ls:List Str):Int:=fW (wd ((selJ ls 0).headD "") 2)
def mx(ls:List Str):List Int:=(selJ ls 1).map λx=>fW (wd x 1)
def pF(ls:List Str):List Str:=(selJ ls 2).map λx=>wd x 1
def lj(ls:List Str):List dI:=(selJ ls 3).map sA
def rQ(ls:List Str):List (Str×Str):=(selJ ls 4).map λx=>(wd x 1,wd x 2)
def vP(ls:List Str):List (Str×Str):=(selJ ls 5).map λx=>(wd x 0,wd x 1)
def stOf(ls:List Str):Str:=wd ((selJ ls 6).headD "") 1
def bdOf(ls:List Str):Bool:=Be (wiOf ls) (hiOf ls) (mx ls)
def gmOf(ls:List Str):Bool:=MM (pF ls) (lj ls) (rQ ls) (vP ls)
structure MB(K:Frag)(cB cG:Z1)(H:Hp)(g:Z1)(ls:List Str)(b:Z1)(hs':List Int)(us':List (dI×Z1))(ts' es':List ((Str×Str)×Z1)):Prop where
 bd:jZ K cB H b (wiOf ls) (hiOf ls) hs'
 pm:hs'.Perm (mx ls)
 gm:kA cG H g b ((pF ls).map V.str) (gx us') (dn ts') (dn es') (stOf ls)
 um:us'.map (·.1)=lj ls
 ur:ic H us'
 tm:ts'.map (·.1)=rQ ls
 tr:gZ H ts'
 em:es'.map (·.1)=vP ls
 er:gZ H es'
def yt(K:Frag)(cB cG cL cN cM:Z1):Sp:=λvs H Q E=>∃d ls,vs=[.ref d]/\H d=some (.lst (ls.map V.str))/\(∀x∈ls,x.length<=100)/\ls.length<=400/\
 (∀at_,bD 0 (-1) (ls.map lineI)=some at_->∀dx H',H' dx=some (.xd [("at",.int (at_:Int))])->ak H H'->E (.ref cL) (some dx) H')/\
 (bD 0 (-1) (ls.map lineI)=none->bdOf ls=false->∀H',ak H H'->E (.ref cN) none H')/\
 (bD 0 (-1) (ls.map lineI)=none->bdOf ls=true->gmOf ls=false->∀H',ak H H'->E (.ref cM) none H')/\
 (bD 0 (-1) (ls.map lineI)=none->bdOf ls=true->gmOf ls=true->∀g b hs' us' ts' es' H',MB K cB cG H' g ls b hs' us' ts' es'->ak H H'->Q (.ref g) H')
structure CGo(P:Ss)(w:World)(K:Frag)(mg:Sf)(R4:SD)(cB cG cL cN cM:Z1):Prop where
 sorted_out:wf P w K mg R4 "sorted_out" ["lines"] 4 (qH cL)
 Board:Qo P w K mg R4 "Board" cB ["self","wide","high","holes"] 4 (λvs H Q E=>yx K cB vs H Q E0\/uO cB cN vs H Q E)
 Game:Qo P w K mg R4 "Game" cG ["self",txboard,txkinds,"rules","turns","ends",bU] 6 (λvs H Q E=>yu K cG vs H Q E0\/uN cG cM vs H Q E)
def FJ(h:Be wi hi hs=true):(1<=wi/\wi<=8)/\(1<=hi/\hi<=8)/\(∀h∈hs,0<=h/\h<wi*hi)/\hs.Nodup/\(hs.length:Int)<wi*hi:=by unfold Be at h;simp only[YC,decide_eq_true_eq,WC]at h;obtain⟨⟨h1,h2⟩,⟨h3,h4⟩,h5⟩:=h;exact⟨h1,h2,λx hx=>by have:=h4 x hx;omega,h5,h3⟩
def zG(h:Av t σ H vs)(q:sp vs H Q EX):DS EX sp t σ H Q:=h _ q
def wj(h:x.length<=100):(wd x i).length<=100:=by
 unfold wd;rw[WD];cases e:(Sq x " ")[i]? with
 |none=>decide
 |some z=>exact Ye (Nb.part (Ww e)) h
def Qy{i j:Nat}{zs:List (Z1×List V)}{xs:List Str}{f:Str->List V}{pr:Str->Str×Str}{n:Nat}(m:zs.map (·.2)=xs.map f)(hn:∀x,(f x).length=n)(hi:i<n)(hj:j<n)(hf:∀x:Str,[(f x).getD i .non,(f x).getD j .non]=[V.str (pr x).1,V.str (pr x).2])(hg:Ev td σ H0 (.ref l))(e:H0 l=some (.lst (zs.map λz=>V.ref z.1)))(a:∀z∈zs,H0 z.1=some (.lst z.2))(ln:zs.length<=1000)(z:∀x xs' H',H' x=some (.lst (dn xs'))->xs'.map (·.1)=xs.map pr->gZ H' xs'->ak H0 H'->Q (.ref x) H'):tComp (iS K td) (gName 0) gJ (zX (bg (nM K (cc 0) (tC (.int (i:Int)))) (bg (nM K (cc 0) (tC (.int (j:Int)))) cw))) [none] σ H0 Q:=by
 refine vW (F:=λp=>[p.getD i .non,p.getD j .non]) hg e ln (λy hy H' s Q q=>?_) λdl H' ps lp hp s hdl=>?_
 .have l5:y.2.length=n:=by have hm:y.2∈zs.map (·.2):=Wo.mpr ⟨y,hy,rfl⟩;rw[m]at hm;obtain⟨x,_,e⟩:=Wo.mp hm;rw[<-e];exact hn x
  have ey:=s _ _ (a y hy);have ix:∀i:Nat,i<n->Ev (nM K (cc 0) (tC (.int (i:Int)))) [some (.ref y.1)] H' (y.2.getD i .non):=λi hi=>bP ac ar (.inl (aV.of ey)) (bK (by rw[WD,Wp (by omega)];rfl));exact mO (ix i hi) (ix j hj) q
 .obtain⟨c1,c2,c3⟩:=x6 (F:=λp=>[p.getD i .non,p.getD j .non]) m lp hp;have sd:=(ak.refl H').upd (o:=.lst (ps.map V.ref)) hdl;refine z dl ((xs.zip ps).map λy=>(pr y.1,y.2)) _ (by rw[aj];show _=some (HO.lst (((xs.zip ps).map λy=>(pr y.1,y.2)).map λz=>V.ref z.2));rw[Ws];exact Se (λl=>some (HO.lst l)) c2.symm) ?_ (λy hy=>?_) (s.trans sd)
  .rw[Ws];have:(xs.zip ps).map ((λz:(Str×Str)×Z1=>z.1)∘λy=>(pr y.1,y.2))=((xs.zip ps).map (·.1)).map pr:=by rw[Ws];rfl
   rw[this,c1]
  .obtain⟨y',hy',rfl⟩:=Wo.mp hy;have:=sd _ _ (c3 y' hy');rw[hf y'.1]at this;exact this
section
def w5{f cB cG cL cN cM:Z1}{fd:SU}(F:fg K "game_of" "game_of" d0 f fd)(T:Txt mg aS aA aE aW aO aF)(C:CGo P w K mg R4 cB cG cL cN cM):bM P w K mg R4 (jb P w) 8 f fd ["lines"] (yt K cB cG cL cN cM):=by
 refine F.okX2 eJ (λvs H Q E h=>?_) (λcdv A R5 s H vs Q E hr h=>?_)
 .obtain⟨d,ls,rfl,_⟩:=h;rfl
 .obtain⟨d,ls,rfl,hd,hln,hgl,kx,kb,kg,k⟩:=h;have hu:=LV hr;refine⟨_,(ae (aw 1 eJ.nd (y7 C.sorted_out kl hr (bW bh))) (ae (aw 2 eJ.nd (cV K (nH hu cA aI) ag)) (ae (aw 3 eJ.nd (J9 C.Board kl hr (fU (cV K dL ag) (cE (cV K dL ag) (eN (cj (N:=["parts"]) (src:=[none]) (ao d0) ["lines","found","size",txboard,txkinds,"rules","turns","ends"]) (mw K (nH hu cA aI)) (λ_ _ _=>(bu (i:=0) ["parts"])) (λ_ _ _=>bI) (λ_ _ _=>(cV K bh ag))))))) (ae (ie (i:=4) rfl (cj (N:=["parts"]) (src:=[none]) (ao d0) ["lines","found","size",txboard,txkinds,"rules","turns","ends"]) (mw K (nH hu cA aI)) (λ_ _ _=>(bu (i:=0) ["parts"])) (λ_ _ _=>bI) (λ_ _ _=>(cV K bh ag)) eJ.nd rfl (Or.inl rfl) rfl (Or.inl rfl)) (ae (ie (i:=5) rfl (cj (N:=["parts"]) (src:=[none]) (ao d0) ["lines","found","size",txboard,txkinds,"rules","turns","ends"]) (mw K (nH hu cA aI)) (λ_ _ _=>(bu (i:=0) ["parts"])) (λ_ _ _=>bI) (λ_ _ _=>(eM (fU (cV K bh ag) (fU (cV K bh ag) (fU (cV K bh ag) (cE (cV K bh ag) (cV K bh ag))))))) eJ.nd rfl (Or.inl rfl) rfl (Or.inl rfl)) (ae (ie (i:=6) rfl (cj (N:=["parts"]) (src:=[none]) (ao d0) ["lines","found","size",txboard,txkinds,"rules","turns","ends"]) (mw K (nH hu cA aI)) (λ_ _ _=>(bu (i:=0) ["parts"])) (λ_ _ _=>bI) (λ_ _ _=>(eM (cE (cV K bh ag) (cV K bh ag)))) eJ.nd rfl (Or.inl rfl) rfl (Or.inl rfl)) (ae (ie (i:=7) rfl (cj (N:=["parts"]) (src:=[none]) (ao d0) ["lines","found","size",txboard,txkinds,"rules","turns","ends"]) (mw K (nH hu cA aI)) (λ_ _ _=>(bu (i:=0) ["parts"])) (λ_ _ _=>bI) (λ_ _ _=>(eM (cE (cV K bh ag) (cV K bh ag)))) eJ.nd rfl (Or.inl rfl) rfl (Or.inl rfl)) (am (aG (J9 C.Game kl hr (fU (cv 3) (fU (cv 4) (fU (cv 5) (fU (cv 6) (cE (cv 7) (cV K (cV K (nH hu cA aI) ag) ag)))))))))))))))),?_⟩;show cm _ _ _ [oR d,none,none,none,none,none,none,none] H;refine ba (λv H'=>bD 0 (-1) (ls.map lineI)=none/\∃(q:Z1)(as:List Z1),v=.ref q/\Bj H' q as (ls.map gOf)/\ak H H') (λQ z=>zG (af ac aC) ⟨d,ls,rfl,hd,hln,hgl,kx,λw q as H' F n s=>z _ _ ⟨w,q,as,rfl,F,s⟩⟩) ?_;rintro _ H1 ⟨hw,q,as,rfl,F1,s1⟩;obtain⟨l0,z0,g0,e0,m0,a0⟩:=F1.get (K:=K) (j:=0) (so:=txboard) rfl;obtain⟨l1,z1,g1,e1,m1,a1⟩:=F1.get (K:=K) (j:=1) (so:="hole") rfl;obtain⟨l2,z2,g2,e2,m2,a2⟩:=F1.get (K:=K) (j:=2) (so:="kind") rfl;obtain⟨l3,z3,g3,e3,m3,a3⟩:=F1.get (K:=K) (j:=3) (so:="rule") rfl;obtain⟨l4,z4,g4,e4,m4,a4⟩:=F1.get (K:=K) (j:=4) (so:="turn") rfl;obtain⟨l5,z5,g5,e5,m5,a5⟩:=F1.get (K:=K) (j:=5) (so:="end") rfl;obtain⟨l6,z6,g6,e6,m6,a6⟩:=F1.get (K:=K) (j:=6) (so:=bU) rfl;have selL:∀j,(selJ ls j).length<=400:=λj=>Ye (WW _ _) hgl;have shp:∀{j:Nat}{f:Str->List V},(∀x,lineI x=some j->(gOf x).2=f x)->((ls.map gOf).filter λg=>decide (g.1=j)).map (·.2)=(selJ ls j).map f:=λ{j f} hf=>(Eu hw j).trans (WK λx hx=>hf x (fG hx).2);rw[shp (f:=λx=>[.str (wd x 0),.int (fW (wd x 1)),.int (fW (wd x 2))]) λx h=>(sh0 h).2.1]at m0;rw[shp (f:=λx=>[.str (wd x 0),.int (fW (wd x 1))]) λx h=>(Rp h).2.1]at m1;rw[shp (f:=λx=>[.str (wd x 0),.str (wd x 1)]) λx h=>(Ro h).2.1]at m2;rw[shp (f:=λx=>[.str (wd x 0),.str (wd x 1),.str (wd x 2),.int (fW (wd x 3)),.int (fW (wd x 4))]) λx h=>(Rn h).2.1]at m3;rw[shp (f:=λx=>[.str (wd x 0),.str (wd x 1),.str (wd x 2)]) λx h=>(sh4 h).2.1]at m4;rw[shp (f:=λx=>[.str (wd x 0),.str (wd x 1)]) λx h=>(Rl h).2.1]at m5;rw[shp (f:=λx=>[.str (wd x 0),.str (wd x 1)]) λx h=>(Rk h).2.1]at m6;have lenOf:∀{α:Type}{zs:List (Z1×List V)}{xs:List α}{f:α->List V},zs.map (·.2)=xs.map f->zs.length=xs.length:=λh=>by have:=Se List.length h;rw[Wm,Wm]at this;exact this
  have first:∀{zs:List (Z1×List V)}{xs:List Str}{f:Str->List V},zs.map (·.2)=xs.map f->(∃x r,xs=x::r)->∃b r,zs=(b,f (xs.headD ""))::r:=λ{zs xs f} h ⟨x,r,e⟩=>by
   subst e
   match zs,h with
   |(b,p)::t,h=>
    have h:p::_=f x::_:=h;exact⟨b,t,by injection h with h;rw[h];rfl⟩
  obtain⟨b0,r0,rfl⟩:=first m0 (J0 hw);obtain⟨b6,r6,rfl⟩:=first m6 (B7 hw);have eb0:=a0 _ (Wv ..);have eb6:=a6 _ (Wv ..);have lf:∀{α:Type}{zs:List (Z1×List V)}{xs:List α}{f:α->List V}{n:Nat},zs.map (·.2)=xs.map f->(∀x,(f x).length=n)->∀z∈zs,z.2.length=n:=λ{α zs xs f n} h hn z hz=>by have hm:z.2∈zs.map (·.2):=Wo.mpr ⟨z,hz,rfl⟩;rw[h]at hm;obtain⟨x,_,e⟩:=Wo.mp hm;rw[<-e];exact hn x
  refine cq (i:=2) (v:=.ref b0) (bP (g0 (ak.refl H1) ac) ar (.inl (aV.of e0)) (bK (j:=0) rfl)) ?_;show cm _ _ _ [oR d,oR q,oR b0,none,none,none,none,none] H1;refine ba (λv H'=>bdOf ls=true/\∃(x:Z1)(hs':List Int),v=.ref x/\hs'.Perm (mx ls)/\jZ K cB H' x (wiOf ls) (hiOf ls) hs'/\ak H1 H') (λQ z=>?_) ?_
  .refine Pr (bo (bP (x:=.int (wiOf ls)) ac ar (.inl (aV.of eb0)) rfl) (bo (bP (x:=.int (hiOf ls)) ac ar (.inl (aV.of eb0)) rfl) (dM (ue (i:=1) (g1 (ak.refl H1) ac) e1 a1 (λy hy=>by rw[lf (n:=2) m1 (λ_=>rfl) y hy];decide) (by rw[lenOf m1];have:=selL 1;omega) λdl hdl=>de λx dx nx ndx ne=>?_))));have ed:(upd H1 dl (.lst (z1.map λz=>z.2.getD 1 .non))) dl=some (.lst ((mx ls).map V.int)):=by rw[aj,tM m1 λp=>p.getD 1 .non];unfold mx;rw[Ws];rfl
   have sd:=(ak.refl H1).upd (o:=.lst (z1.map λz=>z.2.getD 1 .non)) hdl;generalize upd H1 dl (.lst (z1.map λz=>z.2.getD 1 .non))=H2 at ed sd nx ndx ⊢;have s7:ak H2 (upd (upd H2 dx (.own x)) x (.ins cB dx [])):=((ak.refl H2).upd ndx).upd (by rw[av (Ne.symm ne)];exact nx);have ed7:=s7 _ _ ed;cases hb:bdOf ls with
   |true=>
    obtain⟨⟨w1,w8⟩,⟨h1,h8⟩,hh,hnd,hlt⟩:=FJ hb;exact .inl ⟨x,dl,dx,wiOf ls,hiOf ls,mx ls,rfl,aj,ed7,w1,w8,h1,h8,hh,hnd,hlt,λhs' H4 pm O sb=>⟨rfl,z _ _ ⟨hb,x,hs',rfl,pm,O,qT sd nx ndx sb⟩⟩⟩
   |false=>
    exact .inr ⟨x,dx,.int (wiOf ls),.int (hiOf ls),.ref dl,rfl,aj,trivial,trivial,vK ed7,(Bd ed7).trans hb,λH' s'=>kb hw hb H' (((s1.trans sd).trans s7).trans s')⟩
  rintro _ H2 ⟨hb,b,hs',rfl,pm,O2,s2⟩;refine ba (λv H'=>∃x,v=.ref x/\H' x=some (.lst ((pF ls).map V.str))/\ak H2 H') (λQ z=>?_) ?_
  .refine ue (i:=1) (g2 s2 ac) (s2 _ _ e2) (λy hy=>s2 _ _ (a2 y hy)) (λy hy=>by rw[lf (n:=2) m2 (λ_=>rfl) y hy];decide) (by rw[lenOf m2];have:=selL 2;omega) λdl hdl=>z _ _ ⟨dl,rfl,?_,(ak.refl H2).upd hdl⟩;rw[aj,tM m2 λp=>p.getD 1 .non];unfold pF;rw[Ws];rfl
  rintro _ H3 ⟨kd,rfl,ek,s3⟩;have s13:=s2.trans s3;refine ba (λv H'=>∃(x:Z1)(us':List (dI×Z1)),v=.ref x/\H' x=some (.lst (gx us'))/\us'.map (·.1)=lj ls/\ic H' us'/\ak H3 H') (λQ z=>?_) ?_
  .refine vW (F:=λp=>[p.getD 1 .non,p.getD 0 .non,p.getD 2 .non,p.getD 3 .non,p.getD 4 .non]) (g3 s13 ac) (s13 _ _ e3) (by rw[lenOf m3];have:=selL 3;omega) (λy hy H' s Q q=>?_) λdl H' ps lp hp s hdl=>?_
   .have l5:=lf (n:=5) m3 (λ_=>rfl) y hy;have ey:=(s13.trans s) _ _ (a3 y hy);have ix:∀i:Nat,i<5->Ev (nM K (cc 0) (tC (.int (i:Int)))) [some (.ref y.1)] H' (y.2.getD i .non):=λi hi=>bP ac ar (.inl (aV.of ey)) (bK (by rw[WD,Wp (by omega)];rfl));exact zW (bo (ix 1 (by decide)) (bo (ix 0 (by decide)) (bo (ix 2 (by decide)) (bo (ix 3 (by decide)) (bo (ix 4 (by decide)) (de ⟨by show 5<=h9;decide,q⟩))))))
   .have m3':z3.map (·.2)=(lj ls).map λu:dI=>[V.str u.so,.str u.kd,.str u.ai,.int u.ax,.int u.up]:=by rw[m3];unfold lj;rw[Ws];rfl
    obtain⟨c1,c2,c3⟩:=x6 (F:=λp=>[p.getD 1 .non,p.getD 0 .non,p.getD 2 .non,p.getD 3 .non,p.getD 4 .non]) m3' lp hp;have sd:=(ak.refl H').upd (o:=.lst (ps.map V.ref)) hdl;exact z _ _ ⟨dl,(lj ls).zip ps,rfl,by rw[aj];exact Se (λl=>some (HO.lst l)) c2.symm,c1,λy hy=>sd _ _ (c3 y hy),s.trans sd⟩
  rintro _ H4 ⟨rd,us',rfl,er,eu,ru,s4⟩;have s14:=s13.trans s4;refine ba (λv H'=>∃(x:Z1)(ts':List ((Str×Str)×Z1)),v=.ref x/\H' x=some (.lst (dn ts'))/\ts'.map (·.1)=rQ ls/\gZ H' ts'/\ak H4 H') (λQ z=>Qy (n:=3) (pr:=λx=>(wd x 1,wd x 2)) m4 (λ_=>rfl) (by decide) (by decide) (λ_=>rfl) (g4 s14 ac) (s14 _ _ e4) (λy hy=>s14 _ _ (a4 y hy)) (by rw[lenOf m4];have:=selL 4;omega) λx xs' H' c1 c2 c3 c4=>z _ _ ⟨x,xs',rfl,c1,c2,c3,c4⟩) ?_;rintro _ H5 ⟨td,ts',rfl,et,etm,rt,s5⟩;have s15:=s14.trans s5;refine ba (λv H'=>∃(x:Z1)(es':List ((Str×Str)×Z1)),v=.ref x/\H' x=some (.lst (dn es'))/\es'.map (·.1)=vP ls/\gZ H' es'/\ak H5 H') (λQ z=>Qy (n:=2) (pr:=λx=>(wd x 0,wd x 1)) m5 (λ_=>rfl) (by decide) (by decide) (λ_=>rfl) (g5 s15 ac) (s15 _ _ e5) (λy hy=>s15 _ _ (a5 y hy)) (by rw[lenOf m5];have:=selL 5;omega) λx xs' H' c1 c2 c3 c4=>z _ _ ⟨x,xs',rfl,c1,c2,c3,c4⟩) ?_;rintro _ H6 ⟨edd,es',rfl,ee,eem,re,s6⟩;have s16:=s15.trans s6;show jx _ _ [oR d,oR q,oR b0,oR b,oR kd,oR rd,oR td,oR edd] H6;refine cr (Pr (bo ac (bo ac (bo ac (bo ac (bo ac (bo (bP (x:=.str (stOf ls)) (bP (x:=.ref b6) (g6 s16 ac) ar (.inl (aV.of (s16 _ _ e6))) (bK (j:=0) rfl)) ar (.inl (aV.of (s16 _ _ eb6))) rfl) (de λx dx nx ndx ne=>?_))))))));have s36:=(s4.trans s5).trans s6;have s7:ak H6 (upd (upd H6 dx (.own x)) x (.ins cG dx [])):=((ak.refl H6).upd ndx).upd (by rw[av (Ne.symm ne)];exact nx);have ek7:=(s36.trans s7) _ _ ek;have er7:=((s5.trans s6).trans s7) _ _ er;have ru7:=ru.same ((s5.trans s6).trans s7);have et7:=(s6.trans s7) _ _ et;have rt7:=rt.same (s6.trans s7);have ee7:=s7 _ _ ee;have re7:=re.same s7;have len1:∀{j:Nat}{x:Str}(i:Nat),x∈selJ ls j->(wd x i).length<=1000:=λi hx=>Ye (wj (hln _ (fG hx).1)) (by decide);have tk:=E8 ek7 λy hy=>by obtain⟨x',hx',rfl⟩:=Wo.mp hy;exact len1 1 hx'
  have tr:=Ey er7 ru7 λz hz=>by
   have hz':z.1∈lj ls:=by rw[<-eu];exact Wo.mpr ⟨z,hz,rfl⟩
   obtain⟨x',hx',e⟩:=Wo.mp hz';rw[<-e];exact⟨len1 1 hx',len1 0 hx',len1 2 hx'⟩
  have tt:=Cs et7 rt7 λz hz=>by
   have hz':z.1∈rQ ls:=by rw[<-etm];exact Wo.mpr ⟨z,hz,rfl⟩
   obtain⟨x',hx',e⟩:=Wo.mp hz';rw[<-e];exact⟨len1 1 hx',len1 2 hx'⟩
  have te:=Cs ee7 re7 λz hz=>by
   have hz':z.1∈vP ls:=by rw[<-eem];exact Wo.mpr ⟨z,hz,rfl⟩
   obtain⟨x',hx',e⟩:=Wo.mp hz';rw[<-e];exact⟨len1 0 hx',len1 1 hx'⟩
  have hst:stOf ls∈cW:=by
   obtain⟨x',r,e⟩:=B7 hw;have:x'∈selJ ls 6:=by rw[e];exact Wv ..
   unfold stOf;rw[e];exact(Rk (fG this).2).2.2
  have hst1:=(by decide:∀s∈cW,s.length<=1000) _ hst;have eg:=Di ek7 er7 ru7 et7 rt7 ee7 re7 hst;rw[eu,etm,eem]at eg;cases hg:gmOf ls with
  |false=>exact .inr ⟨x,dx,.ref b,.ref kd,.ref rd,.ref td,.ref edd,.str (stOf ls),rfl,aj,tk,tr,tt,te,hst1,eg.trans hg,λH' s'=>kg hw hb hg H' (((s1.trans s16).trans s7).trans s')⟩
  |true=>
   have eg:=eg.trans hg;unfold vM at eg;rw[CZ ek7,YC,YC,YC,YC]at eg;obtain⟨b1,b2,b3,b4,_⟩:=eg;refine .inl ⟨x,b,kd,rd,td,edd,dx,pF ls,_,_,_,stOf ls,rfl,aj,ek7,er7,et7,ee7,tk,tr,tt,te,b1,b2,b3,b4,hst,hst1,λH' gm sb=>⟨rfl,?_⟩⟩;have s8:=qT (ak.refl H6) nx ndx sb;exact k hw hb hg x b hs' us' ts' es' H' ⟨O2.same ((s3.trans s36).trans s8),pm,gm,eu,ru.same ((s5.trans s6).trans s8),etm,rt.same (s6.trans s8),eem,re.same s8⟩ ((s1.trans s16).trans s8)
end
def qJ(K:Frag):Sp:=λvs H Q _=>∃(a:Z1)(ns:List Int)(k m:Int),vs=[.ref a,.int k,.int m]/\aV K H a (ns.map V.int)/\0<=k/\k<=900/\1<=m/\m<=64/\
 ∀(q:Z1)(hs:List Int)(H':Hp),H q=none->H' q=some (.lst (hs.map V.int))->(∀h∈hs,0<=h/\h<m)->hs.Nodup->(hs.length:Int)<m->hs.length<=62->ak H H'->Q (.ref q) H'
section
def pd(F:fg K "_law_holes" "_law_holes" gj f fd)(T:Txt mg aS aA aE aW aO aF)(C:L1 P w K mg R4):bM P w K mg R4 fM 2 f fd [aB,bj,cf] (qJ K):=by
 refine F.ok2 dC ?_;rintro _ _ _ _ H _ Q _ hr hu ⟨a,ns,k,m,rfl,hS,k0,k1,m1,m64,q⟩;have r0:=mr ns k;refine⟨_,(ae (aw 3 dC.nd (aq (aQ C._law_at hr (cE bh cA)) ag))
  (ae (bc (bf K hu (cv 3) ag) (am (aw 3 dC.nd ag)) aD)
  (ae (bc (bf K hu (cv 3) ag) (am (aw 3 dC.nd (aq (aq (aQ C._law_at hr (cE bh cA)) ag) dL))) aD)
  (ae (aw 4 dC.nd (bG pan))
  (ae (iC SZ rfl (LD T.range (bW (kB (rA rfl) DU T.min (cE (cv 3) (aq dL ag))))) (bN 5 dC.nd) (ae (aw 6 dC.nd (aq (aq (aq (aQ C._law_at hr (cE bh (aq cA ag))) (aq (aq ag (cv 5)) (cv 5))) (aq ag (cv 5))) dL))
  (am (bc (bf K hu (cv 6) (cv 4)) (am (kH (pU (cv 4) (cv 6)))) aD))))
  (am (aG (cv 4)))))))),?_⟩
 refine cq (bR (bq (af ac (af ac aC)) (λQ q=>⟨a,ns,k,rfl,hS,k0,by omega,q⟩)) ar) ?_;generalize hc0:lawAt ns k % 12=c0;have tail:∀c:Int,0<=c->c<1000003->∀(u:TS),u=u->True:=λ_ _ _ _ _=>True.intro;have hc00:0<=c0/\c0<12:=by omega
 refine dJ (λσ' H'=>∃c:Int,0<=c/\c<1000003/\σ'=[oR a,oJ k,oJ m,oJ c,none,none,none]/\H'=H) (λK' hK=>?_) ?_
 .refine kD (bw (rf ac ar)) (λ_=>?_) (λ_=>hK _ _ ⟨c0,by omega,by omega,rfl,rfl⟩);exact jz ar (hK _ _ ⟨0,by omega,by omega,rfl,rfl⟩)
 rintro _ H1 ⟨c1,c10,c11,rfl,rfl⟩;refine dJ (λσ' H'=>∃c:Int,0<=c/\c<1000003/\σ'=[oR a,oJ k,oJ m,oJ c,none,none,none]/\H'=H1) (λK' hK=>?_) ?_
 .refine kD (bw (dz ac ar)) (λ_=>?_) (λ_=>hK _ _ ⟨c1,by omega,by omega,rfl,rfl⟩);refine jz (bR (db (bq (af ac (af ac aC)) (λQ q=>⟨a,ns,k,rfl,hS,k0,by omega,q⟩)) ar) ac (by omega)) (hK _ _ ⟨_,?_,?_,rfl,rfl⟩)
  .exact Yx _ (by omega)
  .have:=Yy (lawAt ns k / 12) (by omega:0<m);omega
 rintro _ H2 ⟨c2,c20,c21,rfl,rfl⟩;refine BP λq1 hq1=>?_;have sm:ak H2 (upd H2 q1 (.lst [])):=(ak.refl H2).upd hq1;refine dJ (λσ' H'=>∃hs:List Int,(∃o5 o6,σ'=[oR a,oJ k,oJ m,oJ c2,oR q1,o5,o6])/\H' q1=some (.lst (hs.map V.int))/\(∀h∈hs,0<=h/\h<m)/\hs.Nodup/\(hs.length:Int)<m/\hs.length<=62/\ak H2 H') (λK' hK=>?_) ?_
 .generalize hn:(if m - 1<c2 then m - 1 else c2)=n;have n0:0<=n/\n<=m - 1:=by
   by_cases h:m - 1<c2
   .rw[R9 h]at hn;omega
   .rw[R8 h]at hn;omega
  refine Dm n (λQ q=>(af (Du ac (nh ac ar)) aC) _ (by rw[hn];exact q)) (by omega) (by omega)
   (λi σ' H'=>∃hs:List Int,(∃o5 o6,σ'=[oR a,oJ k,oJ m,oJ c2,oR q1,o5,o6])/\H' q1=some (.lst (hs.map V.int))/\(∀h∈hs,0<=h/\h<m)/\hs.Nodup/\hs.length<=i/\(0<i->lawAt ns (k+1) % m∈hs)/\(27<i->m=64->hs.length+1<=i)/\ak H2 H')
   ⟨[],⟨_,_,rfl⟩,aj,(λh hh=>by cases hh),List.nodup_nil,Yd _,(λz=>Sc z (by omega)),(λz=>Sc z (by omega)),sm⟩ ?_ (λσ' H' h=>?_)
  .rintro i _ H3 hi ⟨hs,⟨o5,o6,rfl⟩,h3,gd,nd,hl,hm0,h27,s3⟩;have hS3:=s3.seq hS;have i64:0<=0+(i:Int)/\0+(i:Int)<64:=by omega
   generalize hj:0+(i:Int)=j at i64 ⊢;refine cq (bR (dm (dm (bq (af ac (af (dm ac ar) aC)) (λQ q=>⟨a,ns,k+1,rfl,hS3,by omega,by omega,q⟩)) (iE (iE ar ac (.inl ⟨by decide,by decide⟩)) ac (.inr ⟨by omega,by omega⟩))) (iE ar ac (.inl ⟨by decide,by decide⟩))) ac (by omega)) ?_;generalize hsq:(lawAt ns (k+1)+7*j*j+3*j) % m=sq;have sq0:=hsq▸Yx _ (by omega);have sq1:=hsq▸Yy _ (by omega);refine kD (bw (Dt ac ac (.inl (aV.of h3)))) (λh=>?_) (λh=>⟨hs,⟨_,_,rfl⟩,h3,gd,nd,by omega,λ_=>?_,λ_ _=>by omega,s3⟩)
   case refine_2=>
    by_cases i0:i=0
    .have j0:j=0:=by omega
     rw[j0]at hsq;have:sq∈hs:=by have h:=h;rw[YI]at h;exact Sa h
     rw[<-hsq,show lawAt ns (k+1)+7*0*0+3*0=lawAt ns (k+1) by omega]at this;exact this
    .exact hm0 (by omega)
   have hni:¬sq∈hs:=λz=>by rw[R6 z]at h;cases h
   refine Er ac ac h3 (by rw[Wm,Sw];omega) ⟨hs++[sq],⟨_,_,rfl⟩,?_,λh hh=>?_,?_,?_,λ_=>?_,λz1 z2=>?_,s3.put hq1⟩
   .rw[aj,WA];rfl
   .rcases WF.mp hh with z|z
    .exact gd h z
    .rw[Wu.mp z];exact⟨sq0,sq1⟩
   .rw[Xg];refine⟨nd,by simp,λx hx y hy e=>?_⟩;rw[Wu.mp hy]at e;exact hni (e▸hx)
   .rw[Wq];show hs.length+1<=_;omega
   .by_cases i0:i=0
    .have j0:j=0:=by omega
     rw[j0,show lawAt ns (k+1)+7*0*0+3*0=lawAt ns (k+1) by omega]at hsq;rw[hsq];exact WL _ (Wu.mpr rfl)
    .exact Xm _ (hm0 (by omega))
   .rw[Wq];show hs.length+1+1<=i+1
    by_cases i27:i=27
    .exfalso;have j27:j=27:=by omega
     have:=hm0 (by omega);rw[j27,z2]at hsq;rw[z2]at this;exact hni (by rw[<-hsq,show(lawAt ns (k+1)+7*27*27+3*27) % 64=lawAt ns (k+1) % 64 by omega];exact this)
    .have:=h27 (by omega) z2;omega
  .obtain⟨hs,o,h3,gd,nd,hl,hm0,h27,s3⟩:=h;refine hK _ _ ⟨hs,o,h3,gd,nd,by omega,?_,s3⟩
   by_cases e64:m=64
   .by_cases e27:27<n.toNat
    .have:=h27 e27 e64;omega
    .omega
   .omega
 rintro _ H3 ⟨hs,⟨o5,o6,rfl⟩,h3,gd,nd,hl,h62,s3⟩;exact aZ ac (q q1 hs H3 hq1 h3 gd nd hl h62 s3)
end
def Qx(h0: -3<=n)(h1:n<=63):(nT n).length<=9:=Ye (xb h0 h1) (by simp)
def Ex(g:mK ks u):(-3<=u.ax/\u.ax<=3)/\-3<=u.up/\u.up<=3:=by have a:=g.ax;have b:=g.up;split at a<;>split at b<;>omega
def DL{α:Type}{K:Frag}{tl te:TE}{src:List (Option Nat)}{σ rest:L2.St}{H:Hp}{Q:VK}{d:Z1}{as:List α}{V0:α->V}(hl:Ev tl σ H (.ref d))(hx:aV K H d (as.map V0))(hz:as.length<=1000)(hs:gK src σ=none::rest)(gg:α->Str)(he:∀a∈as,∀H',ak H H'->∀Q:VK,(∀H2,ak H' H2->Q (.str (gg a)) H2)->te (some (V0 a)::rest) H' Q)(q:∀H' d',ak H H'->H' d'=none->Q (.ref d') (upd H' d' (.lst (as.map λa=>V.str (gg a))))):tComp (iS K tl) (gName 0) gJ te src σ H Q:=by
 refine zD (hl _ ⟨d,rfl,⟨_,hx⟩,?_⟩);refine iF as.length (λi ys σ' H'=>ak H H'/\(∃v,σ'=v::rest)/\ys=(as.take i).map λa=>V.str (gg a)) (by rw[Sw];omega) ?_ ?_ ?_ ?_ ?_ ?_
 .rintro i ys σ' H' ⟨_,_,rfl⟩;rw[Wm,WJ];omega
 .rintro i ys σ' H' ⟨s,_⟩ hi;exact⟨_,_,s.seq hx,Wp (by rw[Wm];exact hi)⟩
 .rintro ys σ' H' ⟨s,_⟩;exact⟨_,s.seq hx,by rw[Wm];exact Yd _⟩
 .exact⟨ak.refl H,⟨_,hs⟩,by simp⟩
 .rintro i ys _ H' x H2 hi ⟨s,⟨v0,rfl⟩,rfl⟩ ⟨rfl,hy⟩ Kt Kf ht hf;have ey:=hy _ (s.seq hx);rw[Wr,Wp hi]at ey;obtain rfl:V0 as[i]=x:=Sd ey;simp only[gName,gJ,W4,if_true];refine he as[i] (WV hi) H2 s _ λH3 s3=>ht _ _ _ ⟨s.trans s3,⟨_,rfl⟩,?_⟩;rw[W9,Wp hi,WA];rfl
 .rintro ys σ' H' d' ⟨s,_,rfl⟩ hd;rw[WO (Yd _)];exact q H' d' s hd
theorem pN{α:Type}{p q:α->Bool}:∀{l:List α},(∀x,p x=true->q x=true)->(l.filter p).length<=(l.filter q).length
 | [],_=>Yd _
 |a::l,h=>by
  have ih:=pN (l:=l) h;rw[WR,WR]
  by_cases hp:p a=true
  .rw[R9 hp,R9 (h a hp),Wx,Wx];omega
  .rw[R8 hp];split
   .rw[Wx];omega
   .exact ih
def gC(x:Str):Bool:=decide (x.cps.toList[2]? =some 108)
def hc(ls:List Str):Nat:=(ls.filter gC).length
def lF(a b:List Str):hc (a++b)=hc a+hc b:=by unfold hc;rw[WY,Wq]
def Kb(a:List Str):hc a<=a.length:=WW _ _
def xr(h:a.Sublist b):hc a<=hc b:=(h.filter _).length_le
def zg(h:∀x∈a,gC x=false):hc a=0:=by unfold hc;rw[Xj.mpr λx hx=>by rw[h x hx];exact YD];rfl
def JK(h:2<w.cps.toList.length):(TV " " (w::b::r)).cps.toList[2]? =w.cps.toList[2]? :=by show(w++" "++TV " " (b::r)).cps.toList[2]? =_;rw[gF,gF,X3,W3 h]
def LW(h:lineI x=some 1):gC x=true:=by obtain⟨w0,r,e,hm,ok,_⟩:=ny h;have hm:=hm;obtain rfl:=Wu.mp hm;obtain⟨a,rfl,_⟩:=nE ok;have j:=UW x " ";rw[e]at j;rw[<-j];unfold gC;rw[JK (by decide+kernel)];decide+kernel
def B6(ls:List Str):(selJ ls 1).length<=hc ls:=by unfold selJ hc;refine(pN λx h=>?_);exact LW (Sa h)
def g9(x y:Str):(x++y).length=x.length+y.length:=by rw[bV,gF,Wq];rfl
def iY(h:2<a.length):gC (a++b)=gC a:=by unfold gC;rw[gF,W3 (by rw[<-bV];exact h)]
def PB(n m:Nat)(z:List Str):Prop:=z.length<=n/\(∀x∈z,x.length<=30)/\hc z<=m
def tQ{xs:List V}{i:Nat}(hl:Ev tl σ H (.ref p))(e:H p=some (.lst xs))(h:xs[i]? =some v):Ev (nM K tl (tC (.int (i:Int)))) σ H v:=bP hl ar (.inl (aV.of e)) (bK h)
def PB.cat(h:PB n m a)(h':PB n' m' b):PB (n+n') (m+m') (a++b):=
 ⟨by rw[Wq];exact Nat.add_le_add h.1 h'.1,λx hx=>(WF.mp hx).elim (h.2.1 x) (h'.2.1 x),by rw[lF];exact Nat.add_le_add h.2.2 h'.2.2⟩
def PB.one(h:x.length<=30)(hx:gC x=false):PB 1 0 [x]:=
 ⟨Yd _,λy hy=>by rw[Wu.mp hy];exact h,Ym (zg λy hy=>by rw[Wu.mp hy];exact hx)⟩
theorem PB.map{α:Type}{as:List α}{gg:α->Str}{n:Nat}(hn:as.length<=n)(h:∀a∈as,(gg a).length<=30/\gC (gg a)=false):PB n 0 (as.map gg):=by
 have e:∀x∈as.map gg,x.length<=30/\gC x=false:=λx hx=>by obtain⟨a,ha,rfl⟩:=Wo.mp hx;exact h a ha
 exact⟨by rw[Wm];exact hn,λx hx=>(e x hx).1,Ym (zg λx hx=>(e x hx).2)⟩
def MN(H:Hp)(n m:Nat)(v:V)(H':Hp):Prop:= ∃q z,v=.ref q/\H' q=some (.lst (z.map V.str))/\PB n m z/\H q=none/\ak H H'
def yh{α:Type}{K:Frag}{ta tl te:TE}{σ:L2.St}{H H1:Hp}{Q:VK}{q:Z1}{z:List Str}{as:List α}{V0:α->V}{gg:α->Str}{n m n' m':Nat}(s1:ak H H1)(e:H1 q=some (.lst (z.map V.str)))(b:PB n m z)(hq:Ev ta σ H1 (.ref q))(b':PB n' m' (as.map gg))(hn:n+n'<=1000)(htl:∀R:VK,(∀dl H',ak H1 H'->H' dl=some (.lst (as.map V0))->R (.ref dl) H')->tl σ H1 R)(he:∀a∈as,∀H',ak H H'->Ev te [some (V0 a)] H' (.str (gg a)))(hs:gK [none] σ=[none]:=by rfl)(k:∀v H',MN H (n+n') (m+m') v H'->Q v H'):iJ .Add ta (tComp (iS K tl) (gName 0) gJ te [none]) σ H1 Q:=by
 have la:as.length<=n':=by have:=b'.1;rw[Wm]at this;exact this
 have lz:=b.1;refine pV (hq _ (htl _ λdl H' s e'=>?_));refine(show tComp (iS K (λ_ H R=>R (.ref dl) H)) (gName 0) gJ te [none] _ H' _ from DL (rest:=[]) (V0:=V0) (λQ q=>q) (aV.of e') (by omega) hs gg (λa ha H2 s2 Q k=>he a ha H2 ((s1.trans s).trans s2) _ (k _ (ak.refl _))) λH2 d' s2 hd'=>?_);have sa:=(s.trans s2).trans ((ak.refl H2).upd (o:=.lst (as.map λa=>V.str (gg a))) hd');refine mF (sa _ _ e) aj (by rw[Wm,Wm];omega) λp hp=>k _ _ ⟨p,z++as.map gg,rfl,?_,b.cat b',(s1.trans sa).free hp,(s1.trans sa).upd hp⟩;rw[aj,WA,Ws];rfl
def uL:Sp:=λvs H Q _=>∃(d pl kd rd td ed:Z1)(wi hi:Int)(hs:List Int)(ks:List Nat)(us:List (dI×Z1))(ts es:List ((Str×Str)×Z1))(st:Str),vs=[.int wi,.int hi,.ref d,.ref pl,.str st]/\H d=some (.lst (hs.map V.int))/\Bh H pl kd rd td ed ks us ts es/\(1<=wi/\wi<=8)/\(1<=hi/\hi<=8)/\(∀h∈hs,0<=h/\h<=63)/\hs.length<=62/\st∈cW/\
 ∀(q:Z1)(z:List Str)(H':Hp),H' q=some (.lst (z.map V.str))->0<z.length->PB 120 62 z->ak H H'->Q (.ref q) H'
section
def qw(F:fg K "_law_lines" "_law_lines" da f fd)(T:Txt mg aS aA aE aW aO aF):bM P w K mg R4 fM 1 f fd [bX,bY,aJ,aL,bL] uL:=by
 refine F.ok2 dB ?_;rintro _ _ _ s H _ Q _ hr hu ⟨d,pl,kd,rd,td,ed,wi,hi,hs,ks,us,ts,es,st,rfl,hd,PT,⟨w1,w8⟩,⟨h1,h8⟩,hh,hl,hst,k⟩;refine⟨_,(ae (aw 5 dB.nd (bG (bW (aq (aq (aq aI (nI js lN T.str (bW bh))) aI) (nI js lN T.str (bW cA))))))
  (ae (aw 5 dB.nd (aq (cv 5) (eN (cj (N:=["_law_square"]) (src:=[none]) (ao da) [bX,bY,aJ,aL,bL,aH,cu]) (mw K (kB (yX K) jt T.sorted (bW dL))) (λ_ _ _=>(bu (i:=0) ["_law_square"])) (λ_ _ _=>bI) (λ_ _ _=>(aq aI (nI js lN T.str (bW bh)))))))
  (ae (aw 5 dB.nd (aq (cv 5) (eN (cj (N:=["_law_kind"]) (src:=[none]) (ao da) [bX,bY,aJ,aL,bL,aH,cu]) (mw K (cV K (cv 3) ag)) (λ_ _ _=>(bu (i:=0) ["_law_kind"])) (λ_ _ _=>bI) (λ_ _ _=>(aq aI bh)))))
  (ae (iC SZ rfl (mw K (cV K (cv 3) ag)) (bN 6 dB.nd) (am (kH (pU (cv 5) (Bn PySem.F.slot_str_join PySem.F.type_str_join (yZ K) aI (bW (bG (fU (cV K (cv 6) ag) (fU (cV K (cv 6) ag) (fU (cV K (cv 6) ag) (cE (nI js lN T.str (bW (cV K (cv 6) ag))) (nI js lN T.str (bW (cV K (cv 6) ag))))))))))))))
  (ae (aw 5 dB.nd (aq (cv 5) (eN (cj (N:=[cO]) (src:=[none]) (ao da) [bX,bY,aJ,aL,bL,aH,cu]) (mw K (cV K (cv 3) ag)) (λ_ _ _=>(bu (i:=0) [cO])) (λ_ _ _=>bI) (λ_ _ _=>(aq (aq (aq aI (cV K bh ag)) aI) (cV K bh ag))))))
  (ae (aw 5 dB.nd (aq (cv 5) (eN (cj (N:=[cO]) (src:=[none]) (ao da) [bX,bY,aJ,aL,bL,aH,cu]) (mw K (cV K (cv 3) ag)) (λ_ _ _=>(bu (i:=0) [cO])) (λ_ _ _=>bI) (λ_ _ _=>(aq (aq (cV K bh ag) aI) (cV K bh ag))))))
  (am (aG (aq (cv 5) (bG (bW (aq aI (cv 4))))))))))))),?_⟩
 show cm _ _ _ [oJ wi,oJ hi,oR d,oR pl,oT st,none,none] H;have big:(10:Nat) ^ 60 > 100:=by decide
 have str_n:∀{te:TE}{σ:L2.St}{H':Hp}{n:Int},Ev te σ H' (.int n)->-3<=n->n<=63->Ev (cB wD (bg te cw)) σ H' (.str (nT n)):=λhe h0 h1=>Ft he (AC (by omega));have l6:("board ":Str).length=6/\("hole ":Str).length=5/\("kind ":Str).length=5/\("turn ":Str).length=5/\("stuck ":Str).length=6/\(" ":Str).length=1:=by decide+kernel
 obtain⟨lb,lh,lk,lt,ls,l1⟩:=l6;have on:∀c,(one c).length=1:=λ_=>rfl;have sz:∀{x y:Str},x.length<=20->y.length<=20->x.length+y.length<=h9:=λa b=>by rw[Sw];omega
 refine ba (MN H 1 0) (λQ z=>?_) ?_
 .have a3:=Qx (n:=wi) (by omega) (by omega);have a4:=Qx (n:=hi) (by omega) (by omega);refine dR (bo (eW (eW (eW ar (str_n ac (by omega) (by omega)) (sz (by omega) (by omega))) ar (sz (by rw[g9];omega) (by omega))) (str_n ac (by omega) (by omega)) (sz (by rw[g9,g9];omega) (by omega))) (de ⟨by show 1<=h9;decide,λp hp=>z _ _ ⟨p,[_],rfl,aj,.one (by rw[g9,g9,g9];omega) ?_,hp,(ak.refl H).upd hp⟩⟩));rw[iY (by rw[g9,g9];omega),iY (by rw[g9];omega),iY (by omega)];decide+kernel
 rintro _ H1 ⟨q1,z1,rfl,e1,b1,n1,s1⟩;refine ba (MN H (1+62) (0+62)) (λQ z=>?_) ?_
 .refine pV ((show Ev (cc 5) _ H1 (.ref q1)from ac rfl) _ (FK (ac rfl) ⟨hs,aV.of (s1 _ _ hd),by omega,λhs' dl pm sr hdl=>?_⟩));have sl:=(ak.refl H1).upd (o:=.lst (hs'.map V.int)) hdl;have hp:∀h∈hs',0<=h/\h<=63:=λh hm=>hh h (pm.mem_iff.mp hm);have l62:=pm.length_eq;have bl:PB 62 62 (hs'.map λh=>("hole ":Str)++nT h):=⟨by rw[Wm];omega,λx hx=>by
   obtain⟨h,hm,rfl⟩:=Wo.mp hx;have:=hp h hm;have a3:=Qx (n:=h) (by omega) (by omega);rw[g9];omega,Ye (Kb _) (by rw[Wm];omega)⟩
  have go:=yh (K:=K) (ta:=λ_ H R=>R (.ref q1) H) (tl:=λ_ H R=>R (.ref dl) H) (te:=iJ .Add (tC (.str "hole ")) (cB wD (bg (cc 0) cw))) (σ:=[oJ wi,oJ hi,oR d,oR pl,oT st,oR q1,none]) (V0:=V.int) (s1.trans sl) (sl _ _ e1) b1 (λQ q=>q) bl (by decide) (λR r=>r dl _ (ak.refl _) aj) (λh hm H' s=>by
   have:=hp h hm;have a3:=Qx (n:=h) (by omega) (by omega);exact eW ar (str_n ac (by omega) (by omega)) (sz (by omega) (by omega))) rfl z
  exact go
 rintro _ H2 ⟨q2,z2,rfl,e2,b2,n2,s2⟩;have PT2:=PT.same s2;refine ba (MN H (63+6) (62+0)) (λQ z=>yh (as:=ks) (V0:=iw) (gg:=λh=>("kind ":Str)++one h) s2 e2 b2 ac (.map PT.kds.l6 λh _=>⟨by rw[g9,on];omega,by rw[iY (by omega)];decide+kernel⟩) (by decide) (λR r=>(tQ (i:=0) ac PT2.at_ rfl) _ (r _ _ (ak.refl _) PT2.kds.at_)) (λh _ H' s=>eW (z':=one h) ar ac (sz (by omega) (by rw[on];decide))) rfl z) ?_;rintro _ H3 ⟨q3,z3,rfl,e3,b3,n3,s3⟩;refine dJ (λσ' H'=>(∃o6,σ'=[oJ wi,oJ hi,oR d,oR pl,oT st,oR q3,o6])/\ak H H'/\∃z,H' q3=some (.lst (z.map V.str))/\PB (69+24) (62+0) z) (λK' hK=>?_) ?_
 .refine kr (K:=K) (λv H'=>v=.ref rd/\H'=H3) (λQ z=>(tQ (i:=1) ac (PT.same s3).at_ rfl) _ (z _ _ ⟨rfl,rfl⟩)) ?_;rintro _ _ ⟨rfl,e0⟩;obtain rfl:=e0.symm;refine⟨rd,gx us,rfl,aV.of (PT.same s3).rls,λi σ' H'=>(∃o6,σ'=[oJ wi,oJ hi,oR d,oR pl,oT st,oR q3,o6])/\ak H H'/\∃z,H' q3=some (.lst (z.map V.str))/\PB (69+i) (62+0) z,⟨⟨_,rfl⟩,s3,z3,e3,b3⟩,?_,?_,?_⟩
  .rintro i σ' H' _ ⟨_,s,_⟩;exact aV.of (PT.same s).rls
  .rintro i x _ H6 hx ⟨⟨o6,rfl⟩,s6,z,e6,b6⟩;rw[Wr]at hx;obtain⟨u,hui,rfl⟩:=Y7.mp hx;have hm:=Ww hui;have hi':=(Wz.mp hui).1;have g:=PT.rg u hm;have r:=Ex g;have hp:=s6 _ _ (PT.ra u hm);have rl:=PT.rl;show lS _ _ [oJ wi,oJ hi,oR d,oR pl,oT st,oR q3,oR u.2] H6;have ix:∀(i:Nat)(v:V),u.1.vs[i]? =some v->Ev (nM K (cc 6) (tC (.int (i:Int)))) [some (.int wi),some (.int hi),some (.ref d),some (.ref pl),some (.str st),some (.ref q3),some (.ref u.2)] H6 v:=λi v h=>bP ac ar (.inr (dU.of hp)) (bK h);refine DZ ac ⟨_,e6⟩ (JZ ar (dR (bo (ix 1 (.str u.1.so) rfl) (bo (ix 0 (.str u.1.kd) rfl) (bo (ix 2 (.str u.1.ai) rfl) (bo (str_n (ix 3 (.int u.1.ax) rfl) (by omega) (by omega)) (bo (str_n (ix 4 (.int u.1.up) rfl) (by omega) (by omega)) (de ⟨by show 5<=h9;decide,λdd hdd=>?_⟩))))))));obtain⟨c,_,ec⟩:=g.kd;have a1:u.1.so.length<=5:=(by decide:∀y∈sortsL,y.length<=5) _ g.so;have a2:u.1.ai.length<=5:=(by decide:∀y∈aimsL,y.length<=5) _ g.ai;have a3:=xb (n:=u.1.ax) (by omega) (by omega);have a4:=xb (n:=u.1.up) (by omega) (by omega);have a5:u.1.kd.length=1:=by rw[ec];rfl
   refine⟨[u.1.so,u.1.kd,u.1.ai,nT u.1.ax,nT u.1.up],aV.of aj,?_,?_⟩
   .simp only[WI,Xc,XS,List.sum_nil,Wx,W5,l1];omega
   .rw[JJ];have sdd:=(ak.refl H6).upd (o:=.lst (([u.1.so,u.1.kd,u.1.ai,nT u.1.ax,nT u.1.up]:List Str).map V.str)) hdd;refine⟨_,sdd _ _ e6,?_,⟨_,rfl⟩,(s6.trans sdd).put n3,z++[TV " " [u.1.so,u.1.kd,u.1.ai,nT u.1.ax,nT u.1.up]],?_,b6.cat (.one ?_ ?_)⟩
    .rw[Wm,Sw];have:=b6.1;omega
    .rw[aj,WA];rfl
    .have:=om u.1.so [u.1.kd,u.1.ai,nT u.1.ax,nT u.1.up];simp only[eQ]at this;rw[show wt []=0 from rfl]at this;omega
    .have:=(by decide+kernel:∀y∈sortsL,2<y.cps.toList.length/\gC y=false) _ g.so;unfold gC;rw[JK this.1];exact this.2
  .rintro σ' H' ⟨ho,s,z,e,b⟩;have rl:=PT.rl;rw[Wm]at b;exact hK _ _ ⟨ho,s,z,e,by have:=b.1;omega,b.2⟩
 rintro _ H4 ⟨⟨o6,rfl⟩,s4,z4,e4,b4⟩;have PT4:=PT.same s4;refine ba (MN H (93+6) (62+0)) (λQ z=>yh (as:=ts) (V0:=λu=>.ref u.2) (gg:=λu=>(("turn ":Str)++u.1.1++" ")++u.1.2) s4 e4 b4 ac (.map PT.tg.len λu hm=>?_) (by decide) (λR r=>(tQ (i:=2) ac PT4.at_ rfl) _ (r _ _ (ak.refl _) PT4.tns)) (λu hm H' s=>?_) rfl z) ?_
 .obtain⟨⟨a,_,ea⟩,c,_,ec⟩:=PT.tg.kd u hm;rw[ea,ec];exact⟨by rw[g9,g9,g9,on,on];omega,by rw[iY (by rw[g9,g9];omega),iY (by rw[g9];omega),iY (by omega)];decide+kernel⟩
 .have ep:=s _ _ (PT.ta u hm);obtain⟨⟨a,_,ea⟩,c,_,ec⟩:=PT.tg.kd u hm;have a3:u.1.1.length=1:=by rw[ea];rfl
  have a4:u.1.2.length=1:=by rw[ec];rfl
  exact eW (eW (eW (z':=u.1.1) ar (bP ac ar (.inr (dU.of ep)) rfl) (sz (by omega) (by omega))) ar (sz (by rw[g9];omega) (by omega))) (bP (x:=.str u.1.2) ac ar (.inr (dU.of ep)) rfl) (sz (by rw[g9,g9];omega) (by omega))
 rintro _ H5 ⟨q5,z5,rfl,e5,b5,n5,s5⟩;have PT5:=PT.same s5;have en:∀y∈endsL,(2<y.length/\y.length<=9)/\gC y=false:=by decide+kernel
 refine ba (MN H (99+6) (62+0)) (λQ z=>yh (as:=es) (V0:=λu=>.ref u.2) (gg:=λu=>(u.1.1++" ")++u.1.2) s5 e5 b5 ac (.map PT.eg.len λu hm=>?_) (by decide) (λR r=>(tQ (i:=3) ac PT5.at_ rfl) _ (r _ _ (ak.refl _) PT5.ens)) (λu hm H' s=>?_) rfl z) ?_
 .obtain⟨ha,c,_,ec⟩:=PT.eg.kd u hm;obtain⟨⟨h1,h2⟩,h3⟩:=en _ ha;rw[ec];exact⟨by rw[g9,g9,on];omega,by rw[iY (by rw[g9];omega),iY h1];exact h3⟩
 .have ep:=s _ _ (PT.ea u hm);obtain⟨ha,c,_,ec⟩:=PT.eg.kd u hm;obtain⟨⟨h1,h2⟩,_⟩:=en _ ha;have a4:u.1.2.length=1:=by rw[ec];rfl
  exact eW (eW (z:=u.1.1) (z':=" ") (bP ac ar (.inr (dU.of ep)) rfl) ar (sz (by omega) (by omega))) (bP (x:=.str u.1.2) ac ar (.inr (dU.of ep)) rfl) (sz (by rw[g9];omega) (by omega))
 rintro _ H6 ⟨q6,z6,rfl,e6,b6,n6,s6⟩;have l9:=(by decide:∀y∈cW,y.length<=9) _ hst;refine cr (pV ((show Ev (cc 5) _ H6 (.ref q6)from ac rfl) _ (dR (bo (eW (z':=st) ar ac (sz (by omega) (by omega))) (de ⟨by show 1<=h9;decide,λp hp=>?_⟩)))));have sp:=(ak.refl H6).upd (o:=.lst [.str (("stuck ":Str)++st)]) hp;have lz:=b6.1;refine mF (sp _ _ e6) aj (by rw[Wm];show _+1<=1000;omega) λq9 hq9=>?_;have bb:=b6.cat (.one (x:=("stuck ":Str)++st) (by rw[g9];omega) (by rw[iY (by omega)];decide+kernel));exact k q9 (z6++[("stuck ":Str)++st]) _ (by rw[aj,WA];rfl) (by rw[Wq];exact Yu _) ⟨by have:=bb.1;omega,bb.2⟩ ((s6.trans sp).upd hq9)
end
def ma(n d a:Nat):HT.sIx n d (some (a:Int))=min a n:=HT.sIx_nat ..
def Mb(ys:List V)(a:Nat):cutV ys none (some (a:Int))=ys.take a:=by
 unfold cutV;rw[ma,show HT.sIx ys.length 0 none=0 from rfl,Xd,Yv]
 by_cases h:a<=ys.length
 .rw[Yn h]
 .rw[Nat.min_eq_right (by omega),W7,WO (by omega)]
def FC(ys:List V)(a b:Nat)(h:a<=b):cutV ys (some (a:Int)) (some (b:Int))=(ys.drop a).take (b - a):=by
 unfold cutV;rw[ma,ma]
 by_cases h1:a<=ys.length
 .rw[Yn h1]
  by_cases h2:b<=ys.length
  .rw[Yn h2]
  .rw[Nat.min_eq_right (by omega),WO (by rw[WH];omega),WO (by rw[WH];omega)]
 .rw[Xy (by omega),Xy (by omega),XT,XT]
def Mc(ys:List V)(a:Nat):cutV ys (some (a:Int)) none=ys.drop a:=by
 unfold cutV;rw[ma,show HT.sIx ys.length ys.length none=ys.length from rfl]
 by_cases h1:a<=ys.length
 .rw[Yn h1,WO (by rw[WH];omega)]
 .rw[Xy (by omega),Xy (by omega),XT]
def Kn(te:TE)(σ:L2.St)(H:Hp)(P:List Str->Prop):Prop:= ∀Q:VK,(∀q(zs:List Str) H',H' q=some (.lst (zs.map V.str))->P zs->ak H H'->Q (.ref q) H')->te σ H Q
section
variable{K:Frag}{σ:L2.St}{H:Hp}{ta tb te:TE}{d:Z1}{ys:List Str}
def eX(h1:Kn ta σ H P1)(h2:∀H1,ak H H1->Kn tb σ H1 P2)(hn:∀a b,P1 a->P2 b->a.length+b.length<=1000):Kn (iJ .Add ta tb) σ H (λz=>∃a b,P1 a/\P2 b/\z=a++b):=λQ q=>pV (h1 _ λa zs H1 ha pa s1=>h2 H1 s1 _ λb ws H2 hb pb s2=>
 mF (s2 _ _ ha) hb (by rw[Wm,Wm];exact hn _ _ pa pb) λp hp=>q p (zs++ws) _ (by rw[aj,WA]) ⟨zs,ws,pa,pb,rfl⟩ ((s1.trans s2).upd hp))
def ky{a:Nat}(ha:Ev ta σ H (.ref d))(hi:Ev tb σ H (.int (a:Int)))(e:H d=some (.lst (ys.map V.str))):Kn (Bc K ta jy (mG tb)) σ H (· =ys.take a):=λQ q=>oN ha gy (fT hi) (aV.of e) λp hp=>q p _ _ (by rw[aj,Mb,Xx]) rfl ((ak.refl H).upd hp)
def lK{a:Nat}(ha:Ev ta σ H (.ref d))(hi:Ev tb σ H (.int (a:Int)))(e:H d=some (.lst (ys.map V.str))):Kn (Bc K ta (mG tb) jy) σ H (· =ys.drop a):=λQ q=>oN ha (fT hi) gy (aV.of e) λp hp=>q p _ _ (by rw[aj,Mc,Xv]) rfl ((ak.refl H).upd hp)
def Fz{a b:Nat}(hab:a<=b)(ha:Ev ta σ H (.ref d))(hi:Ev tb σ H (.int (a:Int)))(hj:Ev te σ H (.int (b:Int)))(e:H d=some (.lst (ys.map V.str))):Kn (Bc K ta (mG tb) (mG te)) σ H (· =(ys.drop a).take (b - a)):=λQ q=>oN ha (fT hi) (fT hj) (aV.of e) λp hp=>q p _ _ (by rw[aj,FC _ _ _ hab,Xx,Xv]) rfl ((ak.refl H).upd hp)
def zw{a:Nat}(h:Ev ta σ H (.int (a:Int))):Ev (iJ .Add ta (tC (.int 1))) σ H (.int ((a+1:Nat):Int)):=dm h ar
def Kg{a:Nat}(h:Ev ta σ H (.int (a:Int))):Ev (iJ .Add ta (tC (.int 2))) σ H (.int ((a+2:Nat):Int)):=dm h ar
def oq(h:Ev te σ H (.str z)):Kn (rR (bg te cw)) σ H (· =[z]):=λQ q=>dR (bo h (de ⟨by show 1<=h9;decide,λp hp=>q p [z] _ aj rfl ((ak.refl H).upd hp)⟩))
def Dz(h:ME te σ H m):Kn (rR (bg te cw)) σ H (λz=>∃y,z=[y]/\y.length<=m):=λQ q=>dR (dM (h _ λz H1 zm s1=>de ⟨by show 1<=h9;decide,λp hp=>q p [z] _ aj ⟨z,rfl,zm⟩ (s1.upd hp)⟩))
end
def Qz(z:List Str):Prop:=z.length<=300/\(∀x∈z,x.length<=100)/\hc z<=63
def pL(ys:List Str)(a:Nat):hc (ys.take a)+hc (ys.drop a)=hc ys:=by rw[<-lF,XF]
def zh(ys:List Str)(h:a<=b):hc (ys.drop b)<=hc (ys.drop a):=by
 have:ys.drop b=(ys.drop a).drop (b - a):=by rw[XU,show a+(b - a)=b by omega]
 rw[this];exact xr (Xu _ _)
def Dc(y:Str):hc [y]<=1:=Kb [y]
def uo(h:a<=b)(hl:ys.length<=120)(hx:∀x∈ys,x.length<=100)(hh:hc ys<=62)(hy:y.length<=100):Qz (ys.take a++[y]++ys.drop b):=by
 refine⟨?_,λx hm=>?_,?_⟩
 .rw[Wq,Wq,WJ,WH];show min a ys.length+1+(ys.length - b)<=300;omega
 .rcases WF.mp hm with hm|hm
  .rcases WF.mp hm with hm|hm
   .exact hx x (XV hm)
   .rw[Wu.mp hm];exact hy
  .exact hx x (Xi hm)
 .rw[lF,lF];have:=pL ys a;have:=zh ys h;have:=Dc y;omega
def DX(h:z.Sublist ys)(hl:ys.length<=120)(hx:∀x∈ys,x.length<=100)(hh:hc ys<=62):Qz z:=
 ⟨by have:=h.length_le;omega,λx hm=>hx x (h.subset hm),by have:=xr h;omega⟩
def yd(ys:List Str)(a:Nat):(ys.take a++ys.drop (a+1)).Sublist ys:=by
 have h:(ys.take a++ys.drop (a+1)).Sublist (ys.take a++ys.drop a):=(List.Sublist.refl _).append (by
  have:ys.drop (a+1)=(ys.drop a).drop 1:=by rw[XU]
  rw[this];exact Xu _ _)
 rw[XF]at h;exact h
def oM:List Str:=[""," ","board 3 3","hole 0","hole 70","kind k","leap k go 1 0","slide k any 5 5","turn k k","without k","home k","stuck even","jump k go 0 0","kind K"]
def JV:Sp:=λvs H Q _=>∃p ys c m,vs=[.ref p,.int c,.int m]/\H p=some (.lst (ys.map V.str))/\0<ys.length/\ys.length<=120/\(∀x∈ys,x.length<=30)/\hc ys<=62/\∀q zs H',H' q=some (.lst (zs.map V.str))->Qz zs->ak H H'->Q (.ref q) H'
structure R0(P:Ss)(w:World)(K:Frag)(mg:Sf)(R4:SD):Prop where
 _law_bent_line:fC P w K mg R4 "_law_bent_line" [cC,aM] 2 JW
section
def tI(F:fg K "_law_bent" "_law_bent" gV f fd)(T:Txt mg aS aA aE aW aO aF)(C:R0 P w K mg R4):bM P w K mg R4 fM 3 f fd [aH,aM,"_law_more"] JV:=by
 refine F.ok2 cZ ?_;rintro _ _ _ _ H _ Q _ hr hu ⟨p,ys,c,m,rfl,ep,n0,n1,hx,hh,k⟩;refine⟨_,(ae (aw 3 cZ.nd (aq cA ag))
  (ae (aw 4 cZ.nd (aq (aq cA ag) (kB (eI K) bJ T.len (bW bh))))
  (ae (aw 5 cZ.nd (aq dL (aq (kB (eI K) bJ T.len (bW bh)) ag)))
  (ae (bc (bf K hu (cv 3) ag) (am (aG (aq (kQ K bh bH (bC (cv 4))) (kQ K bh (bC (aq (cv 4) ag)) bH)))) aD)
  (ae (bc (bf K hu (cv 3) ag) (am (aG (aq (aq (kQ K bh bH (bC (cv 4))) (bG (bW (cV K bh (cv 4))))) (kQ K bh (bC (cv 4)) bH)))) aD)
  (ae (bc (bf K hu (cv 3) ag) (ae (aw 6 cZ.nd (aq (kQ K bh bH (bC (cv 4))) (kQ K bh (bC (aq (cv 4) ag)) (bC (aq (cv 4) ag)))))
  (am (aG (aq (aq (cv 6) (bG (bW (cV K bh (cv 4))))) (kQ K bh (bC (aq (cv 4) ag)) bH))))) aD)
  (ae (bc (bf K hu (cv 3) ag) (ae (aw 7 cZ.nd (aq (kQ K bh bH (bC (cv 4))) (kQ K bh (bC (aq (cv 4) ag)) bH)))
  (am (aG (aq (aq (kQ K (cv 7) bH (bC (cv 5))) (bG (bW (cV K bh (cv 4))))) (kQ K (cv 7) (bC (cv 5)) bH))))) aD)
  (ae (bc (bf K hu (cv 3) ag) (ae (aw 8 cZ.nd (bG (cT rfl)))
  (ae (aw 8 cZ.nd (aq (cv 8) (bG (cT rfl))))
  (ae (aw 8 cZ.nd (aq (cv 8) (bG (cE aI aI))))
  (am (aG (aq (aq (kQ K bh bH (bC (cv 5))) (bG (bW (cV K (cv 8) (aq (aq cA ag) ag))))) (kQ K bh (bC (cv 5)) bH))))))) aD)
  (ae (bc (bf K hu (cv 3) ag) (am (aG (kQ K bh bH (bC (cv 5))))) aD)
  (am (aG (aq (aq (kQ K bh bH (bC (cv 4))) (bG (bW (aQ C._law_bent_line hr (cE (cV K bh (cv 4)) dL))))) (kQ K bh (bC (aq (cv 4) ag)) bH))))))))))))),?_⟩
 have hx1:∀x∈ys,x.length<=100:=λx h=>Ye (hx x h) (by decide);have lm:((ys.map V.str).length:Int)=ys.length:=by rw[Wm]
 refine cq (v:=.int (c % 10)) (bR ac ar) ?_;refine cq (v:=.int (c / 10 % ((ys.map V.str).length:Int))) (bR (db ac ar) (cS ac (.inl (aV.of ep))) (by omega)) ?_;refine cq (v:=.int (m % (((ys.map V.str).length:Int)+1))) (bR ac (dm (cS ac (.inl (aV.of ep))) ar) (by omega)) ?_;have a0:0<=c / 10 % ((ys.map V.str).length:Int):=Yx _ (by omega);have a1:c / 10 % ((ys.map V.str).length:Int)<((ys.map V.str).length:Int):=Yy _ (by omega);have t0:0<=m % (((ys.map V.str).length:Int)+1):=Yx _ (by omega);obtain⟨a,ha⟩:∃a:Nat,c / 10 % ((ys.map V.str).length:Int)=(a:Int):=⟨_,(YB a0).symm⟩;obtain⟨t,ht⟩:∃t:Nat,m % (((ys.map V.str).length:Int)+1)=(t:Int):=⟨_,(YB t0).symm⟩;rw[ha,ht];rw[ha,lm]at a1;have an:a<ys.length:=by omega
 generalize c % 10=wy;obtain⟨y,hy,ey⟩:∃y,y∈ys/\ys[a]? =some y:=⟨ys[a],WV an,Wp an⟩;have eyV:oh (ys.map V.str) (a:Int)=some (.str y):=bK (by rw[Wr,ey];rfl);have y30:=hx y hy;show cm _ _ _ [oR p,oJ c,oJ m,oJ wy,oJ (a:Int),oJ (t:Int),none,none,none] H;have ltk:∀(l:List Str)(b:Nat),(l.take b).length<=l.length:=λl b=>X9 _ _;have ldr:∀(l:List Str)(b:Nat),(l.drop b).length<=l.length:=λl b=>by rw[WH];omega
 refine bn (bw (dz ac ar)) (λ_=>?_) (λ_=>?_)
 .exact cr (eX (ky (ac rfl) (ac rfl) ep) (λH1 s1=>lK (a:=a+1) (ac rfl) (zw (ac rfl)) (s1 _ _ ep)) (λu v hu hv=>by rw[hu,hv];have:=ltk ys a;have:=ldr ys (a+1);omega) _ λq zs H' e ⟨u,v,hu,hv,hz⟩ s'=>k q zs H' e (by rw[hz,hu,hv];exact DX (yd ys a) n1 hx1 hh) s')
 refine bn (bw (dz ac ar)) (λ_=>?_) (λ_=>?_)
 .exact cr (eX (eX (ky (ac rfl) (ac rfl) ep) (λH1 s1=>oq (bP (ac rfl) (ac rfl) (.inl (aV.of (s1 _ _ ep))) eyV)) (λu v hu hv=>by rw[hu,hv];have:=ltk ys a;show _+1<=1000;omega)) (λH1 s1=>lK (a:=a) (ac rfl) (ac rfl) (s1 _ _ ep)) (λu v hu hv=>by obtain⟨u1,u2,h1,h2,rfl⟩:=hu;rw[h1,h2,hv,Wq];have:=ltk ys a;have:=ldr ys a;show _+1+_<=1000;omega) _ λq zs H' e ⟨u,v,⟨u1,u2,h1,h2,hu⟩,hv,hz⟩ s'=>k q zs H' e (by rw[hz,hu,h1,h2,hv];exact uo (Yd _) n1 hx1 hh (by omega)) s')
 refine bn (bw (dz ac ar)) (λ_=>?_) (λ_=>?_)
 .refine ba (λv H'=>∃q:Z1,v=.ref q/\H' q=some (.lst ((ys.take a++(ys.drop (a+1)).take 1).map V.str))/\ak H H') (λQ q=>eX (ky (ac rfl) (ac rfl) ep) (λH1 s1=>Fz (a:=a+1) (b:=a+2) (by omega) (ac rfl) (zw (ac rfl)) (Kg (ac rfl)) (s1 _ _ ep)) (λu v hu hv=>by rw[hu,hv];have:=ltk ys a;have:=ltk (ys.drop (a+1)) (a+2 - (a+1));have:=ldr ys (a+1);omega) _ λq' zs H' e ⟨u,v,hu,hv,hz⟩ s'=>q _ _ ⟨q',rfl,by rw[e,hz,hu,hv,show a+2 - (a+1)=1 by omega],s'⟩) ?_;rintro _ H2 ⟨q2,rfl,e2,s2⟩;have ep2:=s2 _ _ ep;refine cr (eX (eX (P1:=(· =ys.take a++(ys.drop (a+1)).take 1)) (λQ q=>ac rfl _ (q q2 _ H2 e2 rfl (ak.refl H2))) (λH1 s1=>oq (bP ac ac (.inl (aV.of (s1 _ _ ep2))) eyV)) (λu v hu hv=>by rw[hu,hv,Wq];have:=ltk ys a;have:=ltk (ys.drop (a+1)) 1;have:=ldr ys (a+1);show _+1<=1000;omega)) (λH1 s1=>lK (a:=a+2) ac (Kg ac) (s1 _ _ ep2)) (λu v hu hv=>by obtain⟨u1,u2,h1,h2,rfl⟩:=hu;rw[h1,h2,hv,Wq,Wq];have:=ltk ys a;have:=ldr ys (a+2);have:=ltk (ys.drop (a+1)) 1;have:=ldr ys (a+1);show _+1+_<=1000;omega) _ λq zs H' e ⟨u,v,⟨u1,u2,h1,h2,hu⟩,hv,hz⟩ s'=>k q zs H' e ?_ (s2.trans s'));rw[hz,hu,h1,h2,hv];refine⟨?_,λx hm=>?_,?_⟩
  .rw[Wq,Wq,Wq];have:=ltk ys a;have:=ldr ys (a+2);have:=List.length_take_le 1 (ys.drop (a+1));have:=ldr ys (a+1);show _+1+_<=300;omega
  .rcases WF.mp hm with hm|hm
   .rcases WF.mp hm with hm|hm
    .rcases WF.mp hm with hm|hm
     .exact hx1 x (XV hm)
     .exact hx1 x (Xi (XV hm))
    .rw[Wu.mp hm];omega
   .exact hx1 x (Xi hm)
  .rw[lF,lF,lF];have b1:=pL ys a;have b2:=zh ys (a:=a) (b:=a+1) (by omega);have b3:=pL (ys.drop (a+1)) 1;rw[XU,show a+1+1=a+2 from rfl]at b3;have b4:=Dc y;omega
 refine bn (bw (dz ac ar)) (λ_=>?_) (λ_=>?_)
 .refine ba (λv H'=>∃q:Z1,v=.ref q/\H' q=some (.lst ((ys.take a++ys.drop (a+1)).map V.str))/\ak H H') (λQ q=>eX (ky (ac rfl) (ac rfl) ep) (λH1 s1=>lK (a:=a+1) (ac rfl) (zw (ac rfl)) (s1 _ _ ep)) (λu v hu hv=>by rw[hu,hv];have:=ltk ys a;have:=ldr ys (a+1);omega) _ λq' zs H' e ⟨u,v,hu,hv,hz⟩ s'=>q _ _ ⟨q',rfl,by rw[e,hz,hu,hv],s'⟩) ?_;rintro _ H2 ⟨q2,rfl,e2,s2⟩;have ep2:=s2 _ _ ep;have sb:=yd ys a;generalize ys.take a++ys.drop (a+1)=lf at e2 sb;have ll:lf.length<=120:=Ye sb.length_le n1;exact cr (eX (eX (ky (ac rfl) (ac rfl) e2) (λH1 s1=>oq (bP (ac rfl) (ac rfl) (.inl (aV.of (s1 _ _ ep2))) eyV)) (λu v hu hv=>by rw[hu,hv];have:=ltk lf t;show _+1<=1000;omega)) (λH1 s1=>lK (a:=t) (ac rfl) (ac rfl) (s1 _ _ e2)) (λu v hu hv=>by obtain⟨u1,u2,h1,h2,rfl⟩:=hu;rw[h1,h2,hv,Wq];have:=ltk lf t;have:=ldr lf t;show _+1+_<=1000;omega) _ λq zs H' e ⟨u,v,⟨u1,u2,h1,h2,hu⟩,hv,hz⟩ s'=>k q zs H' e (by rw[hz,hu,h1,h2,hv];exact uo (Yd _) ll (λx h=>hx1 x (sb.subset h)) (Ye (xr sb) hh) (by omega)) (s2.trans s'))
 refine bn (bw (dz ac ar)) (λ_=>?_) (λ_=>?_)
 .refine ba (λv H'=>∃q:Z1,v=.ref q/\H' q=some (.lst ((oM.take 7).map V.str))/\ak H H') (λQ q=>dR (iH _ ⟨by show 7<=h9;decide,λp hp=>q _ _ ⟨p,rfl,aj,(ak.refl H).upd hp⟩⟩)) ?_;rintro _ H1 ⟨f1,rfl,e1,s1⟩;refine ba (λv H'=>∃q:Z1,v=.ref q/\H' q=some (.lst ((oM.take 12).map V.str))/\ak H1 H') (λQ q=>nu (lR (v:=.ref f1) ac (dR (iH _ ⟨by show 5<=h9;decide,λp hp=>⟨f1,p,_,_,rfl,rfl,((ak.refl H1).upd hp) _ _ e1,aj,by show 12<=h9;decide,λp2 hp2=>q _ _ ⟨p2,rfl,aj,((ak.refl H1).upd hp).upd hp2⟩⟩⟩)))) ?_;rintro _ H2 ⟨f2,rfl,e2,s2⟩;refine ba (λv H'=>∃q:Z1,v=.ref q/\H' q=some (.lst (oM.map V.str))/\ak H2 H') (λQ q=>nu (lR (v:=.ref f2) ac (dR (bo ar (bo ar (de ⟨by show 2<=h9;decide,λp hp=>⟨f2,p,_,_,rfl,rfl,((ak.refl H2).upd hp) _ _ e2,aj,by show 14<=h9;decide,λp2 hp2=>q _ _ ⟨p2,rfl,aj,((ak.refl H2).upd hp).upd hp2⟩⟩⟩)))))) ?_;rintro _ H3 ⟨fl,rfl,e3,s3⟩;have s03:=(s1.trans s2).trans s3;have ep3:=s03 _ _ ep;obtain⟨pk,epk,hpk⟩:=Cy (ss:=oM) (i:=c / 10 % 14) (by omega) (by show _<(14:Int);omega);have pk100:pk.length<=100:=(by decide+kernel:∀z∈oM,z.length<=100) pk hpk;exact cr (eX (eX (ky (ac rfl) (ac rfl) ep3) (λH1 s1=>oq (bP (ac rfl) (bR (db (ac rfl) ar) ar) (.inl (aV.of (s1 _ _ e3))) epk)) (λu v hu hv=>by rw[hu,hv];have:=ltk ys t;show _+1<=1000;omega)) (λH1 s1=>lK (a:=t) (ac rfl) (ac rfl) (s1 _ _ ep3)) (λu v hu hv=>by obtain⟨u1,u2,h1,h2,rfl⟩:=hu;rw[h1,h2,hv,Wq];have:=ltk ys t;have:=ldr ys t;show _+1+_<=1000;omega) _ λq zs H' e ⟨u,v,⟨u1,u2,h1,h2,hu⟩,hv,hz⟩ s'=>k q zs H' e (by rw[hz,hu,h1,h2,hv];exact uo (Yd _) n1 hx1 hh pk100) (s03.trans s'))
 refine bn (bw (dz ac ar)) (λ_=>?_) (λ_=>?_)
 .exact cr (ky (ac rfl) (ac rfl) ep _ λq zs H' e hz s'=>k q zs H' e (by rw[hz];exact DX (Xp _ _) n1 hx1 hh) s')
 .exact cr (eX (eX (ky (ac rfl) (ac rfl) ep) (λH1 s1=>Dz (m:=100) (λQ q=>dH (af (bP (ac rfl) (ac rfl) (.inl (aV.of (s1 _ _ ep))) eyV) (af (ac rfl) aC)) ⟨y,m,rfl,y30,λz H' hz s'=>q z H' hz s'⟩)) (λu v hu hv=>by obtain⟨z,hv,_⟩:=hv;rw[hu,hv];have:=ltk ys a;show _+1<=1000;omega)) (λH1 s1=>lK (a:=a+1) (ac rfl) (zw (ac rfl)) (s1 _ _ ep)) (λu v hu hv=>by obtain⟨u1,u2,h1,⟨z,h2,_⟩,rfl⟩:=hu;rw[h1,h2,hv,Wq];have:=ltk ys a;have:=ldr ys (a+1);show _+1+_<=1000;omega) _ λq zs H' e ⟨u,v,⟨u1,u2,h1,⟨z,h2,hz1⟩,hu⟩,hv,hz⟩ s'=>k q zs H' e (by rw[hz,hu,h1,h2,hv];exact uo (Yj _) n1 hx1 hh hz1) s')
end
def AV{n:Nat}{xs ys:List Int}(hq:aV K H q (xs.map V.int))(hd:aV K H d (ys.map V.int)):uw K H (n+1) (.ref q) (.ref d) (decide (xs=ys)):=by
 by_cases hl:xs.length=ys.length
 .have h:=uw.lst (n:=n) (es:=λi=>decide (xs[i]? =ys[i]?)) hq hd (by rw[Wm,Wm,hl]) λi x y hx hy=>by
   rw[Wr]at hx hy;obtain⟨u,hu,rfl⟩:=Y7.mp hx;obtain⟨v,hv,rfl⟩:=Y7.mp hy;rw[hu,hv];have:decide (some u=some v)=decide (u=v):=by rw[decide_eq_decide];exact⟨Sd,Se _⟩
   rw[this];exact .flat rfl rfl
  have e:((List.range (xs.map V.int).length).all λi=>decide (xs[i]? =ys[i]?))=decide (xs=ys):=by
   rw[YF,WC,decide_eq_true_iff]
   constructor
   .intro h;refine Xe λi=>?_
    by_cases hi:i<xs.length
    .exact Sa (h i (WG.mpr (by rw[Wm];exact hi)))
    .rw[WX (by omega),WX (by omega)]
   .rintro rfl i _;exact R6 rfl
  rw[e]at h;exact h
 .rw[R7 (λe=>hl (by rw[e]))];exact .len hq hd (by rw[Wm,Wm];exact hl)
def Lu{hs ns:List Int}(p:ns.Perm (wo hs))(s:ns.Pairwise (·<=·))(h:hs.Pairwise (·<=·)):hs=ns<->hs.Nodup:=by
 constructor
 .intro e;rw[e];exact p.nodup_iff.mpr (wm hs)
 .intro nd;have l1:(wo hs).length<=hs.length:=BD hs;have l2:hs.length<=(wo hs).length:=vy nd λx hx=>yV.mpr hx;have p2:hs.Perm (wo hs):=sR (wm hs) (λk hk=>yV.mp hk) (by omega);exact(p2.trans p.symm).eq_of_pairwise (λa b _ _ x y=>Int.le_antisymm x y) h s
def DY(p:hs'.Perm hs):Be wi hi hs'=Be wi hi hs:=by
 unfold Be;have e1:(hs'.all λh=>decide (0<=h/\h<=wi*hi - 1))=hs.all λh=>decide (0<=h/\h<=wi*hi - 1):=by rw[YF,WC,WC];exact⟨λh x hx=>h x (p.mem_iff.mpr hx),λh x hx=>h x (p.mem_iff.mp hx)⟩
 have e2:decide hs'.Nodup=decide hs.Nodup:=by rw[decide_eq_decide];exact p.nodup_iff
 rw[p.length_eq,e1,e2]
def Ej(h:Tv a σ H x)(h1:x=true->R true H)(h2:x=false->b σ H R):MH a b σ H R:=h _ (by
 cases x with
 |true=>exact jG (h1 rfl)
 |false=>exact km (h2 rfl))
def Ph(m:Int):V->Bool
 | .int h=> !decide (0<=h/\h<m)
 |_=>false
def BY:Sp:=λvs H Q _=>∃p q wi hi hs,vs=[.ref p,.ref q]/\H p=some (.lst [.int wi,.int hi])/\H q=some (.lst (hs.map V.int))/\hs.Pairwise (·<=·)/\hs.length<=400/\∀H',ak H H'->Q (.bl (Be wi hi hs)) H'
section
def mW(F:fg K "_law_is_board" "_law_is_board" dt f fd)(T:Txt mg aS aA aE aW aO aF):bM P w K mg R4 fM 1 f fd ["_law_sides",aJ] BY:=by
 refine F.ok2 jd ?_;rintro _ _ _ _ H _ Q _ hr hu ⟨p,q,wi,hi,hs,rfl,ep,eq,srt,hl,k⟩;refine⟨_,(ae (bc (PW.pt (dQ (bE (ms K hu ag (cV K bh ag) ag)) (dD (bE (ms K hu ag (cV K bh ag) ag))))) (am (aG fb)) aD)
  (ae (aw 2 jd.nd (aq (cV K bh ag) (cV K bh ag)))
  (ae (bc (PW.pt (dQ (bf K hu (kB (eI K) bJ T.len (bW cA)) dL) (dD (bf K hu cA (kB (LC P w hr) jt T.sorted (bW (nI (PC P w K hr) nn T.set (bW cA)))))))) (am (aG fb)) aD)
  (am (aG (fX K hu (eN (cj (N:=[cu,cf]) (src:=[none,some 2]) (ao dt) ["_law_sides",aJ,cf]) (mw K cA) (λ_ _ _=>(bu (i:=0) [cu,cf])) (λ_ _ _=>(ki (bE (ms K hu ag bh cA)))) (λ_ _ _=>bh)) (bG pan))))))),?_⟩
 have i0:∀H',ak H H'->Ev (nM K (cc 0) (tC (.int 0))) [some (.ref p),some (.ref q),none] H' (.int wi):=λH' s'=>bP ac ar (.inl (aV.of (s' _ _ ep))) rfl;have i1:∀H',ak H H'->Ev (nM K (cc 0) (tC (.int 1))) [some (.ref p),some (.ref q),none] H' (.int hi):=λH' s'=>bP ac ar (.inl (aV.of (s' _ _ ep))) rfl;refine bn (dY (cQ (rN ar (i0 H (ak.refl H)) (λ_=>ar))) (λ_=>cQ (rN ar (i1 H (ak.refl H)) (λ_=>ar)))) (λh=>?_) (λh=>?_)
 .refine aZ ar ?_;have e:Be wi hi hs=false:=by
   unfold Be;cases h1:decide (1<=wi/\wi<=8)with
   |false=>rfl
   |true=>rw[h1]at h;have h:(!decide (1<=hi/\hi<=8))=true:=h;rw[YH]at h;rw[h];rfl
  rw[<-e];exact k _ (ak.refl H)
 rw[YV,YI,YI]at h;have w18:=Sa h.1;have h18:=Sa h.2;have m64:=Yz w18.2 h18.2 (by omega) (by omega);refine cq (iE (i0 H (ak.refl H)) (i1 H (ak.refl H)) (.inl ⟨by omega,by omega⟩)) ?_;have eb:Be wi hi hs=(decide ((hs.length:Int)<wi*hi)&&hs.all (λh=>decide (0<=h/\h<=wi*hi - 1))&&decide hs.Nodup):=by unfold Be;rw[h.1,h.2];rfl
 rw[eb]at k;generalize wi*hi=m at m64 k ⊢;refine cF (λb H'=>b= !(decide ((hs.length:Int)<m)&&decide hs.Nodup)/\ak H H') (λR r=>?_) (λH' h=>?_) (λH1 h=>?_)
 .refine Ej (bw (Ke (cS ac (.inl (aV.of eq))) ac)) (λh1=>r _ _ ⟨?_,ak.refl H⟩) (λh1=>?_)
  .have h1:=Sa h1;rw[Wm]at h1;rw[R7 (by omega)];rfl
  .rw[decide_eq_false_iff_not,Wm]at h1;refine uD (jL (lR (ac rfl) (Mn (FK ac (Ac (aV.of eq) (by omega) (by have:=BD hs;omega) λns' q2 H' pm sr nq s' e'=>⟨_,AV (aV.of (s' _ _ eq)) (aV.of e'),r _ _ ⟨?_,s'⟩⟩)))));rw[R6 (show(hs.length:Int)<m by omega),YE];exact Se Bool.not (decide_eq_decide.mpr (Lu pm sr srt))
 .refine aZ ar ?_;have e:(decide ((hs.length:Int)<m)&&hs.all (λh=>decide (0<=h/\h<=m - 1))&&decide hs.Nodup)=false:=by
   have h:=h.1;have h:=h.symm;rw[YH,Bool.and_eq_false_iff]at h
   rcases h with h|h
   .rw[h];rfl
   .rw[h,YJ]
  rw[e]at k;exact k _ h.2
 .have hb:(decide ((hs.length:Int)<m)&&decide hs.Nodup)=true:=by have h:=h.1.symm;rw[YI]at h;exact h
  rw[YC]at hb;rw[hb.1,hb.2,YE,YK]at k;have s1:=h.2;have eq1:=s1 _ _ eq;refine cr (jL (fH ac (aV.of eq1) (by rw[Wm,Sw];omega) rfl (Ph m) id (λx hx=>?_) (λx hx _=>?_) (λd hd=>dR (de ⟨Yh _,λd2 hd2=>⟨_,ou (((ak.refl _).upd hd2) _ _ aj) aj,?_⟩⟩))))
  .obtain⟨z,_,rfl⟩:=Wo.mp hx;exact cQ (Ei ar ac (λ_=>ac rfl))
  .obtain⟨z,_,rfl⟩:=Wo.mp hx;exact ac rfl
  .have e:decide ((((hs.map V.int).filter (Ph m)).map id)=[])=hs.all λh=>decide (0<=h/\h<=m - 1):=by
    rw[YF,decide_eq_true_iff,WZ,Xj,WC]
    constructor
    .intro h x hx;have:=h (.int x) (Wo.mpr ⟨x,hx,rfl⟩);have this:¬(!decide (0<=x/\x<m))=true:=this;rw[YW,YI]at this;have:=Sa this;exact R6 (by omega)
    .intro h v hv;obtain⟨x,hx,rfl⟩:=Wo.mp hv;have:=Sa (h x hx);show¬(!decide (0<=x/\x<m))=true;rw[R6 (by omega)];decide
   rw[e];exact k _ ((s1.upd hd).upd hd2)
end
structure Mw(H:Hp)(pl kd rd td ed:Z1)(ks:List Str)(us:List (dI×Z1))(ts es:List ((Str×Str)×Z1)):Prop where
 at_:H pl=some (.lst [.ref kd,.ref rd,.ref td,.ref ed])
 kds:H kd=some (.lst (ks.map V.str))
 rls:H rd=some (.lst (gx us))
 ra:ic H us
 tns:H td=some (.lst (dn ts))
 ta:gZ H ts
 ens:H ed=some (.lst (dn es))
 ea:gZ H es
theorem Mw.same(h:Mw H pl kd rd td ed ks us ts es)(s:ak H H'):Mw H' pl kd rd td ed ks us ts es:=
 ⟨s _ _ h.at_,s _ _ h.kds,s _ _ h.rls,h.ra.same s,s _ _ h.tns,h.ta.same s,s _ _ h.ens,h.ea.same s⟩
def lQ(i:Int):Int:=if i<0 then -i else i
def rOk(ks:List Str)(u:dI):Bool:= !(!decide (u.kd∈ks)||(decide (u.so="jump")&& !decide (u.ai="hit")))&& !(decide (limS u.so<(if lQ u.up > lQ u.ax then lQ u.up else lQ u.ax))||(decide (u.ax=0)&&decide (u.up=0)))
def KD(ks fs:List Str)(z:Str×Str):Bool:= !(!decide (z.1∈ks)||(!decide (z.2∈ks)||decide (z.2∈fs)))
def K6(h1:u.so∈sortsL)(h2:u.ai∈aimsL):jV u.vs ks=rOk ks u:=by
 show(decide (u.kd∈ks)&&decide (u.so∈sortsL)&&decide (u.ai∈aimsL)&& !(decide (u.so="jump")&& !decide (u.ai="hit"))&&oE u.so (.int u.ax) (.int u.up))=_;unfold rOk;have e:oE u.so (.int u.ax) (.int u.up)= !(decide (limS u.so<(if lQ u.up > lQ u.ax then lQ u.up else lQ u.ax))||(decide (u.ax=0)&&decide (u.up=0))):=by show(decide (-limS u.so<=u.ax/\u.ax<=limS u.so)&&decide (-limS u.so<=u.up/\u.up<=limS u.so)&& !(decide (V.int u.ax=.int 0)&&decide (V.int u.up=.int 0)))=_;rw[Bool.not_or];have v:∀i:Int,decide (V.int i=.int 0)=decide (i=0):=λi=>decide_eq_decide.mpr ⟨λh=>by injection h,λh=>by rw[h]⟩;rw[v,v];refine Se (· &&_) ?_;rw[YF,YC,YH,decide_eq_true_iff,decide_eq_true_iff,decide_eq_false_iff_not];generalize limS u.so=l;unfold lQ;split<;>split<;>split<;>omega
 rw[e,R6 h1,R6 h2];cases decide (u.kd∈ks)<;>cases(decide (u.so="jump")&& !decide (u.ai="hit"))<;>simp
theorem yb:∀ts:List (Str×Str),ts.all (KD ks fs)=(ts.all (λz=>decide (z.1∈ks)&&decide (z.2∈ks))&& !(ts.any λz=>decide (z.2∈fs)))
 | []=>rfl
 |z::ts=>by rw[WE,WE,WS,yb ts];unfold KD;cases decide (z.1∈ks)<;>cases decide (z.2∈ks)<;>cases decide (z.2∈fs)<;>simp
def PU(hk:∀k∈ks,letB (.str k)=true)(hu:∀u∈us,u.so∈sortsL/\u.ai∈aimsL)(he:∀z∈es,z.1∈endsL):MM ks us ts es=((decide (1<=ks.length/\ks.length<=6)&&(decide ks.Nodup&&decide (us.length<=24)))&&(us.all (rOk ks)&&((decide (ts.length<=6)&&(decide (es.length<=6)&&decide (ts.map (·.1)).Nodup))&&(ts.all (KD ks (ts.map (·.1)))&&es.all λz=>decide (z.2∈ks))))):=by unfold MM;rw[WC.mpr hk,mJ (q:=rOk ks) λu h=>K6 (hu u h).1 (hu u h).2,mJ (l:=es) (q:=λz=>decide (z.2∈ks)) λz h=>by rw[R6 (he z h),YE],yb];generalize decide (1<=ks.length/\ks.length<=6)=a1;generalize decide ks.Nodup=a2;generalize decide (us.length<=24)=a3;generalize us.all (rOk ks)=a4;generalize decide (ts.length<=6)=a5;generalize decide (es.length<=6)=a6;generalize decide (ts.map (·.1)).Nodup=a7;generalize(ts.all λz=>decide (z.1∈ks)&&decide (z.2∈ks))=a8;generalize(ts.any λz=>decide (z.2∈ts.map (·.1)))=a9;generalize(es.all λz=>decide (z.2∈ks))=a10;cases a1<;>cases a2<;>cases a3<;>cases a4<;>simp;cases a5<;>cases a6<;>cases a7<;>cases a8<;>cases a9<;>rfl
def OP(ss:List Str):decide ((((kU ss).length:Nat):Int)=(((ss.map V.str).length:Nat):Int))=decide ss.Nodup:=by
 rw[Wm]
 by_cases hn:ss.Nodup
 .rw[R6 hn,R6 (by rw[(iq _).mpr hn])]
 .rw[R7 hn,R7 (λz=>hn ((iq _).mp (by omega)))]
def g5(h:H p=some (.tup [a,b,c,d,e]))(q:R (((((σ.set i (some a)).set j (some b)).set k (some c)).set l (some d)).set m (some e)) H):Dk K 5 (iT (gName i) (iT (gName j) (iT (gName k) (iT (gName l) (iT (gName m) AR))))) (.ref p) σ H R:=
 ⟨p,_,rfl,dU.of h,rfl,_,_,rfl,_,_,rfl,_,_,rfl,_,_,rfl,_,_,rfl,rfl,q⟩
def BX:Sp:=λvs H Q _=>∃pl kd rd td ed ks us ts es,vs=[.ref kd,.ref rd,.ref td,.ref ed]/\Mw H pl kd rd td ed ks us ts es/\(∀k∈ks,letB (.str k)=true)/\(∀u∈us.map (·.1),u.so∈sortsL/\u.ai∈aimsL)/\(∀z∈es.map (·.1),z.1∈endsL)/\ts.length<=400/\es.length<=400/\
 ∀H',ak H H'->Q (.bl (MM ks (us.map (·.1)) (ts.map (·.1)) (es.map (·.1)))) H'
section
def nZ(F:fg K "_law_is_game" "_law_is_game" dj f fd)(T:Txt mg aS aA aE aW aO aF):bM P w K mg R4 fM 1 f fd [au,bB,bA,dg] BX:=by
 refine F.ok2 cn ?_;rintro _ _ _ _ H _ Q _ hr hu ⟨pl,kd,rd,td,ed,ks,us,ts,es,rfl,G,hk,hus,hes,tl,el,k⟩;refine⟨_,(ae (bc (PW.pt (dQ (bE (ms K hu ag (kB (eI K) bJ T.len (bW bh)) ag)) (dQ (bf K hu (kB jM bJ T.len (bW (nI (yY K hr) nn T.set (bW bh)))) (kB (eI K) bJ T.len (bW bh))) (dD (bf K hu (kB (eI K) bJ T.len (bW cA)) ag))))) (am (aG fb)) aD)
  (ae (iC SZ rfl (mw K cA) (MJ K (n:=5) (cz (bN 4 cn.nd) (cz (bN 5 cn.nd) (cz (bN 6 cn.nd) (cz (bN 7 cn.nd) (cz (bN 8 cn.nd) iP)))))) (ae (aw 9 cn.nd (cV K (bG (cE ag ag)) (nI eC hU T.int (bW (fX K hu (cv 5) aI)))))
  (ae (bc (PW.pt (dQ (bf K hu (cv 4) bh) (dD (PW.pt (mR (bf K hu (cv 5) aI) (kG (bf K hu (cv 6) aI))))))) (am (aG fb)) aD)
  (am (bc (PW.pt (dQ (bf K hu (kB (A6 rfl) Mj T.max (cE (kB rB DV T.abs (bW (cv 7))) (kB rB DV T.abs (bW (cv 8))))) (cv 9)) (dD (PW.pt (mR (bf K hu (cv 7) ag) (kG (bf K hu (cv 8) ag))))))) (am (aG fb)) aD)))))
  (ae (ie (i:=10) rfl (cj (N:=[cO]) (src:=[none]) (ao dj) [au,bB,bA,dg,"_law_kind",bi,"_law_aim","_law_across","_law_up","_law_far","_law_firsts",cO]) (mw K dL) (λ_ _ _=>(bu (i:=0) [cO])) (λ_ _ _=>bI) (λ_ _ _=>(cV K bh ag)) cn.nd rfl (Or.inl rfl) rfl (Or.inl rfl))
  (ae (bc (PW.pt (dQ (bf K hu (kB (eI K) bJ T.len (bW dL)) ag) (dQ (bf K hu (kB (eI K) bJ T.len (bW (cv 3))) ag) (dD (bf K hu (kB jM bJ T.len (bW (nI (yY K hr) nn T.set (bW (cv 10))))) (kB (eI K) bJ T.len (bW (cv 10)))))))) (am (aG fb)) aD)
  (ae (iC SZ rfl (mw K dL) (bN 11 cn.nd) (am (bc (PW.pt (dQ (bf K hu (cV K (cv 11) ag) bh) (dQ (bf K hu (cV K (cv 11) ag) bh) (dD (bf K hu (cV K (cv 11) ag) (cv 10)))))) (am (aG fb)) aD)))
  (am (aG (fX K hu (eN (cj (N:=[cO,au]) (src:=[none,some 0]) (ao dj) [au,bB,bA,dg,"_law_kind",bi,"_law_aim","_law_across","_law_up","_law_far","_law_firsts",cO]) (mw K (cv 3)) (λ_ _ _=>(bu (i:=0) [cO,au])) (λ_ _ _=>(ki (bf K hu (cV K bh ag) cA))) (λ_ _ _=>bh)) (bG pan))))))))),?_⟩
 show cm _ _ _ [oR kd,oR rd,oR td,oR ed,none,none,none,none,none,none,none,none] H;rw[PU hk hus hes]at k;have lk:((ks.map V.str).length:Int)=ks.length:=by rw[Wm]
 have lr:((gx us).length:Int)=(us.map (·.1)).length:=by rw[Wm,Wm]
 have lt:((dn ts).length:Int)=(ts.map (·.1)).length:=by rw[Wm,Wm]
 have le:((dn es).length:Int)=(es.map (·.1)).length:=by rw[Wm,Wm]
 have ek:=G.kds;have lset:∀{i:Nat}{σ:L2.St}{d:Z1}{ss:List Str}{H1:Hp}{R:Bool->Hp->Prop},σ[i]? =some (some (.ref d))->H1 d=some (.lst (ss.map V.str))->ss.length<=1000->(∀H',ak H1 H'->R (!decide ss.Nodup) H')->iG (eP K .NotEq (cB yW (bg (cB (uQ K) (bg (cc i) cw)) cw)) (cB (tN K) (bg (cc i) cw))) σ H1 R:=λ{i σ d ss H1 R} hi e hl q=>xF (pC (ss:=ss) (ac hi) (aV.of e) hl (λH4 s4=>lR (cS (ac hi) (.inl (aV.of (s4 _ _ e)))) (by
  show R (!decide ((((kU ss).length:Nat):Int)=(((ss.map V.str).length:Nat):Int))) H4;rw[OP];exact q _ s4)))
 refine cF (λb H'=>b= !(decide (1<=ks.length/\ks.length<=6)&&(decide ks.Nodup&&decide ((us.map (·.1)).length<=24)))/\ak H H') (λR r=>?_) (λH' h=>?_) (λH1 h=>?_)
 .refine Ej (cQ (rN ar (cS ac (.inl (aV.of ek))) (λ_=>ar))) (λh1=>r _ _ ⟨?_,ak.refl H⟩) (λh1=>?_)
  .rw[YH,decide_eq_false_iff_not]at h1;rw[R7 (by omega)];rfl
  .rw[YI]at h1;have h1:=Sa h1;rw[R6 (show 1<=ks.length/\ks.length<=6 by omega),YE]at r;refine lset rfl ek (by omega) λH2 s2=>?_;cases hn:decide ks.Nodup with
   |false=>
    rw[hn]at r;exact jG (r _ _ ⟨rfl,s2⟩)
   |true=>
    rw[hn,YE]at r;refine km (bw (rf (cS ac (.inl (aV.of (s2 _ _ G.rls)))) ar) _ (r _ _ ⟨?_,s2⟩));rw[lr]
    by_cases h24:(us.map (·.1)).length<=24
    .rw[R6 h24,R7 (by omega)];rfl
    .rw[R7 h24,R6 (by omega)];rfl
 .have h1:=h.1;have h1:=h1.symm;rw[YH]at h1;rw[h1]at k;exact aZ ar (k _ h.2)
 obtain⟨h1,s1⟩:=h;have h1:=h1.symm;rw[YI]at h1;rw[h1,YE]at k;have k:∀H',ak H1 H'->_:=λH' s'=>k H' (s1.trans s');have G1:=G.same s1;clear ek G;refine dJ (λσ' H'=>(∃o4 o5 o6 o7 o8 o9,σ'=[oR kd,oR rd,oR td,oR ed,o4,o5,o6,o7,o8,o9,none,none])/\(us.map (·.1)).all (rOk ks)=true/\ak H1 H') (λK' hK=>?_) ?_
 .refine kr (λv H'=>v=.ref rd/\H'=H1) (λQ z=>lR (ac rfl) (z _ _ ⟨rfl,rfl⟩)) ?_;rintro _ _ ⟨rfl,e0⟩;obtain rfl:=e0.symm;refine⟨rd,gx us,rfl,aV.of G1.rls,λi σ' H'=>(∃o4 o5 o6 o7 o8 o9,σ'=[oR kd,oR rd,oR td,oR ed,o4,o5,o6,o7,o8,o9,none,none])/\(∀j z,j<i->us[j]? =some z->rOk ks z.1=true)/\ak H1 H',⟨⟨_,_,_,_,_,_,rfl⟩,λj z hj=>Sc hj (Nat.not_lt_zero _),ak.refl _⟩,?_,?_,?_⟩
  .rintro i σ' H' _ ⟨_,_,s'⟩;exact aV.of (s' _ _ G1.rls)
  .rintro i x _ H2 hx ⟨⟨o4,o5,o6,o7,o8,o9,rfl⟩,hb,s2⟩;rw[Wr]at hx;obtain⟨u,hui,rfl⟩:=Y7.mp hx;have hm:=Ww hui;have G2:=G1.same s2;refine g5 (G2.ra u hm) ?_;have bad:rOk ks u.1=false->∀H',ak H1 H'->Q (.bl false) H':=λh H' s'=>by
    have e:(us.map (·.1)).all (rOk ks)=false:=by rw[Yc];exact⟨u.1,Wo.mpr ⟨u,hm,rfl⟩,by rw[h];decide⟩
    have:=k H' s';rw[e]at this;exact this
   refine ba (λv H'=>v=.int (limS u.1.so)/\ak H2 H') (λQ z=>mq (af ar (af ar aC)) (by decide) (λH'=>tZ (dq ac ar)) ?_ λH' s'=>z _ _ ⟨rfl,s'⟩) ?_
   .unfold limS
    by_cases h:u.1.so="leap"
    .rw[R9 h,R9 (R6 h)];rfl
    .rw[R8 h,R8 (by rw[R7 h];decide)];rfl
   rintro _ H3 ⟨rfl,s3⟩;have s13:=s2.trans s3;have G3:=G1.same s13;have er:rOk ks u.1=(!(!decide (u.1.kd∈ks)||(decide (u.1.so="jump")&& !decide (u.1.ai="hit")))&& !(decide (limS u.1.so<(if lQ u.1.up > lQ u.1.ax then lQ u.1.up else lQ u.1.ax))||(decide (u.1.ax=0)&&decide (u.1.up=0)))):=rfl
   refine bn (dY (bw (oo ac ac (.inl (aV.of G3.kds)))) (λ_=>oz (bw (dq ac ar)) (λ_=>bw (lJ ac ar)))) (λh=>?_) (λh=>?_)
   .exact aZ ar (bad (by rw[er,h];rfl) _ s13)
   rw[h]at er;refine kD (dY (bw (rf (L5 (Dy ac) (Dy ac)) ac)) (λ_=>oz (bw (dz ac ar)) (λ_=>bw (dz ac ar)))) (λh2=>?_) (λh2=>?_)
   .exact aZ ar (bad (by rw[er];unfold lQ;rw[h2];rfl) _ s13)
   .refine⟨⟨_,_,_,_,_,_,rfl⟩,λj z hj hz=>?_,s13⟩
    by_cases hji:j<i
    .exact hb j z hji hz
    .obtain rfl:j=i:=by omega
     rw[hui]at hz;obtain rfl:=Sd hz;rw[er];unfold lQ;rw[h2];rfl
  .rintro _ H2 ⟨⟨o4,o5,o6,o7,o8,o9,rfl⟩,hb,s2⟩;refine hK _ _ ⟨⟨_,_,_,_,_,_,rfl⟩,WC.mpr λy hy=>?_,s2⟩;obtain⟨z,hz,rfl⟩:=Wo.mp hy;obtain⟨j,hj⟩:=W0 hz;refine hb j z ?_ hj;rw[Wm];exact(Wz.mp hj).1
 rintro _ H2 ⟨⟨o4,o5,o6,o7,o8,o9,rfl⟩,ha,s2⟩;rw[ha,YE]at k;have k:∀H',ak H2 H'->_:=λH' s'=>k H' (s2.trans s');have G2:=G1.same s2;clear G1;refine ba (λv H'=>∃q,v=.ref q/\H' q=some (.lst (((ts.map (·.1)).map (·.1)).map V.str))/\ak H2 H') (λQ z=>?_) ?_
 .refine fH (rest:=[]) ac (aV.of G2.tns) (by rw[Wm,Sw];omega) rfl (λ_=>true) (λv=>match tupOf H2 v with|some xs=>xs.getD 0 .non|none=>.non) (λx hx=>fE) (λx hx _=>?_) (λp hp=>z _ _ ⟨p,rfl,?_,(ak.refl H2).upd hp⟩)
  .obtain⟨z,hz,rfl⟩:=Wo.mp hx;have e:=G2.ta z hz;refine bP ac ar (.inr (dU.of e)) ?_;simp only[tupOf,e];rfl
  .rw[aj,WP.mpr (λ_ _=>rfl),Ws,Ws,Ws];refine Se (λl=>some (HO.lst l)) (WK λz hz=>?_);have e:=G2.ta z hz;simp only[Function.comp,tupOf,e];rfl
 rintro _ H3 ⟨fq,rfl,ef,s3⟩;have k:∀H',ak H3 H'->_:=λH' s'=>k H' (s3.trans s');have G3:=G2.same s3;clear G2;generalize hfs:(ts.map (·.1)).map (·.1)=fs at k ef;have lf:fs.length=(ts.map (·.1)).length:=by rw[<-hfs,Wm]
 show cm _ _ _ [oR kd,oR rd,oR td,oR ed,o4,o5,o6,o7,o8,o9,oR fq,none] H3;refine cF (λb H'=>b= !(decide ((ts.map (·.1)).length<=6)&&(decide ((es.map (·.1)).length<=6)&&decide fs.Nodup))/\ak H3 H') (λR r=>?_) (λH' h=>?_) (λH4 h=>?_)
 .refine Ej (bw (rf (cS ac (.inl (aV.of G3.tns))) ar)) (λh1=>r _ _ ⟨?_,ak.refl _⟩) (λh1=>?_)
  .have h1:=Sa h1;rw[R7 (by omega)];rfl
  rw[decide_eq_false_iff_not]at h1;rw[R6 (show(ts.map (·.1)).length<=6 by omega),YE]at r;refine Ej (bw (rf (cS ac (.inl (aV.of G3.ens))) ar)) (λh2=>r _ _ ⟨?_,ak.refl _⟩) (λh2=>?_)
  .have h2:=Sa h2;rw[R7 (by omega)];rfl
  rw[decide_eq_false_iff_not]at h2;rw[R6 (show(es.map (·.1)).length<=6 by omega),YE]at r;exact lset rfl ef (by omega) λH4 s4=>r _ _ ⟨rfl,s4⟩
 .have h1:=h.1.symm;rw[YH]at h1;rw[h1]at k;exact aZ ar (k _ h.2)
 obtain⟨h1,s4⟩:=h;have h1:=h1.symm;rw[YI]at h1;rw[h1,YE]at k;have k:∀H',ak H4 H'->_:=λH' s'=>k H' (s4.trans s');have G4:=G3.same s4;have ef4:=s4 _ _ ef;clear G3 ef;refine dJ (λσ' H'=>(∃o11,σ'=[oR kd,oR rd,oR td,oR ed,o4,o5,o6,o7,o8,o9,oR fq,o11])/\(ts.map (·.1)).all (KD ks fs)=true/\H'=H4) (λK' hK=>?_) ?_
 .refine kr (λv H'=>v=.ref td/\H'=H4) (λQ z=>lR (ac rfl) (z _ _ ⟨rfl,rfl⟩)) ?_;rintro _ _ ⟨rfl,e0⟩;obtain rfl:=e0.symm;refine⟨td,dn ts,rfl,aV.of G4.tns,λi σ' H'=>(∃o11,σ'=[oR kd,oR rd,oR td,oR ed,o4,o5,o6,o7,o8,o9,oR fq,o11])/\(∀j z,j<i->ts[j]? =some z->KD ks fs z.1=true)/\H'=H4,⟨⟨_,rfl⟩,λj z hj=>Sc hj (Nat.not_lt_zero _),rfl⟩,?_,?_,?_⟩
  .rintro i σ' H' _ ⟨_,_,rfl⟩;exact aV.of G4.tns
  .rintro i x _ _ hx ⟨⟨o11,rfl⟩,hb,e⟩;obtain rfl:=e.symm;rw[Wr]at hx;obtain⟨u,hui,rfl⟩:=Y7.mp hx;have hm:=Ww hui;show qd _ _ _ _ [oR kd,oR rd,oR td,oR ed,o4,o5,o6,o7,o8,o9,oR fq,oR u.2] H4;have eu:=G4.ta u hm;have i0:Ev (nM K (cc 11) (tC (.int 0))) [some (.ref kd),some (.ref rd),some (.ref td),some (.ref ed),o4,o5,o6,o7,o8,o9,some (.ref fq),some (.ref u.2)] H4 (.str u.1.1):=bP ac ar (.inr (dU.of eu)) rfl;have i1:Ev (nM K (cc 11) (tC (.int 1))) [some (.ref kd),some (.ref rd),some (.ref td),some (.ref ed),o4,o5,o6,o7,o8,o9,some (.ref fq),some (.ref u.2)] H4 (.str u.1.2):=bP ac ar (.inr (dU.of eu)) rfl;have er:KD ks fs u.1= !(!decide (u.1.1∈ks)||(!decide (u.1.2∈ks)||decide (u.1.2∈fs))):=rfl
   refine kD (dY (bw (oo i0 ac (.inl (aV.of G4.kds)))) (λ_=>dY (bw (oo i1 ac (.inl (aV.of G4.kds)))) (λ_=>bw (xA i1 ac (.inl (aV.of ef4)))))) (λh=>?_) (λh=>?_)
   .refine aZ ar ?_;have e:(ts.map (·.1)).all (KD ks fs)=false:=by rw[Yc];exact⟨u.1,Wo.mpr ⟨u,hm,rfl⟩,by rw[er,h];decide⟩
    have:=k _ (ak.refl _);rw[e]at this;exact this
   .refine⟨⟨_,rfl⟩,λj z hj hz=>?_,rfl⟩
    by_cases hji:j<i
    .exact hb j z hji hz
    .obtain rfl:j=i:=by omega
     rw[hui]at hz;obtain rfl:=Sd hz;rw[er,h];rfl
  .rintro _ _ ⟨⟨o11,rfl⟩,hb,e⟩;refine hK _ _ ⟨⟨_,rfl⟩,WC.mpr λy hy=>?_,e⟩;obtain⟨z,hz,rfl⟩:=Wo.mp hy;obtain⟨j,hj⟩:=W0 hz;refine hb j z ?_ hj;rw[Wm];exact(Wz.mp hj).1
 rintro _ _ ⟨⟨o11,rfl⟩,hb,e⟩;obtain rfl:=e.symm;rw[hb,YE]at k;refine cr (jL (fH ac (aV.of G4.ens) (by rw[Wm,Sw];omega) rfl (λv=>match tupOf H4 v with|some [_,.str z]=> !decide (z∈ks)|_=>true) id (λx hx=>?_) (λx hx _=>ac rfl) (λd hd=>dR (de ⟨Yh _,λd2 hd2=>⟨_,ou (((ak.refl _).upd hd2) _ _ aj) aj,?_⟩⟩))))
 .obtain⟨z,hz,rfl⟩:=Wo.mp hx;have e:=G4.ea z hz;simp only[tupOf,e];exact bw (oo (bP ac ar (.inr (dU.of e)) rfl) ac (.inl (aV.of G4.kds)))
 .have e:decide (((dn es).filter (λv=>match tupOf H4 v with|some [_,.str z]=> !decide (z∈ks)|_=>true)).map id=[])=(es.map (·.1)).all λz=>decide (z.2∈ks):=by
   rw[YF,decide_eq_true_iff,WZ,Xj,WC]
   constructor
   .intro h x hx;obtain⟨z,hz,rfl⟩:=Wo.mp hx;have:=h (.ref z.2) (Wo.mpr ⟨z,hz,rfl⟩);simp only[tupOf,G4.ea z hz]at this;simpa using this
   .intro h v hv;obtain⟨z,hz,rfl⟩:=Wo.mp hv;have:=h z.1 (Wo.mpr ⟨z,hz,rfl⟩);simp only[tupOf,G4.ea z hz];simpa using this
  rw[e];exact k _ (((ak.refl _).upd hd).upd hd2)
end
theorem Bx:∀{L:List (List Str)}{us:List V},Bo H us L->∃zs:List (Z1×List V),us=zs.map (λz=>V.ref z.1)/\zs.map (·.2)=L.map (λws=>ws.map V.str)/\∀z∈zs,H z.1=some (.lst z.2)
 | [],us,h=>by
   cases us with
   |nil=>exact⟨[],rfl,rfl,λ_ z=>(nomatch z)⟩
   |cons v us=>exact Sc h.1 (Yt _)
 |ws::L,us,h=>by
  cases us with
  |nil=>exact Sc h.1.symm (Yt _)
  |cons v us=>
   obtain⟨r,rfl,hr⟩:=h.2 0 v ws rfl rfl;obtain⟨zs,rfl,h1,h2⟩:=Bx ⟨Nat.succ.inj h.1,λi v ws a b=>h.2 (i+1) v ws a b⟩;refine⟨(r,ws.map V.str)::zs,rfl,by rw[WI,WI,h1],λz hz=>?_⟩
   rcases Wn.mp hz with rfl|hz
   .exact hr
   .exact h2 z hz
def sw(x:Str):List V:=(Sq x " ").map V.str
def ow(hi:σ[i]? =some (some (.ref d)))(ed:H d=some (.lst (ls.map V.str)))(hl:∀x∈ls,x.length<=100)(hn:ls.length<=400)(q:∀(l:Z1)(zs:List (Z1×List V))(H':Hp),H l=none->H' l=some (.lst (zs.map λz=>V.ref z.1))->zs.map (·.2)=(selJ ls j).map sw->(∀z∈zs,H' z.1=some (.lst z.2))->zs.length<=400->ak H H'->R (.ref l) H'):ia rS (bg (cc i) (bg (tC (.int (j:Int))) cw)) σ H R:=
 dH (af (ac hi) (af ar aC)) ⟨d,ls,(j:Int),rfl,ed,hl,by omega,λl us H' nl el W s=>by
  obtain⟨zs,rfl,h1,h2⟩:=Bx W;rw[AD,Ws]at h1;have ln:=Se List.length h1;rw[Wm,Wm]at ln;exact q l zs H' nl el h1 h2 (by rw[ln];exact Ye (WW _ _) hn) s⟩
def rY{ls:List Str}{j:Nat}{zs:List (Z1×List V)}{f:Str->List V}(h:zs.map (·.2)=(selJ ls j).map sw)(hf:∀x,lineI x=some j->sw x=f x):zs.map (·.2)=(selJ ls j).map f:=h.trans (WK λx hx=>hf x (fG hx).2)
def kz(h:tl σ H λv H1=>∃d,v=.ref d/\(∃xs,aV K H1 d xs)/\gq g tt te src σ Q (Km K d) H1):tComp (iS K tl) g tt te src σ H Q:=h
def jr(h:tComp (iS K (tC (.ref d))) g tt te src σ H Q):∃d',V.ref d=.ref d'/\(∃xs,aV K H d' xs)/\gq g tt te src σ Q (Km K d') H:=h
def mC(h:Ev te σ H (.str x))(hn:n9 x=true)(hl:x.length<=100):Ev (cB tS (bg te cw)) σ H (.int (fW x)):=λQ q=>h _ ⟨_,PK hn,by omega,q⟩
def vI{xs:List V}{i:Nat}(hl:Ev tl σ H (.ref p))(e:H p=some (.lst xs))(h:xs[i]? =some v):Ev (nM K tl (tC (.int (i:Int)))) σ H v:=bP hl ar (.inl (aV.of e)) (bK h)
def JR:Sp:=λvs H Q _=>∃d ls,vs=[.ref d]/\H d=some (.lst (ls.map V.str))/\(∀x∈ls,x.length<=100)/\ls.length<=400/\
 ∀pl kd rd td ed us ts es H',Mw H' pl kd rd td ed (pF ls) us ts es->us.map (·.1)=lj ls->ts.map (·.1)=rQ ls->es.map (·.1)=vP ls->ak H H'->Q (.ref pl) H'
structure RZ(P:Ss)(w:World)(K:Frag)(mg:Sf)(R4:SD):Prop where
 _law_words:fC P w K mg R4 "_law_words" [aH,bi] 4 rS
section
def mV(F:fg K "_law_parts_of" "_law_parts_of" cD f fd)(T:Txt mg aS aA aE aW aO aF)(C:RZ P w K mg R4):bM P w K mg R4 fM 5 f fd [aH] JR:=by
 refine F.ok2 dN ?_;rintro _ _ _ _ H _ Q _ hr hu ⟨d,ls,rfl,ed,hl,hn,k⟩;refine⟨_,(ae (ie (i:=1) rfl (cj (N:=[bp]) (src:=[none]) (ao cD) [aH,au,bB,cu,bA]) (mw K (aQ C._law_words hr (cE bh ag))) (λ_ _ _=>(bu (i:=0) [bp])) (λ_ _ _=>bI) (λ_ _ _=>(cV K bh ag)) dN.nd rfl (Or.inl rfl) rfl (Or.inl rfl))
  (ae (aw 2 dN.nd (bG pan))
  (ae (iC SZ rfl (mw K (aQ C._law_words hr (cE bh ag))) (bN 3 dN.nd) (am (kH (pU dL (eM (fU (cV K (cv 3) ag) (fU (cV K (cv 3) ag) (fU (cV K (cv 3) ag) (cE (nI eC hU T.int (bW (cV K (cv 3) ag))) (nI eC hU T.int (bW (cV K (cv 3) ag))))))))))))
  (ae (ie (i:=4) rfl (cj (N:=[bp]) (src:=[none]) (ao cD) [aH,au,bB,cu,bA]) (mw K (aQ C._law_words hr (cE bh ag))) (λ_ _ _=>(bu (i:=0) [bp])) (λ_ _ _=>bI) (λ_ _ _=>(eM (cE (cV K bh ag) (cV K bh ag)))) dN.nd rfl (Or.inl rfl) rfl (Or.inl rfl))
  (am (aG (bG (fU cA (fU dL (cE (cv 4) (eN (cj (N:=[bp]) (src:=[none]) (ao cD) [aH,au,bB,cu,bA]) (mw K (aQ C._law_words hr (cE bh ag))) (λ_ _ _=>(bu (i:=0) [bp])) (λ_ _ _=>bI) (λ_ _ _=>(eM (cE (cV K bh ag) (cV K bh ag))))))))))))))),?_⟩
 show cm _ _ _ [oR d,none,none,none,none] H;have sw2:∀{x:Str},Sq x " "=[wd x 0,wd x 1]->sw x=[.str (wd x 0),.str (wd x 1)]:=λh=>by unfold sw;rw[h];rfl
 have sw3:∀{x:Str},Sq x " "=[wd x 0,wd x 1,wd x 2]->sw x=[.str (wd x 0),.str (wd x 1),.str (wd x 2)]:=λh=>by unfold sw;rw[h];rfl
 have sw5:∀{x:Str},Sq x " "=[wd x 0,wd x 1,wd x 2,wd x 3,wd x 4]->sw x=[.str (wd x 0),.str (wd x 1),.str (wd x 2),.str (wd x 3),.str (wd x 4)]:=λh=>by unfold sw;rw[h];rfl
 have lf:∀{α:Type}{zs:List (Z1×List V)}{xs:List α}{f:α->List V}{n:Nat},zs.map (·.2)=xs.map f->(∀x,(f x).length=n)->∀z∈zs,z.2.length=n:=λ{α zs xs f n} h hn z hz=>by have hm:z.2∈zs.map (·.2):=Wo.mpr ⟨z,hz,rfl⟩;rw[h]at hm;obtain⟨x,_,e⟩:=Wo.mp hm;rw[<-e];exact hn x
 refine ba (λv H'=>∃x,v=.ref x/\H' x=some (.lst ((pF ls).map V.str))/\ak H H') (λQ z=>?_) ?_
 .refine kz (ow rfl ed hl hn λl zs H1 nl el m a ln s1=>jr ?_);have m:=rY m λx h=>sw2 (Ro h).1;refine ue ar el a (λy hy=>by rw[lf (n:=2) m (λ_=>rfl) y hy];decide) (by omega) λdl hdl=>z _ _ ⟨dl,rfl,?_,s1.upd hdl⟩;rw[aj,tM m λp=>p.getD 1 .non];unfold pF;rw[Ws];rfl
 rintro _ H1 ⟨kq,rfl,ek,s1⟩;refine ba (λv H'=>∃q,v=.ref q/\H1 q=none/\H'=L2.upd H1 q (.lst [])) (λQ z=>dR (de ⟨Yh _,λp hp=>z _ _ ⟨p,rfl,hp,rfl⟩⟩)) ?_;rintro _ H2 ⟨q,rfl,nq,eH⟩;have s2:ak H1 H2:=by rw[eH];exact(ak.refl H1).upd nq
 have q2:H2 q=some (.lst []):=by rw[eH];exact aj
 refine dJ (λσ' H'=>(∃o3,σ'=[oR d,oR kq,oR q,o3,none])/\∃us:List (dI×Z1),H' q=some (.lst (gx us))/\us.map (·.1)=lj ls/\ic H' us/\ak H1 H') (λK' hK=>?_) ?_
 .refine kr (λv H'=>∃(l:Z1)(zs:List (Z1×List V)),v=.ref l/\H2 l=none/\H' l=some (.lst (zs.map λz=>V.ref z.1))/\zs.map (·.2)=(selJ ls 3).map sw/\(∀z∈zs,H' z.1=some (.lst z.2))/\zs.length<=400/\ak H2 H') (λQ z=>ow rfl ((s1.trans s2) _ _ ed) hl hn λl zs H' nl el m a ln s'=>z _ _ ⟨l,zs,rfl,nl,el,m,a,ln,s'⟩) ?_;rintro _ H3 ⟨l,zs,rfl,nl,el,m,a,ln,s3⟩;have lq:l≠q:=λe=>by rw[e,q2]at nl;cases nl
  have lnz:zs.length=(selJ ls 3).length:=by have:=Se List.length m;rw[Wm,Wm]at this;exact this
  refine⟨l,zs.map λz=>V.ref z.1,rfl,aV.of el,λi σ' H'=>(∃o3,σ'=[oR d,oR kq,oR q,o3,none])/\∃us:List (dI×Z1),H' q=some (.lst (gx us))/\us.map (·.1)=(lj ls).take i/\ic H' us/\SameBut q H3 H',⟨⟨_,rfl⟩,[],s3 _ _ q2,rfl,λ_ z=>(nomatch z),SameBut.refl _⟩,?_,?_,?_⟩
  .rintro i σ' H' _ ⟨_,us,_,_,_,sb⟩;exact aV.of (sb _ _ el lq)
  .rintro i x _ H' hx ⟨⟨o3,rfl⟩,us,eq,um,ur,sb⟩;rw[Wr]at hx;obtain⟨z,hz,rfl⟩:=Y7.mp hx;have hm:=Ww hz;obtain⟨hi,hzi⟩:=Wz.mp hz;obtain⟨y,hy⟩:∃y,(selJ ls 3)[i]? =some y:=⟨_,Wp (by omega)⟩;have hym:=fG (Ww hy);obtain⟨sp5,_,_,_,_,n3,n4⟩:=Rn hym.2;have ez:z.2=[.str (wd y 0),.str (wd y 1),.str (wd y 2),.str (wd y 3),.str (wd y 4)]:=by have:=Se (λl=>l[i]?) m;simp only[Wr,hz,hy,Zc]at this;rw[Sd this,sw5 sp5]
   have zq:z.1≠q:=λe=>by have h1:=a z hm;rw[e,s3 _ _ q2,ez]at h1;cases h1
   have e1:=sb _ _ (a z hm) zq;rw[ez]at e1;show lS (DT _ _) _ [some (.ref d),some (.ref kq),some (.ref q),some (.ref z.1),none] H';have ix:∀{j:Nat}{v:V},[V.str (wd y 0),.str (wd y 1),.str (wd y 2),.str (wd y 3),.str (wd y 4)][j]? =some v->Ev (nM K (cc 3) (tC (.int (j:Int)))) [some (.ref d),some (.ref kq),some (.ref q),some (.ref z.1),none] H' v:=λh=>vI ac e1 h;have wl:∀j,(wd y j).length<=100:=λj=>wj (hl _ hym.1);refine DZ ac ⟨_,eq⟩ (BI (af (ix (j:=1) rfl) (af (ix (j:=0) rfl) (af (ix (j:=2) rfl) (af (mC (ix (j:=3) rfl) n3 (wl 3)) (af (mC (ix (j:=4) rfl) n4 (wl 4)) aC))))) (by show 5<=1000;decide) λp hp=>⟨gx us,?_,?_,⟨_,rfl⟩,us++[(sA y,p)],?_,?_,?_,?_⟩)
   .rw[av (ay eq hp)];exact eq
   .have:=Se List.length um;rw[Wm,WJ]at this;rw[Wm,Sw];omega
   .rw[aj];show _=some (HO.lst ((us++[(sA y,p)]).map λz=>V.ref z.2));rw[WA];rfl
   .have e2:(lj ls)[i]? =some (sA y):=by unfold lj;rw[Wr,hy];rfl
    rw[WA,um,W9,e2];rfl
   .intro z' hz'
    rcases WF.mp hz' with h|h
    .have h1:=ur z' h;have n1:z'.2≠q:=λe=>by rw[e,eq]at h1;cases h1
     rw[av n1,av (ay h1 hp)];exact h1
    .obtain rfl:=Wu.mp h;rw[av (Ne.symm (ay eq hp)),aj];rfl
   .intro b o hb nb;rw[av nb];have h1:=sb _ _ hb nb;rw[av (ay h1 hp)];exact h1
  .rintro _ H' ⟨⟨o3,rfl⟩,us,eq,um,ur,sb⟩;refine hK _ _ ⟨⟨_,rfl⟩,us,eq,?_,ur,λb o hb=>sb _ _ (s3 _ _ (s2 _ _ hb)) (ay hb nq)⟩;rw[um,Wm,lnz,WO (by unfold lj;rw[Wm];exact Yd _)]
 rintro _ H3 ⟨⟨o3,rfl⟩,us,eq,um,ur,s3⟩;refine ba (λv H'=>∃(x:Z1)(ts:List ((Str×Str)×Z1)),v=.ref x/\H' x=some (.lst (dn ts))/\ts.map (·.1)=rQ ls/\gZ H' ts/\ak H3 H') (λQ z=>?_) ?_
 .refine kz (ow (j:=4) rfl ((s1.trans s3) _ _ ed) hl hn λl zs H4 nl el m a ln s4=>jr ?_);have m:=rY m (f:=λx=>[.str (wd x 0),.str (wd x 1),.str (wd x 2)]) λx h=>sw3 (sh4 h).1;exact Qy (n:=3) (i:=1) (j:=2) (pr:=λx=>(wd x 1,wd x 2)) m (λ_=>rfl) (by decide) (by decide) (λ_=>rfl) ar el a (by omega) λx xs' H' c1 c2 c3 c4=>z _ _ ⟨x,xs',rfl,c1,c2,c3,s4.trans c4⟩
 rintro _ H4 ⟨tq,ts,rfl,et,tm,tr,s4⟩;show jx _ _ [oR d,oR kq,oR q,o3,oR tq] H4;refine cr (dR (bo ac (bo ac (bo ac (dM (kz (ow (j:=5) rfl (((s1.trans s3).trans s4) _ _ ed) hl hn λl zs H5 nl el m a ln s5=>jr ?_)))))));have m:=rY m (f:=λx=>[.str (wd x 0),.str (wd x 1)]) λx h=>sw2 (Rl h).1;refine Qy (n:=2) (i:=0) (j:=1) (pr:=λx=>(wd x 0,wd x 1)) m (λ_=>rfl) (by decide) (by decide) (λ_=>rfl) ar el a (by omega) λx es H6 c1 c2 c3 c4=>de ⟨by show 4<=h9;decide,λp hp=>?_⟩;have s7:=(ak.refl H6).upd (o:=.lst [.ref kq,.ref q,.ref tq,.ref x]) hp;have s46:=s5.trans c4;exact k p kq q tq x us ts es _ ⟨aj,(((s3.trans s4).trans s46).trans s7) _ _ ek,((s4.trans s46).trans s7) _ _ eq,ur.same ((s4.trans s46).trans s7),(s46.trans s7) _ _ et,tr.same (s46.trans s7),s7 _ _ c1,c3.same s7⟩ um tm c2 ((((s1.trans s3).trans s4).trans s46).trans s7)
end
def KI{l m:List Int}(h1:l.Pairwise (·<=·))(h2:m.Pairwise (·<=·))(p:l.Perm m):l=m:=p.eq_of_pairwise (λa b _ _ x y=>Int.le_antisymm x y) h1 h2
def qb(n:Nat):((List.range n).all λ_=>true)=true:=WC.mpr λ_ _=>rfl
def zx(ha:aV K H a xs)(hb:aV K H b ys)(hl:xs.length=ys.length)(he:∀(i:Nat)(x y:V),xs[i]? =some x->ys[i]? =some y->rJ K H n x y true):rJ K H (n+1) (.ref a) (.ref b) true:=by
 by_cases e:a=b
 .subst e;exact .same
 .have h:=rJ.lst ha hb e hl he;rw[qb]at h;exact h
def Kh(ha:dU K H a xs)(hb:dU K H b xs)(hf:∀x∈xs,flatV x=true):rJ K H (n+1) (.ref a) (.ref b) true:=by
 by_cases e:a=b
 .subst e;exact .same
 .have h:=rJ.tup (es:=λ_=>true) (n:=n) ha hb e (λi x y hx hy=>by
   rw[hx]at hy;obtain rfl:=Sd hy;exact jq (by rw[hf x (Ww hx)];rfl))
  rw[qb,beq_self_eq_true]at h;exact h
def uT{α β:Type}{xs ys:List (α×β)}(h:xs.map (·.1)=ys.map (·.1)):xs.length=ys.length:=by have:=Se List.length h;rw[Wm,Wm]at this;exact this
def yy{α β:Type}{xs ys:List (α×β)}(h:xs.map (·.1)=ys.map (·.1)){i:Nat}{x y:α×β}(hx:xs[i]? =some x)(hy:ys[i]? =some y):x.1=y.1:=by have:=Se (λl=>l[i]?) h;simp only[Wr,hx,hy,Zc]at this;exact Sd this
def mf{α:Type}{zs:List (α×Z1)}{i:Nat}(h:(zs.map λz=>V.ref z.2)[i]? =some x):∃z,zs[i]? =some z/\z∈zs/\x=.ref z.2:=by
 rw[Wr]at h;cases e:zs[i]? with
 |none=>rw[e]at h;cases h
 |some z=>rw[e]at h;exact⟨z,rfl,Ww e,(Sd h).symm⟩
def BQ:Sp:=λvs H Q _=>∃v:Int,vs=[.int v]/\Q (.bl true) H
def yl(K:Frag)(cB cG:Z1):Sp:=λvs H Q _=>∃(g b d pl kd rd td ed:Z1)(ls:List Str)(hs hs':List Int)(us us':List (dI×Z1))(ts ts' es es':List ((Str×Str)×Z1)),vs=[.ref g,.int (wiOf ls),.int (hiOf ls),.ref d,.ref pl,.str (stOf ls)]/\MB K cB cG H g ls b hs' us' ts' es'/\hs.Perm (mx ls)/\H d=some (.lst (hs.map V.int))/\hs.length<64/\Mw H pl kd rd td ed (pF ls) us ts es/\us.map (·.1)=lj ls/\ts.map (·.1)=rQ ls/\es.map (·.1)=vP ls/\∀H',ak H H'->Q (.bl true) H'
theorem MB.same{K:Frag}{cB cG:Z1}{H H':Hp}{g b:Z1}{ls:List Str}{hs':List Int}{us':List (dI×Z1)}{ts' es':List ((Str×Str)×Z1)}(h:MB K cB cG H g ls b hs' us' ts' es')(s:ak H H'):MB K cB cG H' g ls b hs' us' ts' es':=
 ⟨h.bd.same s,h.pm,h.gm.same s,h.um,h.ur.same s,h.tm,h.tr.same s,h.em,h.er.same s⟩
structure CSm(P:Ss)(w:World)(K:Frag)(mg:Sf)(R4:SD):Prop where
 _law_whole:fC P w K mg R4 "_law_whole" ["_law_thing"] 1 BQ
section
def qr(F:fg K "_law_whole" "_law_whole" gf f fd)(T:Txt mg aS aA aE aW aO aF):bM P w K mg R4 fM 1 f fd ["_law_thing"] BQ:=by refine F.ok2 qi ?_;rintro _ _ _ _ H _ Q _ hr _ ⟨v,rfl,q⟩;refine⟨_,(am (aG (eE (Ec .int T.isinstance T.int hU bh) (fo (DN (Ec .bool T.isinstance T.bool zI bh)))))),?_⟩;exact aZ (dc (Dw ac) (λ_=>Ds (Dw ac))) q
def tD{f cB cG:Z1}{fd:SU}(F:fg K "_law_same" "_law_same" gQ f fd)(T:Txt mg aS aA aE aW aO aF)(B:Bm K cB)(D:FP K cG)(C:CSm P w K mg R4):bM P w K mg R4 fM 2 f fd ["_law_game",bX,bY,aJ,aL,bL] (yl K cB cG):=by
 refine F.ok2 jC ?_;rintro _ _ _ _ H _ Q _ hr _ ⟨g,b,d,pl,kd,rd,td,ed,ls,hs,hs',us,us',ts,ts',es,es',rfl,GA,pm0,hd,h64,PT,um,tm,em,k⟩;have pm:hs'.Perm hs:=GA.pm.trans pm0.symm;have eum:us'.map (·.1)=us.map (·.1):=GA.um.trans um.symm;have etm:ts'.map (·.1)=ts.map (·.1):=GA.tm.trans tm.symm;have eem:es'.map (·.1)=es.map (·.1):=GA.em.trans em.symm;obtain⟨wi,hwi⟩:∃wi,wi=wiOf ls:=⟨_,rfl⟩;obtain⟨hi,hhi⟩:∃hi,hi=hiOf ls:=⟨_,rfl⟩;obtain⟨st,hst⟩:∃st,st=stOf ls:=⟨_,rfl⟩;rw[<-hwi,<-hhi,<-hst];have hu:=LV hr;refine⟨_,(ae (aw 6 jC.nd (m7 K bh))
  (ae (bc (bf K hu (eM (fU (m7 K (cv 6)) (cE (m7 K (cv 6)) (m7 K (cv 6))))) (eM (fU cA (cE dL (kB (yX K) jt T.sorted (bW (cv 3))))))) (am (aG fb)) aD)
  (ae (iC SZ rfl (mw K (m7 K bh)) (bN 7 jC.nd) (ae (bc (bE (bF (Ec .tuple T.isinstance T.tuple v7 (cv 7)))) (am (aG fb)) aD)
  (am (bc (PW.pt (dQ (bE (bF (aQ C._law_whole hr (bW (cV K (cv 7) ag))))) (dD (bE (bF (aQ C._law_whole hr (bW (cV K (cv 7) ag)))))))) (am (aG fb)) aD))))
  (ae (bc (PW.pt (dQ (bE (bF (aQ C._law_whole hr (bW (m7 K (cv 6)))))) (dQ (bE (bF (aQ C._law_whole hr (bW (m7 K (cv 6)))))) (dD (bf K hu (m7 K bh) (cv 5)))))) (am (aG fb)) aD)
  (am (aG (fX K hu (bG (fU (m7 K bh) (fU (m7 K bh) (cE (m7 K bh) (m7 K bh))))) (cv 4)))))))),?_⟩
 show cm _ _ _ [oR g,oJ wi,oJ hi,oR d,oR pl,oT st,none,none] H;refine cq (i:=6) (v:=.ref b) (gD ac (GA.gm.board D)) ?_;obtain⟨hq,fh,eh⟩:=GA.bd.holes B;refine cF (λb H'=>b=false/\ak H H') (λQ z=>?_) (λH' h=>by cases h.1) (λH1 h=>?_)
 .refine xF (BI (af (gD ac (hwi▸GA.bd.wide B)) (af (gD ac (hhi▸GA.bd.high B)) (af (gD ac fh) aC))) (by show 3<=1000;decide) λp hp=>?_);have s1:=(ak.refl H).upd (o:=.tup [.int wi,.int hi,.ref hq]) hp;have e1:(upd H p (.tup [.int wi,.int hi,.ref hq])) p=some (.tup [.int wi,.int hi,.ref hq]):=aj;generalize upd H p (.tup [.int wi,.int hi,.ref hq])=H1 at s1 e1 ⊢;refine zW (bo ac (bo ac (dM (FK (ac rfl) ⟨hs,aV.of (s1 _ _ hd),h64,λhs2 q pm2 sr2 hq2=>de ⟨by show 3<=h9;decide,λp2 hp2=>?_⟩⟩))));have e:hs2=hs':=KI sr2 GA.bd.srt (pm2.trans pm.symm);subst e;have s2:=(ak.refl H1).upd (o:=.lst (hs2.map V.int)) hq2;have e2:(upd H1 q (.lst (hs2.map V.int))) q=some (.lst (hs2.map V.int)):=aj;generalize upd H1 q (.lst (hs2.map V.int))=H2 at s2 e2 hp2 ⊢;have s3:=(ak.refl H2).upd (o:=.tup [.int wi,.int hi,.ref q]) hp2;refine⟨true,?_,z _ _ ⟨rfl,(s1.trans s2).trans s3⟩⟩;have h:=uw.tup (es:=λ_=>true) (n:=19) (dU.of ((s2.trans s3) _ _ e1)) (dU.of (K:=K) (aj (H:=H2) (a:=p2))) (λi x y hx hy=>?_)
  .exact h
  .rcases i with _|_|_|i
   .obtain rfl:=Sd hx;obtain rfl:=Sd hy;exact jq rfl
   .obtain rfl:=Sd hx;obtain rfl:=Sd hy;exact jq rfl
   .obtain rfl:=Sd hx;obtain rfl:=Sd hy;refine zx (n:=18) (aV.of (((s1.trans s2).trans s3) _ _ eh)) (aV.of (s3 _ _ e2)) rfl λj x y hx hy=>?_;rw[hx]at hy;obtain rfl:=Sd hy;obtain⟨m,_,rfl⟩:=Wo.mp (Ww hx);exact jq rfl
   .cases hx
 obtain⟨_,s1⟩:=h;have GA1:=GA.same s1;obtain⟨rq,fr,er⟩:=GA1.gm.rules D;refine dJ (λσ' H'=>(∃o7,σ'=[oR g,oJ wi,oJ hi,oR d,oR pl,oT st,oR b,o7])/\H'=H1) (λK' hK=>?_) ?_
 .refine kr (K:=K) (λv H'=>v=.ref rq/\H'=H1) (λQ z=>(gD ac fr) _ (z _ _ ⟨rfl,rfl⟩)) ?_;rintro _ _ ⟨rfl,e0⟩;obtain rfl:=e0.symm;refine⟨rq,gx us',rfl,aV.of er,λi σ' H'=>(∃o7,σ'=[oR g,oJ wi,oJ hi,oR d,oR pl,oT st,oR b,o7])/\H'=H1,⟨⟨_,rfl⟩,rfl⟩,?_,?_,?_⟩
  .rintro i σ' H' _ ⟨_,rfl⟩;exact aV.of er
  .rintro i x _ H' hx ⟨⟨o7,rfl⟩,e⟩;obtain rfl:=e.symm;obtain⟨u,_,hm,rfl⟩:=mf hx;have hp:=GA1.ur u hm;show cm _ _ _ [oR g,oJ wi,oJ hi,oR d,oR pl,oT st,oR b,oR u.2] H1;refine bn (b:=false) (cQ (b:=true) (bw (L6 ac hp))) (λh=>nomatch h) (λ_=>?_);have wh:∀{te:TE}{n:Int},Ev te [oR g,oJ wi,oJ hi,oR d,oR pl,oT st,oR b,oR u.2] H1 (.int n)->Tv (uE (iG (ia BQ (bg te cw)))) [some (.ref g),some (.int wi),some (.int hi),some (.ref d),some (.ref pl),some (.str st),some (.ref b),some (.ref u.2)] H1 false:=λ{te n} he=>cQ (b:=true) (bw (bq (af he aC) (λQ q=>⟨n,rfl,q⟩)));refine(dY (a:=false) (b:=false) (wh (bP (x:=.int u.1.ax) ac ar (.inr (dU.of hp)) rfl)) (λ_=>wh (bP (x:=.int u.1.up) ac ar (.inr (dU.of hp)) rfl))) _ ?_;exact km ⟨⟨_,rfl⟩,rfl⟩
  .rintro σ' H' ⟨ho,e⟩;exact hK _ _ ⟨ho,e⟩
 rintro _ H2 ⟨⟨o7,rfl⟩,e⟩;obtain rfl:=e.symm;have wh:∀{te:TE}{n:Int},Ev te [oR g,oJ wi,oJ hi,oR d,oR pl,oT st,oR b,o7] H1 (.int n)->Tv (uE (iG (ia BQ (bg te cw)))) [some (.ref g),some (.int wi),some (.int hi),some (.ref d),some (.ref pl),some (.str st),some (.ref b),o7] H1 false:=λ{te n} he=>cQ (b:=true) (bw (bq (af he aC) (λQ q=>⟨n,rfl,q⟩)));refine bn (b:=false) (dY (a:=false) (b:=false) (wh (gD ac (hwi▸GA1.bd.wide B))) (λ_=>dY (a:=false) (b:=false) (wh (gD ac (hhi▸GA1.bd.high B))) (λ_=>?_))) (λh=>nomatch h) (λ_=>?_)
 .have z:=bw (lJ (K:=K) (z:=st) (z':=st) (gD (to:=cc 0) (σ:=[oR g,oJ wi,oJ hi,oR d,oR pl,oT st,oR b,o7]) (H:=H1) ac (hst▸GA1.gm.stuck D)) (ac (n:=5) rfl));rw[show(!decide (st=st))=false by simp]at z;exact z
 obtain⟨kq,fk,ek⟩:=GA1.gm.kinds D;obtain⟨tq,ft,et⟩:=GA1.gm.turns D;obtain⟨eq,fe,ee⟩:=GA1.gm.ends D;have PT1:=PT.same s1;refine cr (Me (dR (bo (gD ac fk) (bo (gD ac fr) (bo (gD ac ft) (bo (gD ac fe) (de ⟨by show 4<=h9;decide,λp hp=>?_⟩)))))));have s2:=(ak.refl H1).upd (o:=.lst [.ref kq,.ref rq,.ref tq,.ref eq]) hp;have e2:(upd H1 p (.lst [.ref kq,.ref rq,.ref tq,.ref eq])) p=some (.lst [.ref kq,.ref rq,.ref tq,.ref eq]):=aj;generalize upd H1 p (.lst [.ref kq,.ref rq,.ref tq,.ref eq])=H2 at s2 e2 ⊢;have GA2:=GA1.same s2;have PT2:=PT1.same s2;refine(show Ev (cc 4) _ H2 (.ref pl)from ac rfl) _ ⟨true,?_,k _ (s1.trans s2)⟩;have prs:∀{xs ys:List ((Str×Str)×Z1)}{a c:Z1},xs.map (·.1)=ys.map (·.1)->gZ H2 xs->gZ H2 ys->H2 a=some (.lst (dn xs))->H2 c=some (.lst (dn ys))->rJ K H2 19 (.ref a) (.ref c) true:=λhm hx hy ha hc=>zx (n:=18) (aV.of ha) (aV.of hc) (by rw[Wm,Wm,uT hm]) λi x y h1 h2=>by
  obtain⟨z1,i1,m1,rfl⟩:=mf h1;obtain⟨z2,i2,m2,rfl⟩:=mf h2;have e:=yy hm i1 i2;have a1:=hx z1 m1;rw[e]at a1;refine Kh (n:=17) (dU.of a1) (dU.of (hy z2 m2)) λv hv=>?_;simp only[Wn,WB,or_false]at hv
  rcases hv with rfl|rfl<;>rfl
 have h:=uw.lst (es:=λ_=>true) (n:=19) (aV.of (K:=K) e2) (aV.of PT2.at_) rfl (λi x y hx hy=>?_)
 .exact h
 .rcases i with _|_|_|_|i
  .obtain rfl:=Sd hx;obtain rfl:=Sd hy;refine zx (aV.of (s2 _ _ ek)) (aV.of PT2.kds) rfl λj x y hx hy=>?_;rw[hx]at hy;obtain rfl:=Sd hy;obtain⟨m,_,rfl⟩:=Wo.mp (Ww hx);exact jq rfl
  .obtain rfl:=Sd hx;obtain rfl:=Sd hy;refine zx (aV.of (s2 _ _ er)) (aV.of PT2.rls) (by rw[Wm,Wm,uT eum]) λj x y h1 h2=>?_;obtain⟨z1,i1,m1,rfl⟩:=mf h1;obtain⟨z2,i2,m2,rfl⟩:=mf h2;have e:=yy eum i1 i2;have a1:=GA2.ur z1 m1;rw[e]at a1;refine Kh (dU.of a1) (dU.of (PT2.ra z2 m2)) λv hv=>?_;simp only[Wn,WB,or_false]at hv
   rcases hv with rfl|rfl|rfl|rfl|rfl<;>rfl
  .obtain rfl:=Sd hx;obtain rfl:=Sd hy;exact prs etm GA2.tr PT2.ta (s2 _ _ et) PT2.tns
  .obtain rfl:=Sd hx;obtain rfl:=Sd hy;exact prs eem GA2.er PT2.ea (s2 _ _ ee) PT2.ens
  .cases hx
end
def Rf(b1 b2 b3 b4 b5 b6 b7 b8:Bool):Str:=((((((((""++wS b1 txboard)++wS b2 "game")++wS b3 "line")++wS b4 "place")++wS b5 "other")++wS b6 "other")++wS b7 "other")++wS b8 "other")
def BR(mg:Sf)(K:Frag):Sp:=λvs H Q _=>∃a D dx b1 b2 b3 b4 b5 b6 b7 b8,vs=[.ref a]/\Kq mg K D b1 b2 b3 b4 b5 b6 b7 b8 false/\H a=some (iK (.ref D) dx a)/\∀H',ak H H'->Q (.str (Rf b1 b2 b3 b4 b5 b6 b7 b8)) H'
def ym(K:Frag)(cB cG cL:Z1):Sp:=λvs H Q _=>∃d ls,vs=[.ref d]/\H d=some (.lst (ls.map V.str))/\(∀x∈ls,x.length<=100)/\ls.length<=400/\
 (∀at_,bD 0 (-1) (ls.map lineI)=some at_->∀t x dx H',H' t=some (.tup [.str "line",.ref x])->H' x=some (iK (.ref cL) (some dx) x)->H' dx=some (.xd [("at",.int (at_:Int))])->ak H H'->Q (.ref t) H')/\
 (bD 0 (-1) (ls.map lineI)=none->bdOf ls=false->∀t x H',H' t=some (.tup [.str txboard,.ref x])->ak H H'->Q (.ref t) H')/\
 (bD 0 (-1) (ls.map lineI)=none->bdOf ls=true->gmOf ls=false->∀t x H',H' t=some (.tup [.str "game",.ref x])->ak H H'->Q (.ref t) H')/\
 (bD 0 (-1) (ls.map lineI)=none->bdOf ls=true->gmOf ls=true->∀t g b hs' us' ts' es' H',H' t=some (.tup [.str "",.ref g])->MB K cB cG H' g ls b hs' us' ts' es'->ak H H'->Q (.ref t) H')
structure CSd(P:Ss)(w:World)(K:Frag)(mg:Sf)(R4:SD)(cB cG cL cN cM:Z1):Prop where
 game_of:wf P w K mg R4 "game_of" ["lines"] 8 (yt K cB cG cL cN cM)
 _law_word:MF P w K mg R4 "_law_word" ["_law_e"] 1 (BR mg K)
def KA(h:te σ H D.rt)(h2:∀cls d H2,EX cls d H2->Zp K cls (.ref C0)=some true/\
 ∀a σ',σ'.length=σ.length->H2 a=none->ts a {nx:=λ_ _=>False,rt:=D.rt} (List.set σ' i (some (.ref a))) (upd H2 a (iK cls d a))):BJ K C0 EX i te ts D σ H:=⟨h,h2⟩
section
def tf(F:fg K "_law_word" "_law_word" gN f fd)(T:Txt mg aS aA aE aW aO aF):RW P w K mg R4 1 f fd ["_law_e"] (BR mg K):=by
 refine F.okH cy (λvs H Q E h=>?_) (λcdv A R5 s H vs Q ea hh hv hr h=>?_)
 .obtain⟨a,D,dx,b1,b2,b3,b4,b5,b6,b7,b8,rfl,_⟩:=h;rfl
 .obtain⟨a,D,dx,b1,b2,b3,b4,b5,b6,b7,b8,rfl,L,ha,k⟩:=h;unfold Rf at k;obtain rfl:a=ea:=by injection hv with z;injection z
  have hu:=hr.hu;obtain⟨c1,m_BadBoard,i1⟩:=L.f1;obtain⟨c2,m_BadGame,i2⟩:=L.f2;obtain⟨c3,m_BadLine,i3⟩:=L.f3;obtain⟨c4,m_BadPlace,i4⟩:=L.f4;obtain⟨c5,m_NoMove,i5⟩:=L.f5;obtain⟨c6,m_TooWide,i6⟩:=L.f6;obtain⟨c7,m_NoWord,i7⟩:=L.f7;obtain⟨c8,m_Over,i8⟩:=L.f8;obtain⟨c9,m_NothingBack,i9⟩:=L.f9;refine⟨_,(ae (aw 1 cy.nd aI) (ae (sQ SZ hh (bG (cE (eM (cE aI (kB (eB K) ck T.isinstance (cE bh (kg (v:=.ref _) ⟨_,m_BadBoard,rfl⟩))))) (eM (cE aI (kB (eB K) ck T.isinstance (cE bh (kg (v:=.ref _) ⟨_,m_BadGame,rfl⟩))))))) (yL (n:=2) hh (cz (bN 2 cy.nd) (cz (bN 3 cy.nd) iP))) (am (aw 1 cy.nd (aq cA (C2 dL (nI eC hU T.int (bW (cv 3)))))))) (ae (sQ SZ hh (bG (cE (eM (cE aI (kB (eB K) ck T.isinstance (cE bh (kg (v:=.ref _) ⟨_,m_BadLine,rfl⟩))))) (eM (cE aI (kB (eB K) ck T.isinstance (cE bh (kg (v:=.ref _) ⟨_,m_BadPlace,rfl⟩))))))) (yL (n:=2) hh (cz (bN 2 cy.nd) (cz (bN 3 cy.nd) iP))) (am (aw 1 cy.nd (aq cA (C2 dL (nI eC hU T.int (bW (cv 3)))))))) (ae (sQ SZ hh (bG (fU (kB (eB K) ck T.isinstance (cE bh (kg (v:=.ref _) ⟨_,m_NoMove,rfl⟩))) (fU (kB (eB K) ck T.isinstance (cE bh (kg (v:=.ref _) ⟨_,m_TooWide,rfl⟩))) (cE (kB (eB K) ck T.isinstance (cE bh (kg (v:=.ref _) ⟨_,m_NoWord,rfl⟩))) (kB (eB K) ck T.isinstance (cE bh (kg (v:=.ref _) ⟨_,m_Over,rfl⟩))))))) (bN 3 cy.nd) (am (aw 1 cy.nd (aq cA (C2 aI (nI eC hU T.int (bW (cv 3)))))))) (ae (bc (PW.pt (dQ (bF (kB (eB K) ck T.isinstance (cE bh (kg (v:=.ref _) ⟨_,m_NothingBack,rfl⟩)))) (dD (bE (bF (kB (eB K) ck T.isinstance (cE bh (yO (v:=.ty "ValueError") rfl T.ValueError qE rfl)))))))) (am (aw 1 cy.nd (aq cA aI))) aD) (am (aG cA))))))),?_⟩;show cm _ _ _ [oR a,none,none,none] H;have is:∀{σ:St}{H':Hp}{te:TE}{c:Z1}{b:Bool},ak H H'->Ev te σ H' (.ref a)->Zf K (.ref D) (.ref c)=some b->Ev (cB (C8 K) (bg te (bg (tC (.ref c)) cw))) σ H' (.bl b):=λs e i=>zu (af e (af ar aC)) Ez (s _ _ ha) L.x i;have s0:=ak.refl H;have lw:∀(b:Bool)(z:Str),(wS b z).length<=z.length:=λb z=>by
   unfold wS;split
   .exact Yd _
   .rw[show("":Str).length=0 by decide+kernel];exact Yh _
  have lc:∀x y:Str,(x++y).length=x.length+y.length:=λx y=>by rw[bV,gF,Wq];rfl
  have n5:(txboard:Str).length=5/\("game":Str).length=4/\("line":Str).length=4/\("place":Str).length=5/\("other":Str).length=5/\("":Str).length=0:=by decide+kernel
  obtain⟨n1,n2,n3,n4,n6,n0⟩:=n5;have pairs:∀(acc z1 z2:Str)(x1 x2:Bool)(H1:Hp)(q t1 t2:Z1)(o2 o3:Option V)(u:TS)(D':j6),acc.length<=100->z1.length<=10->z2.length<=10->ak H H1->H1 q=some (.lst [.ref t1,.ref t2])->H1 t1=some (.tup [.str z1,.bl x1])->H1 t2=some (.tup [.str z2,.bl x2])->
    (∀o2 o3 H2,ak H H2->u D' [some (.ref a),some (.str ((acc++wS x1 z1)++wS x2 z2)),o2,o3] H2)->
    Ea K a (Dj K a 2 (iT (gName 2) (iT (gName 3) AR))) (tAsg (iJ .Add (cc 1) (KC vi (cc 2) (cB tS (bg (cc 3) cw)))) (gName 1)) {D' with nx:=u D'} [some (.ref a),some (.str acc),o2,o3] (.ref q) H1:=by
   intro acc z1 z2 x1 x2 H1 q t1 t2 o2 o3 u D' la l1 l2 s1 eq e1 e2 go;have step:∀(acc' z:Str)(x:Bool)(t:Z1)(o2 o3:Option V)(H2:Hp)(R:St->Hp->Prop),acc'.length<=110->z.length<=10->ak H H2->H2 t=some (.tup [.str z,.bl x])->(∀o2 o3,R [some (.ref a),some (.str (acc'++wS x z)),o2,o3] H2)->
     Dj K a 2 (iT (gName 2) (iT (gName 3) AR)) (.ref t) [some (.ref a),some (.str acc'),o2,o3] H2 λσ2 H2=>iJ .Add (cc 1) (KC vi (cc 2) (cB tS (bg (cc 3) cw))) σ2 H2 λv H3=>R (σ2.set 1 (some v)) H3:=by
    intro acc' z x t o2 o3 H2 R la lz s2 et go2;refine⟨t,_,.ref D,dx,rfl,dU.of et,rfl,s2 _ _ ha,_,_,rfl,_,_,rfl,rfl,?_⟩;show iJ _ _ _ [some (.ref a),some (.str acc'),some (.str z),some (.bl x)] H2 _;refine eW (z:=acc') (z':=wS x z) ac (zt ac (tZ ac)) (by have:=lw x z;rw[Sw];omega) _ ?_;exact go2 _ _
   refine⟨q,_,.ref D,dx,λi σ' H'=>match i with
    |0=>(∃o2 o3,σ'=[oR a,oT acc,o2,o3])/\ak H1 H'
    |1=>(∃o2 o3,σ'=[oR a,oT (acc++wS x1 z1),o2,o3])/\ak H1 H'
    |_=>(∃o2 o3,σ'=[oR a,oT ((acc++wS x1 z1)++wS x2 z2),o2,o3])/\ak H1 H',rfl,aV.of eq,⟨⟨_,_,rfl⟩,ak.refl _⟩,?_,?_,?_⟩
   .intro i σ' H' _ h;have sx:ak H1 H':=by
     match i,h with
     |0,h=>exact h.2
     |1,h=>exact h.2
     |_+2,h=>exact h.2
    exact⟨aV.of (sx _ _ eq),(s1.trans sx) _ _ ha⟩
   .intro i x σ' H' hx h
    match i,hx,h with
    |0,hx,⟨⟨o2,o3,e⟩,sx⟩=>
     subst e;cases hx;exact step acc z1 x1 t1 o2 o3 H' _ (by omega) l1 (s1.trans sx) (sx _ _ e1) λp2 p3=>⟨⟨p2,p3,rfl⟩,sx⟩
    |1,hx,⟨⟨o2,o3,e⟩,sx⟩=>
     subst e;cases hx;exact step _ z2 x2 t2 o2 o3 H' _ (by rw[lc];have:=lw x1 z1;omega) l2 (s1.trans sx) (sx _ _ e2) λp2 p3=>⟨⟨p2,p3,rfl⟩,sx⟩
    |i+2,hx,_=>simp at hx
   .rintro σ' H' ⟨⟨o2,o3,rfl⟩,sx⟩;exact go o2 o3 H' (s1.trans sx)
  refine cq ar ?_;show cm _ _ _ [oR a,oT (""),none,none] H;refine xv (dR (dM (mO ar (is s0 ac i1) λt1 h1=>?_)));have sa:=s0.upd (o:=.tup [.str txboard,.bl b1]) h1;refine dM (mO ar (is sa ac i2) λt2 h2=>?_);have sb:=sa.upd (o:=.tup [.str "game",.bl b2]) h2;refine de ⟨by show 2<=h9;decide,λq hq=>?_⟩;have sc:=sb.upd (o:=.lst [.ref t1,.ref t2]) hq;refine pairs "" txboard "game" b1 b2 _ q t1 t2 _ _ _ _ (by omega) (by omega) (by omega) sc aj (by rw[av (ay (by rw[av (ay aj h2)];exact aj) hq),av (ay aj h2)];exact aj) (by rw[av (ay aj hq)];exact aj) λo2 o3 H2 s2=>?_;refine xv (dR (dM (mO ar (is s2 ac i3) λt3 h3=>?_)));have sd:=s2.upd (o:=.tup [.str "line",.bl b3]) h3;refine dM (mO ar (is sd ac i4) λt4 h4=>?_);have se:=sd.upd (o:=.tup [.str "place",.bl b4]) h4;refine de ⟨by show 2<=h9;decide,λq2 hq2=>?_⟩;have sf:=se.upd (o:=.lst [.ref t3,.ref t4]) hq2;refine pairs ((""++wS b1 txboard)++wS b2 "game") "line" "place" b3 b4 _ q2 t3 t4 _ _ _ _ (by rw[lc,lc];have:=lw b1 txboard;have:=lw b2 "game";omega) (by omega) (by omega) sf aj (by rw[av (ay (by rw[av (ay aj h4)];exact aj) hq2),av (ay aj h4)];exact aj) (by rw[av (ay aj hq2)];exact aj) λo2 o3 H3 s3=>?_;generalize hacc:((((""++wS b1 txboard)++wS b2 "game")++wS b3 "line")++wS b4 "place")=acc at*;have lacc:acc.length<=18:=by rw[<-hacc,lc,lc,lc,lc];have:=lw b1 txboard;have:=lw b2 "game";have:=lw b3 "line";have:=lw b4 "place";omega
  refine xv (dR (bo (is s3 ac i5) (bo (is s3 ac i6) (bo (is s3 ac i7) (bo (is s3 ac i8) (de ⟨by show 4<=h9;decide,λq3 hq3=>?_⟩))))));have sg:=s3.upd (o:=.lst [.bl b5,.bl b6,.bl b7,.bl b8]) hq3;have eq3:(upd H3 q3 (.lst [.bl b5,.bl b6,.bl b7,.bl b8])) q3=some (.lst [.bl b5,.bl b6,.bl b7,.bl b8]):=aj;generalize upd H3 q3 (.lst [.bl b5,.bl b6,.bl b7,.bl b8])=H4 at sg eq3 ⊢;have lens:∀(l:List Bool)(z:Str),(l.foldl (λz b=>z++wS b "other") z).length<=z.length+5*l.length:=λl=>by
   induction l with
   |nil=>intro z;exact Yd _
   |cons b l ih=>
    intro z;have h1:=ih (z++wS b "other");rw[lc]at h1;have:=lw b "other";rw[List.foldl_cons,Wx];omega
  refine⟨q3,_,.ref D,dx,λi σ' H'=>(∃o2 o3,σ'=[oR a,oT (([b5,b6,b7,b8].take i).foldl (λz b=>z++wS b "other") acc),o2,o3])/\ak H4 H',rfl,aV.of eq3,⟨⟨_,_,rfl⟩,ak.refl _⟩,λi σ' H' _ h=>⟨aV.of (h.2 _ _ eq3),(sg.trans h.2) _ _ ha⟩,?_,?_⟩
  .rintro i x _ H5 hx ⟨⟨o2,o3,rfl⟩,s5⟩;have key:∃b:Bool,x=.bl b/\[b5,b6,b7,b8].take (i+1)=[b5,b6,b7,b8].take i++[b]:=by
    match i,hx with
    |0,hx=>cases hx;exact⟨_,rfl,rfl⟩
    |1,hx=>cases hx;exact⟨_,rfl,rfl⟩
    |2,hx=>cases hx;exact⟨_,rfl,rfl⟩
    |3,hx=>cases hx;exact⟨_,rfl,rfl⟩
    |i+4,hx=>simp at hx
   obtain⟨b,rfl,et⟩:=key;have l5:=lens ([b5,b6,b7,b8].take i) acc;have l6:([b5,b6,b7,b8].take i).length<=4:=by rw[WJ];exact Nat.min_le_right _ _
   have l7:=lw b "other";show tAsg _ _ _ [some (.ref a),some (.str (([b5,b6,b7,b8].take i).foldl (λz b=>z++wS b "other") acc)),o2,some (.bl b)] H5;refine jz (eW (z':=wS b "other") ac (zt ar (tZ ac)) (by rw[Sw];omega)) ?_;refine⟨⟨o2,some (.bl b),?_⟩,s5⟩;rw[et,List.foldl_append];rfl
  .rintro _ H5 ⟨⟨o2,o3,rfl⟩,s5⟩;have s6:=sg.trans s5;have iv:∀z:Str,Ev (cB (C8 K) (bg (cc 0) (bg (tC (.ty "ValueError")) cw))) [some (.ref a),some (.str z),o2,o3] H5 (.bl true):=λz=>zu (af ac (af ar aC)) KS (s6 _ _ ha) L.x L.v;have in9:∀z:Str,Ev (cB (C8 K) (bg (cc 0) (bg (tC (.ref c9)) cw))) [some (.ref a),some (.str z),o2,o3] H5 (.bl false):=λz=>is s6 ac i9;refine bn (dY (bw (in9 _)) (λ_=>cQ (bw (iv _)))) (λh=>nomatch h) (λ_=>?_);exact aZ ac (k _ s6)
def tE{f cB cG cL cN cM cP:Z1}{fd:SU}(F:fg K "_law_said" "_law_said" gR f fd)(T:Txt mg aS aA aE aW aO aF)(m_PlayError:mg "PlayError"=some (.ref cP))(xL:Zp K (.ref cL) (.ref cP)=some true)(xN:Zp K (.ref cN) (.ref cP)=some true)(xM:Zp K (.ref cM) (.ref cP)=some true)(AL:Kq mg K cL false false true false false false false false false)(AN:Kq mg K cN true false false false false false false false false)(AM:Kq mg K cM false true false false false false false false false)(C:CSd P w K mg R4 cB cG cL cN cM):bM P w K mg R4 fM 9 f fd [aH] (ym K cB cG cL):=by
 refine F.ok2 lZ ?_;rintro _ _ _ s H _ Q _ hr _ ⟨d,ls,rfl,ed,hl,hn,k1,k2,k3,k4⟩;obtain⟨EX,hEX⟩:∃EX:XK,EX=λcls dx H'=>ak H H'/\((∃at_ d,bD 0 (-1) (ls.map lineI)=some at_/\cls=.ref cL/\dx=some d/\H' d=some (.xd [("at",.int (at_:Int))]))\/(bD 0 (-1) (ls.map lineI)=none/\bdOf ls=false/\cls=.ref cN/\dx=none)\/(bD 0 (-1) (ls.map lineI)=none/\bdOf ls=true/\gmOf ls=false/\cls=.ref cM/\dx=none)):=⟨_,rfl⟩;refine⟨_,(am (EK (i:=1) (EX:=EX) (λ_ _ hx=>(eM (cE aI (y7 C.game_of hx hr (bW bh))))) (λ_ _ z=>z) m_PlayError lZ.nd rfl (λ_=>(am (aG (eM (cE (LM C._law_word rfl (hr.n _) (bW cA)) cA))))))),?_⟩;show BJ _ _ _ _ _ _ _ [some (.ref d),none] H;refine KA (zW (bo ar (dM (zG (af ac aC) ⟨d,ls,rfl,ed,hl,hn,λat_ hw dx H' e s=>by rw[hEX];exact⟨s,.inl ⟨at_,dx,hw,rfl,rfl,e⟩⟩,λhw hb H' s=>by rw[hEX];exact⟨s,.inr (.inl ⟨hw,hb,rfl,rfl⟩)⟩,λhw hb hg H' s=>by rw[hEX];exact⟨s,.inr (.inr ⟨hw,hb,hg,rfl,rfl⟩)⟩,λhw hb hg g b hs' us' ts' es' H' G s=>de ⟨by show 2<=h9;decide,λt ht=>?_⟩⟩)))) λcls dx H2 hx=>?_
 .have st:=(ak.refl H').upd (o:=.tup [.str "",.ref g]) ht;exact k4 hw hb hg t g b hs' us' ts' es' _ aj (G.same st) (s.trans st)
 .rw[hEX]at hx;obtain⟨s2,hx⟩:=hx;have fin:∀{a:Z1}{σ':L2.St}{D:Z1}{dx:Option Z1}{b1 b2 b3 b4 b5 b6 b7 b8:Bool}{R:VK},σ'.length=2->H2 a=none->Kq mg K D b1 b2 b3 b4 b5 b6 b7 b8 false->(∀t H',H' t=some (.tup [.str (Rf b1 b2 b3 b4 b5 b6 b7 b8),.ref a])->ak (upd H2 a (iK (.ref D) dx a)) H'->R (.ref t) H')->jx (zX (bg (xO a (BR mg K) (bg (cc 1) cw)) (bg (cc 1) cw))) {nx:=λ_ _=>False,rt:=R} (List.set σ' 1 (some (.ref a))) (upd H2 a (iK (.ref D) dx a)):=λ{a σ' D dx b1 b2 b3 b4 b5 b6 b7 b8 R} hσ na AA go=>by
   match σ',hσ with
   | [u,v],_=>
     show jx _ _ [u,oR a] _;refine cr (zW (dM (FE (af ac aC) rfl ⟨a,D,dx,b1,b2,b3,b4,b5,b6,b7,b8,rfl,AA,aj,λH3 s3=>bo ac (de ⟨by show 2<=h9;decide,λt ht=>go t _ aj (s3.upd ht)⟩)⟩)))
  rcases hx with⟨at_,dd,hw,rfl,rfl,e⟩|⟨hw,hb,rfl,rfl⟩|⟨hw,hb,hg,rfl,rfl⟩
  .refine⟨xL,λa σ' hσ na=>fin hσ na AL λt H' et s'=>?_⟩;have sa:=(ak.refl H2).upd (o:=iK (.ref cL) (some dd) a) na;exact k1 at_ hw t a dd H' et (s' _ _ aj) (s' _ _ (sa _ _ e)) ((s2.trans sa).trans s')
  .refine⟨xN,λa σ' hσ na=>fin hσ na AN λt H' et s'=>?_⟩;have sa:=(ak.refl H2).upd (o:=iK (.ref cN) none a) na;exact k2 hw hb t a H' et ((s2.trans sa).trans s')
  .refine⟨xM,λa σ' hσ na=>fin hσ na AM λt H' et s'=>?_⟩;have sa:=(ak.refl H2).upd (o:=iK (.ref cM) none a) na;exact k3 hw hb hg t a H' et ((s2.trans sa).trans s')
end
def gE(h:hV K p ws)(hl:ws.length<=1000):∀H,dU K H p (ws.map V.str):=λH=>by obtain⟨its,n,sl,h1,h2⟩:=h;refine .inr ⟨_,its.toArray,n,h1,rfl,rfl,?_,by simpa using mM h2⟩;have:=h2.length;rw[Wm]at this;rw[Wt,Sw];omega
def dck_mk{P:Ss}{w:World}{K:Frag}{a:Z1}{es:List DictEntry}{ep:Nat}{fs:MC}(hk:K.lookup a=some ⟨.type "dict",none,.dict es.toArray ep,#[]⟩)(hs:(a == Ts)=false)(he:Vl (λ(e:DictEntry)(z:(Str×List Str)×Z1)=>e.hash=hashStr w z.1.1/\(∃t,e.key=.str z.1.1 t)/\e.val=.ref z.2) es fs)(nd:(fs.map (·.1.1)).Nodup):Ko P w K a (fkv fs):=by
 refine⟨hs,_,es.toArray,ep,fs.map λz=>(.inr z.1.1,Sx z.2),hk,⟨rfl,rfl,rfl⟩,rfl,λe hm=>?_,?_,?_,?_⟩
 .have hm:e∈es:=by simpa using hm
  have:∀{es:List DictEntry}{fs:MC},Vl (λ(e:DictEntry)(z:(Str×List Str)×Z1)=>e.hash=hashStr w z.1.1/\(∃t,e.key=.str z.1.1 t)/\e.val=.ref z.2) es fs->∀e∈es,∃k,(cU P w).is k e.key=true/\e.hash=(cU P w).hash k:=λh=>by
   induction h with
   |nil=>exact λe h=>nomatch h
   |cons h t ih=>
    intro e hm
    rcases Wn.mp hm with rfl|hm
    .obtain⟨h1,⟨t,h2⟩,h3⟩:=h;exact⟨.inr _,by rw[h2];exact kj P w _ t,h1⟩
    .exact ih e hm
  exact this he e hm
 .have:∀{es:List DictEntry}{fs:MC},Vl (λ(e:DictEntry)(z:(Str×List Str)×Z1)=>e.hash=hashStr w z.1.1/\(∃t,e.key=.str z.1.1 t)/\e.val=.ref z.2) es fs->Pairs (cU P w) es (fs.map λz=>((.inr z.1.1:Key),Sx z.2)):=λh=>by
   induction h with
   |nil=>exact .nil
   |cons h t ih=>
    obtain⟨h1,⟨t,h2⟩,h3⟩:=h;exact .cons (by rw[h2];exact kj P w _ t) h3 ih
  simpa using this he
 .rw[Ws];have e:((λx=>x.1)∘λz:(Str×List Str)×Z1=>((.inr z.1.1:Key),Sx z.2))=(Sum.inr∘λz:(Str×List Str)×Z1=>z.1.1):=rfl;rw[e,<-Ws];rw[XO]at nd ⊢;exact XQ.mpr (nd.imp λh e=>h (by injection e))
 .have:∀(fs:MC),KV (fkv fs) (fs.map λz=>((.inr z.1.1:Key),Sx z.2)):=λfs=>by
   induction fs with
   |nil=>exact .nil
   |cons z fs ih=>exact .cons ⟨rfl,rfl⟩ ih
  exact this fs
abbrev PV(b0 b1 b2 b3 b4 b5 b6 b7 b8 b9:Z1):MC:=[((txboard,[txboard,"number","number"]),b0),(("hole",["hole","number"]),b1),(("kind",["kind","letter"]),b2),(("leap",["rule","letter","aim","number","number"]),b3),(("slide",["rule","letter","aim","number","number"]),b4),(("jump",["rule","letter","aim","number","number"]),b5),(("turn",["turn","letter","letter"]),b6),(("without",["end","letter"]),b7),(("home",["end","letter"]),b8),((bU,[bU,"word"]),b9)]
def Fk(t0:hV K b0 [txboard,"number","number"])(t1:hV K b1 ["hole","number"])(t2:hV K b2 ["kind","letter"])(t3:hV K b3 ["rule","letter","aim","number","number"])(t4:hV K b4 ["rule","letter","aim","number","number"])(t5:hV K b5 ["rule","letter","aim","number","number"])(t6:hV K b6 ["turn","letter","letter"])(t7:hV K b7 ["end","letter"])(t8:hV K b8 ["end","letter"])(t9:hV K b9 [bU,"word"]):∀z∈PV b0 b1 b2 b3 b4 b5 b6 b7 b8 b9,∀H,dU K H z.2 (z.1.2.map V.str):=λz hz=>by
 simp only[Wn,WB,or_false]at hz
 rcases hz with rfl|rfl|rfl|rfl|rfl|rfl|rfl|rfl|rfl|rfl
 .exact gE t0 (by simp)
 .exact gE t1 (by simp)
 .exact gE t2 (by simp)
 .exact gE t3 (by simp)
 .exact gE t4 (by simp)
 .exact gE t5 (by simp)
 .exact gE t6 (by simp)
 .exact gE t7 (by simp)
 .exact gE t8 (by simp)
 .exact gE t9 (by simp)
def Ly(h:Av t σ H vs)(hz:vs.length<=1000)(hi:∀H',ak H H'->Ev ti σ H' (.int i))(e:oh vs i=some v)(q:∀H',ak H H'->Q v H'):nM K (rR t) ti σ H Q:=h _ ⟨Ye hz (by decide),λp hp=>hi _ ((ak.refl H).upd hp) _ ⟨vs,v,.inl (aV.of aj),e,q _ ((ak.refl H).upd hp)⟩⟩
def Mp(h:te σ H λv H1=>g v σ H1 D.nx):tAsg te g D σ H:=h
def FL(h:Ev ta σ H (.bl true))(q:tb σ H Q):rC ta tb σ H Q:=h _ (show if true=true then tb σ H Q else Q (.bl false) H from jG q)
def DC{n:Nat}{ws:List Str}(ha:H a=some (.lst (ws.map V.str)))(hb:H b=some (.lst (ws.map V.str))):uw K H (n+1) (.ref a) (.ref b) true:=by
 have h:=uw.lst (n:=n) (es:=λ_=>true) (aV.of (K:=K) ha) (aV.of hb) rfl λi x y hx hy=>by rw[hx]at hy;obtain rfl:=Sd hy;obtain⟨m,_,rfl⟩:=Wo.mp (Ww hx);exact jq rfl
 rw[qb]at h;exact h
def PY{nm:Str}(h:Ev ta σ H (.ref x))(xc:XC K C f nm)(ex:H x=some (iK (.ref C) (some d) x))(ed:H d=some (.xd [(nm,v)])):Ev (Rh K ta nm) σ H v:=λQ q=>h _ ⟨x,C,f,d,_,v,rfl,xc,ex,ed,by simp[List.lookup],q⟩
def RX(K:Frag)(cB cG cL:Z1)(H:Hp)(ls:List Str)(w:Str)(v:V):Prop:=
 (∃at_ x dx,bD 0 (-1) (ls.map lineI)=some at_/\w="line"/\v=.ref x/\H x=some (iK (.ref cL) (some dx) x)/\H dx=some (.xd [("at",.int (at_:Int))]))\/
 bD 0 (-1) (ls.map lineI)=none/\((bdOf ls=false/\w=txboard)\/(bdOf ls=true/\gmOf ls=false/\w="game")\/(bdOf ls=true/\gmOf ls=true/\w=""/\∃g b hs' us' ts' es',v=.ref g/\MB K cB cG H g ls b hs' us' ts' es'))
structure CL(P:Ss)(w:World)(K:Frag)(mg:Sf)(R4:SD)(cB cG cL:Z1):Prop where
 _law_at:fC P w K mg R4 "_law_at" [aB,bj] 1 (rV K)
 _law_side:fC P w K mg R4 "_law_side" [aM] 1 BS
 _law_holes:fC P w K mg R4 "_law_holes" [aB,bj,cf] 2 (qJ K)
 _law_parts:fC P w K mg R4 "_law_parts" [aB,bj] 3 (JQ K)
 _law_lines:fC P w K mg R4 "_law_lines" [bX,bY,aJ,aL,bL] 1 uL
 _law_bent:fC P w K mg R4 "_law_bent" [aH,aM,"_law_more"] 3 JV
 _law_said:fC P w K mg R4 "_law_said" [aH] 9 (ym K cB cG cL)
 _law_wrong_line:fC P w K mg R4 "_law_wrong_line" [aH] 4 (JN K)
 _law_whole:fC P w K mg R4 "_law_whole" ["_law_thing"] 1 BQ
 _law_words:fC P w K mg R4 "_law_words" [aH,bi] 4 rS
 _law_is_board:fC P w K mg R4 "_law_is_board" ["_law_sides",aJ] 1 BY
 _law_parts_of:fC P w K mg R4 "_law_parts_of" [aH] 5 JR
 _law_is_game:fC P w K mg R4 "_law_is_game" [au,bB,bA,dg] 1 BX
 _law_same:fC P w K mg R4 "_law_same" ["_law_game",bX,bY,aJ,aL,bL] 2 (yl K cB cG)
def yq(K:Frag):Sp:=λvs H Q _=>∃(a:Z1)(ns:List Int),vs=[.ref a]/\aV K H a (ns.map V.int)/\ns.length<=63/\∀H',Q (.bl true) H'
section
def Lr{f cB cG cL f':Z1}{fd:SU}(F:fg K "law" "law" ke f fd)(T:Txt mg aS aA aE aW aO aF)(xc:XC K cL f' "at")(C:CL P w K mg R4 cB cG cL):bM P w K mg R4 fM 10 f fd [aB] (yq K):=by
 refine F.ok2 fJ ?_;rintro _ _ _ s H _ Q _ hr hu ⟨a,ns,rfl,hS,hlen,k⟩;refine⟨_,(ae (aw 1 fJ.nd (aQ C._law_side hr (bW (aQ C._law_at hr (cE bh ag)))))
  (ae (aw 2 fJ.nd (aQ C._law_side hr (bW (aQ C._law_at hr (cE bh ag)))))
  (ae (aw 3 fJ.nd (aQ C._law_parts hr (cE bh ag)))
  (ae (aw 4 fJ.nd (cV K (bG (cT rfl)) (aq (aQ C._law_at hr (cE bh ag)) ag)))
  (ae (aw 5 fJ.nd (aQ C._law_lines hr (fU cA (fU dL (fU (aQ C._law_holes hr (fU bh (cE ag (aq cA dL)))) (cE (cv 3) (cv 4)))))))
  (ae (aw 5 fJ.nd (aQ C._law_bent hr (fU (cv 5) (cE (aQ C._law_at hr (cE bh ag)) (aQ C._law_at hr (cE bh ag))))))
  (ae (aw 6 fJ.nd (nI (vG K) jN T.list (bW (cv 5))))
  (ae (Cr (aQ C._law_said hr (bW (cv 6))) (MJ K (n:=2) (cz (bN 7 fJ.nd) (cz (bN 8 fJ.nd) iP))))
  (ae (aw 9 fJ.nd (aQ C._law_wrong_line hr (bW (cv 5))))
  (ae (bc (bf K hu (cv 6) (cv 5)) (am (aG fb)) aD)
  (ae (bc (bf K hu (cv 9) dE) (am (aG (eE (fX K hu (cv 7) aI) (eE (aQ C._law_whole hr (bW (yN (cv 8) rfl))) (fo (fX K hu (yN (cv 8) rfl) (cv 9))))))) aD)
  (ae (ie (i:=10) rfl (cj (N:=[cu]) (src:=[none]) (ao ke) [aB,bX,bY,aL,bL,aH,"_law_handed",aY,"_law_found","_law_at_here","_law_sides",aJ]) (mw K (kQ K (cV K (aQ C._law_words hr (cE (cv 5) ag)) ag) (bC ag) bH)) (λ_ _ _=>(bu (i:=0) [cu])) (λ_ _ _=>bI) (λ_ _ _=>(nI eC hU T.int (bW bh))) fJ.nd rfl (Or.inl rfl) rfl (Or.inl rfl))
  (ae (aw 11 fJ.nd (kB (yX K) jt T.sorted (bW (eN (cj (N:=[bp]) (src:=[none]) (ao ke) [aB,bX,bY,aL,bL,aH,"_law_handed",aY,"_law_found","_law_at_here","_law_sides",aJ]) (mw K (aQ C._law_words hr (cE (cv 5) ag))) (λ_ _ _=>(bu (i:=0) [bp])) (λ_ _ _=>bI) (λ_ _ _=>(nI eC hU T.int (bW (cV K bh ag))))))))
  (ae (bc (bE (bF (aQ C._law_is_board hr (cE (cv 10) (cv 11))))) (am (aG (fX K hu (cv 7) aI))) aD)
  (ae (aw 3 fJ.nd (aQ C._law_parts_of hr (bW (cv 5))))
  (ae (bc (bE (bF (aQ C._law_is_game hr (fU (cV K (cv 3) ag) (fU (cV K (cv 3) ag) (cE (cV K (cv 3) ag) (cV K (cv 3) ag))))))) (am (aG (fX K hu (cv 7) aI))) aD)
  (ae (aw 4 fJ.nd (cV K (cV K (aQ C._law_words hr (cE (cv 5) ag)) ag) ag))
  (am (aG (eE (fX K hu (cv 7) aI) (fo (aQ C._law_same hr (fU (cv 8) (fU (cV K (cv 10) ag) (fU (cV K (cv 10) ag) (fU (cv 11) (cE (cv 3) (cv 4)))))))))))))))))))))))))))),?_⟩
 show cm _ _ _ [oR a,none,none,none,none,none,none,none,none,none,none,none] H;refine ba (λv H'=>∃z:Int,v=.int z/\1<=z/\z<=8/\H'=H) (λQ q=>dH (af (bq (af ac (af ar aC)) (λQ q=>⟨a,ns,0,rfl,hS,by decide,by decide,q⟩)) aC) ⟨_,rfl,(mr ns 0).1,λz a b=>q _ _ ⟨z,rfl,a,b,rfl⟩⟩) ?_;rintro _ H1 ⟨wi,rfl,w1,w8,rfl⟩;refine ba (λv H'=>∃z:Int,v=.int z/\1<=z/\z<=8/\H'=H1) (λQ q=>dH (af (bq (af ac (af ar aC)) (λQ q=>⟨a,ns,1,rfl,hS,by decide,by decide,q⟩)) aC) ⟨_,rfl,(mr ns 1).1,λz a b=>q _ _ ⟨z,rfl,a,b,rfl⟩⟩) ?_;rintro _ H2 ⟨hi,rfl,h1,h8,rfl⟩;have m1:wi*hi<=8*8:=Yz w8 h8 (by omega) (by omega);have m0:1*1<=wi*hi:=Yz w1 h1 (by omega) (by omega);refine ba (λv H'=>∃(pl kd rd td ed:Z1)(ks:List Nat)(us:List (dI×Z1))(ts es:List ((Str×Str)×Z1)),v=.ref pl/\Bh H' pl kd rd td ed ks us ts es/\ak H2 H') (λQ z=>dH (af ac (af ar aC)) ⟨a,ns,4,rfl,hS,by decide,by decide,λpl kd rd td ed ks us ts es H' G _ _ _ _ _ s=>z _ _ ⟨pl,kd,rd,td,ed,ks,us,ts,es,rfl,G,s⟩⟩) ?_;rintro _ H3 ⟨pl,kd,rd,td,ed,ks,us,ts,es,rfl,G,s3⟩;refine ba (λv H'=>∃st,v=.str st/\st∈cW/\ak H3 H') (λQ z=>?_) ?_
 .have c0:=(mr ns 35).1;obtain⟨st,e,hst⟩:=yH (ss:=cW) (i:=lawAt ns 35 % 3) (by omega) (by show _<(3:Int);omega);exact Ly iH (by decide) (λH' s=>bR (bq (sp:=rV K) (af ac (af ar aC)) (λQ q=>⟨a,ns,35,rfl,(s3.trans s).seq hS,by decide,by decide,q⟩)) ar (by decide)) e (λH' s=>z _ _ ⟨st,rfl,hst,s⟩)
 rintro _ H4 ⟨st,rfl,hst,s4⟩;have s24:=s3.trans s4;have G4:=G.same s4;show cm _ _ _ [oR a,oJ wi,oJ hi,oR pl,oT st,none,none,none,none,none,none,none] H4;refine ba (λv H'=>∃(q:Z1)(ys:List Str),v=.ref q/\H' q=some (.lst (ys.map V.str))/\0<ys.length/\PB 120 62 ys/\ak H4 H') (λQ z=>?_) ?_
 .refine DR (bo ac (bo ac (dM (dH (af ac (af ar (af (iE ac ac (.inl ⟨by omega,by omega⟩)) aC))) ⟨a,ns,2,wi*hi,rfl,s24.seq hS,by decide,by decide,by omega,by omega,λd hs H5 z1 z2 z3 z4 z5 z6 s5=>bo ac (bo ac (de ?_))⟩))));have G5:=G4.same s5;exact⟨d,pl,kd,rd,td,ed,wi,hi,hs,ks,us,ts,es,st,rfl,z2,G5,⟨w1,w8⟩,⟨h1,h8⟩,λh hh=>by have:=z3 h hh;omega,z6,hst,λq z' H6 eq n0 b s6=>z _ _ ⟨q,z',rfl,eq,n0,b,s5.trans s6⟩⟩
 rintro _ H5 ⟨q5,ys,rfl,e5,n0,⟨n1,hy,hh⟩,s5⟩;have s25:=s24.trans s5;show cm _ _ _ [oR a,oJ wi,oJ hi,oR pl,oT st,oR q5,none,none,none,none,none,none] H5;have at_:∀{H':Hp}{i:Int}{σ:L2.St},σ[0]? =some (some (.ref a))->ak H2 H'->0<=i->i<=1000->Ev (ia (rV K) (bg (cc 0) (bg (tC (.int i)) cw))) σ H' (.int (lawAt ns i)):=λhσ s h0 h1=>bq (af (ac hσ) (af ar aC)) (λQ q=>⟨a,ns,_,rfl,s.seq hS,h0,h1,q⟩);refine ba (λv H'=>∃(q:Z1)(ls:List Str),v=.ref q/\H' q=some (.lst (ls.map V.str))/\Qz ls/\ak H5 H') (λQ z=>dH (af ac (af (at_ rfl s25 (by decide) (by decide)) (af (at_ rfl s25 (by decide) (by decide)) aC))) ⟨q5,ys,_,_,rfl,e5,n0,n1,hy,hh,λq zs H' e b s=>z _ _ ⟨q,zs,rfl,e,b,s⟩⟩) ?_;rintro _ H6 ⟨q,ls,rfl,e6,⟨l3,l1,l63⟩,s6⟩;refine ba (λv H'=>∃h,v=.ref h/\H' h=some (.lst (ls.map V.str))/\ak H6 H') (λQ z=>Px ac (.inl (aV.of e6)) λl hl=>z _ _ ⟨l,rfl,aj,(ak.refl H6).upd hl⟩) ?_;rintro _ H7 ⟨hq,rfl,e7,s7⟩;show cm _ _ _ [oR a,oJ wi,oJ hi,oR pl,oT st,oR q,oR hq,none,none,none,none,none] H7;have l4:ls.length<=400:=by omega
 clear e5 hy hh n0 n1;refine dJ (λσ' H'=>∃w v,σ'=[oR a,oJ wi,oJ hi,oR pl,oT st,oR q,oR hq,oT w,some v,none,none,none]/\RX K cB cG cL H' ls w v/\ak H7 H') (λKK hK=>?_) ?_
 .refine Mp (dH (af ac aC) ⟨hq,ls,rfl,e7,l1,l4,λat_ hw t x dx H' et ex ed s=>pM et (hK _ _ ⟨_,_,rfl,.inl ⟨at_,x,dx,hw,rfl,rfl,ex,ed⟩,s⟩),λhw hb t x H' et s=>pM et (hK _ _ ⟨_,_,rfl,.inr ⟨hw,.inl ⟨hb,rfl⟩⟩,s⟩),λhw hb hg t x H' et s=>pM et (hK _ _ ⟨_,_,rfl,.inr ⟨hw,.inr (.inl ⟨hb,hg,rfl⟩)⟩,s⟩),λhw hb hg t g b hs' us' ts' es' H' et G s=>pM et (hK _ _ ⟨_,_,rfl,.inr ⟨hw,.inr (.inr ⟨hb,hg,rfl,g,b,hs',us',ts',es',rfl,G⟩)⟩,s⟩)⟩)
 rintro _ H8 ⟨w,v,rfl,EN,s8⟩;have e8:=(s7.trans s8) _ _ e6;have e8h:=s8 _ _ e7;refine ba (λu H'=>u=Lg (bD 0 (-1) (ls.map lineI))/\ak H8 H') (λQ z=>dH (af ac aC) ⟨q,ls,rfl,e8,l1,by omega,λH' s=>z _ _ ⟨rfl,s⟩⟩) ?_;rintro _ H9 ⟨rfl,s9⟩;have e9:=s9 _ _ e8;refine cF (λb H'=>b=false/\H'=H9) (λR r=>uD (jL (lR (v:=.ref hq) ac (lR (v:=.ref q) ac ⟨true,DC (n:=19) (s9 _ _ e8h) e9,r _ _ ⟨rfl,rfl⟩⟩)))) (λH' h=>by cases h.1) (λH' h=>?_);obtain⟨_,rfl⟩:=h;show cm _ _ _ [oR a,oJ wi,oJ hi,oR pl,oT st,oR q,oR hq,oT w,some v,some (Lg (bD 0 (-1) (ls.map lineI))),none,none] H'
 rcases EN with⟨at_,x,dx,hw,rfl,rfl,ex,ed⟩|⟨hw,EN⟩
 .rw[hw];refine bn (b:=true) (bw (xz ac ar)) (λ_=>?_) (λh=>by cases h);have xg:∀{σ:L2.St},σ[8]? =some (some (.ref x))->Ev (Rh K (cc 8) "at") σ H' (.int (at_:Int)):=λh=>PY (ac h) xc (s9 _ _ ex) (s9 _ _ ed);refine aZ (dc (dq ac ar) (λ_=>dc (bq (af (xg rfl) aC) (λQ q=>⟨_,rfl,q⟩)) (λ_=>dz (xg rfl) ac))) ?_;rw[R6 rfl,R6 rfl];exact k _
 rw[hw];refine bn (b:=false) (bw (xy ac ar)) (λh=>by cases h) (λ_=>?_);have wdl:∀{y:Str}{j i:Nat},y∈selJ ls j->(wd y i).length<=100:=λhm=>wj (l1 _ (fG hm).1);refine ba (λu H2=>∃p,u=.ref p/\H2 p=some (.lst [.int (wiOf ls),.int (hiOf ls)])/\ak H' H2) (λQ z=>?_) ?_
 .refine kz (OV (C6 (ow (j:=0) rfl e9 l1 l4 λl zs H1 nl el m aa ln s1=>?_)));obtain⟨y,r,ey⟩:=J0 hw;have hm:y∈selJ ls 0:=by rw[ey];exact Wv ..
  obtain⟨p3,_,b1,b2⟩:=sh0 (fG hm).2;have w1:wiOf ls=fW (wd y 1):=by unfold wiOf;rw[ey];rfl
  have w2:hiOf ls=fW (wd y 2):=by unfold hiOf;rw[ey];rfl
  rw[ey]at m
  match zs,m,el,aa with
  |z0::zr,m,el,aa=>
   have m0:z0.2=sw y:=(List.cons.inj m).1;have a0:=aa z0 (Wv ..);rw[m0,show sw y=[.str (wd y 0),.str (wd y 1),.str (wd y 2)] by unfold sw;rw[p3];rfl]at a0;refine lR (v:=.int 0) ar ⟨_,.ref z0.1,.inl (aV.of el),bK (j:=0) rfl,?_⟩;refine fT (i:=1) ar _ (gy _ ⟨_,aV.of a0,λq1 hq1=>jr ?_⟩);have eq1:(L2.upd H1 q1 (.lst (cutV [V.str (wd y 0),.str (wd y 1),.str (wd y 2)] (some 1) none))) q1=some (.lst [V.str (wd y 1),.str (wd y 2)]):=aj;have s2:=s1.upd (o:=.lst (cutV [V.str (wd y 0),.str (wd y 1),.str (wd y 2)] (some 1) none)) hq1;generalize L2.upd H1 q1 (.lst (cutV [V.str (wd y 0),.str (wd y 1),.str (wd y 2)] (some 1) none))=H2 at eq1 s2 ⊢;refine fH (d:=q1) (xs:=[V.str (wd y 1),.str (wd y 2)]) (rest:=[]) ar (aV.of eq1) (by show 2<=h9;decide) rfl (λ_=>true) (λv=>.int (fW (iW v))) (λx hx=>fE) (λx hx _=>?_) (λp hp=>z _ _ ⟨p,rfl,?_,s2.upd hp⟩)
   .rcases Wn.mp hx with rfl|hx
    .exact mC ac b1 (wdl hm)
    .obtain rfl:=Wu.mp hx;exact mC ac b2 (wdl hm)
   .rw[aj,w1,w2];rfl
 rintro _ Ha ⟨sq,rfl,esd,sa⟩;refine ba (λu H2=>∃(p:Z1)(hs:List Int),u=.ref p/\H2 p=some (.lst (hs.map V.int))/\hs.Perm (mx ls)/\hs.Pairwise (·<=·)/\ak Ha H2) (λQ z=>?_) ?_
 .refine Mn (kz (ow (j:=1) rfl (sa _ _ e9) l1 l4 λl zs H1 nl el m aa ln s1=>jr ?_));have m:=rY m (f:=λx=>[.str (wd x 0),.str (wd x 1)]) λx h=>by unfold sw;rw[(Rp h).1];rfl
  have mem:∀y∈zs,∃x∈selJ ls 1,y.2=[V.str (wd x 0),.str (wd x 1)]:=λy hy=>by have hm:y.2∈zs.map (·.2):=Wo.mpr ⟨y,hy,rfl⟩;rw[m]at hm;obtain⟨x,hx,e⟩:=Wo.mp hm;exact⟨x,hx,e.symm⟩
  refine fH (d:=l) (xs:=zs.map λz=>V.ref z.1) (rest:=[]) ar (aV.of el) (by rw[Wm,Sw];omega) rfl (λ_=>true) (λv=>.int (fW (iW (match lstOf H1 v with|some xs=>xs.getD 1 .non|none=>.non)))) (λx hx=>fE) (λx hx _=>?_) (λp hp=>?_)
  .obtain⟨y,hy,rfl⟩:=Wo.mp hx;obtain⟨x,hx,e⟩:=mem y hy;have e1:=aa y hy;rw[iX e1,e];rw[e]at e1;exact mC (vI (i:=1) ac e1 rfl) (Rp (fG hx).2).2.2 (wdl hx)
  .have e:((zs.map λz=>V.ref z.1).filter λ_=>true).map (λv=>V.int (fW (iW (match lstOf H1 v with|some xs=>xs.getD 1 .non|none=>.non))))=(mx ls).map V.int:=by
    rw[WP.mpr (λ_ _=>rfl),Ws];have e2:zs.map ((λv=>V.int (fW (iW (match lstOf H1 v with|some xs=>xs.getD 1 .non|none=>.non))))∘λz=>V.ref z.1)=zs.map λz=>V.int (fW (iW (z.2.getD 1 .non))):=WK λy hy=>by
     show V.int (fW (iW (match lstOf H1 (.ref y.1)with|some xs=>xs.getD 1 .non|none=>.non)))=_
     rw[iX (aa y hy)]
    rw[e2,tM m λp=>V.int (fW (iW (p.getD 1 .non)))];unfold mx;rw[Ws];rfl
   rw[e];have l64:(mx ls).length<64:=by have:=B6 ls;unfold mx;rw[Wm];omega
   refine⟨mx ls,aV.of aj,l64,λhs p2 pm sr np=>z _ _ ⟨p2,hs,rfl,aj,pm,sr,(s1.upd hp).upd np⟩⟩
 rintro _ Hb ⟨dh,hs,rfl,eh,pm,sr,sb⟩;have l64:hs.length<64:=by rw[pm.length_eq];have:=B6 ls;unfold mx;rw[Wm];omega
 have s9b:=sa.trans sb;have e9b:=s9b _ _ e9;show cm _ _ _ [oR a,oJ wi,oJ hi,oR pl,oT st,oR q,oR hq,oT w,some v,some .non,oR sq,oR dh] Hb;refine cF (λb H2=>b= !bdOf ls/\ak Hb H2) (λR r=>eF (af ac (af ac aC)) ⟨sq,dh,_,_,hs,rfl,sb _ _ esd,eh,sr,by omega,λH2 s2=>?_⟩) (λH2 h=>?_) (λHc h=>?_)
 .rw[DY pm];exact r _ _ ⟨rfl,s2⟩
 .have hb:bdOf ls=false:=by cases hb:bdOf ls with|false=>rfl|true=>rw[hb]at h;cases h.1
  rcases EN with⟨_,rfl⟩|⟨e,_⟩|⟨e,_⟩
  .refine aZ (dq ac ar) ?_;rw[R6 rfl];exact k _
  .rw[hb]at e;cases e
  .rw[hb]at e;cases e
 obtain⟨hbn,sc⟩:=h;have hb:bdOf ls=true:=by cases hb:bdOf ls with|true=>rfl|false=>rw[hb]at hbn;cases hbn
 have s9c:=s9b.trans sc;have e9c:=s9c _ _ e9;refine ba (λu H'=>∃(pl kd rd td ed:Z1)(us:List (dI×Z1))(ts es:List ((Str×Str)×Z1)),u=.ref pl/\Mw H' pl kd rd td ed (pF ls) us ts es/\us.map (·.1)=lj ls/\ts.map (·.1)=rQ ls/\es.map (·.1)=vP ls/\ak Hc H') (λQ z=>dH (af ac aC) ⟨q,ls,rfl,e9c,l1,l4,λpl kd rd td ed us ts es H' p1 p2 p3 p4 s=>z _ _ ⟨pl,kd,rd,td,ed,us,ts,es,rfl,p1,p2,p3,p4,s⟩⟩) ?_;rintro _ Hd ⟨pl2,kd2,rd2,td2,ed2,us2,ts2,es2,rfl,PT,um,tm,em,sd⟩;show cm _ _ _ [oR a,oJ wi,oJ hi,oR pl2,oT st,oR q,oR hq,oT w,some v,some .non,oR sq,oR dh] Hd;have ixp:∀{i:Nat}{u:V},[V.ref kd2,.ref rd2,.ref td2,.ref ed2][i]? =some u->Ev (nM K (cc 3) (tC (.int (i:Int)))) [some (.ref a),some (.int wi),some (.int hi),some (.ref pl2),some (.str st),some (.ref q),some (.ref hq),some (.str w),some v,some .non,some (.ref sq),some (.ref dh)] Hd u:=λh=>vI ac PT.at_ h;have lsel:∀j,(selJ ls j).length<=400:=λj=>Ye (WW _ _) l4;refine cF (λb H2=>b= !gmOf ls/\ak Hd H2) (λR r=>eF (af (ixp (i:=0) rfl) (af (ixp (i:=1) rfl) (af (ixp (i:=2) rfl) (af (ixp (i:=3) rfl) aC)))) ⟨pl2,kd2,rd2,td2,ed2,pF ls,us2,ts2,es2,rfl,PT,?_,?_,?_,?_,?_,λH2 s2=>?_⟩) (λH2 h=>?_) (λHe h=>?_)
 .intro kk hk;obtain⟨x,hx,rfl⟩:=Wo.mp hk;exact(Ro (fG hx).2).2.2
 .rw[um];intro u hu;obtain⟨x,hx,rfl⟩:=Wo.mp hu;have:=Rn (fG hx).2;exact⟨this.2.2.1,this.2.2.2.2.1⟩
 .rw[em];intro u hu;obtain⟨x,hx,rfl⟩:=Wo.mp hu;exact(Rl (fG hx).2).2.2.1
 .have:=Se List.length tm;rw[Wm,rQ,Wm]at this;rw[this];exact lsel 4
 .have:=Se List.length em;rw[Wm,vP,Wm]at this;rw[this];exact lsel 5
 .rw[um,tm,em];exact r _ _ ⟨rfl,s2⟩
 .have hg:gmOf ls=false:=by cases hg:gmOf ls with|false=>rfl|true=>rw[hg]at h;cases h.1
  rcases EN with⟨e,_⟩|⟨_,_,rfl⟩|⟨_,e,_⟩
  .rw[hb]at e;cases e
  .refine aZ (dq ac ar) ?_;rw[R6 rfl];exact k _
  .rw[hg]at e;cases e
 obtain⟨hgn,se⟩:=h;have hg:gmOf ls=true:=by cases hg:gmOf ls with|true=>rfl|false=>rw[hg]at hgn;cases hgn
 rcases EN with⟨e,_⟩|⟨_,e,_⟩|⟨_,_,rfl,g,b,hs',us',ts',es',rfl,GR⟩
 .rw[hb]at e;cases e
 .rw[hg]at e;cases e
 have sbe:=(sc.trans sd).trans se;have s9e:=s9b.trans sbe;refine ba (λu H2=>u=.str (stOf ls)/\ak He H2) (λQ z=>?_) ?_
 .refine C6 (C6 (ow (j:=6) rfl (s9e _ _ e9) l1 l4 λl zs H1 nl el m aa ln s1=>?_));obtain⟨y,r,ey⟩:=B7 hw;have hm:y∈selJ ls 6:=by rw[ey];exact Wv ..
  have p2:=(Rk (fG hm).2).1;have w1:stOf ls=wd y 1:=by unfold stOf;rw[ey];rfl
  rw[ey]at m
  match zs,m,el,aa with
  |z0::zr,m,el,aa=>
   have m0:z0.2=sw y:=(List.cons.inj m).1;have a0:=aa z0 (Wv ..);rw[m0,show sw y=[.str (wd y 0),.str (wd y 1)] by unfold sw;rw[p2];rfl]at a0;refine lR (v:=.int 0) ar ⟨_,.ref z0.1,.inl (aV.of el),bK (j:=0) rfl,lR (v:=.int 1) ar ⟨_,.str (wd y 1),.inl (aV.of a0),rfl,z _ _ ⟨by rw[w1],s1⟩⟩⟩
 rintro _ Hf ⟨rfl,sf⟩;show jx _ _ [oR a,oJ wi,oJ hi,oR pl2,oT (stOf ls),oR q,oR hq,oT (""),oR g,some .non,oR sq,oR dh] Hf;have eqs:=((sb.trans sbe).trans sf) _ _ esd;refine cr (FL ?_ (dH (af ac (af (vI (i:=0) ac eqs rfl) (af (vI (i:=1) ac eqs rfl) (af ac (af ac (af ac aC)))))) ⟨g,b,dh,pl2,kd2,rd2,td2,ed2,ls,hs,hs',us2,us',ts2,ts',es2,es',rfl,GR.same ((s9.trans s9e).trans sf),pm,(sbe.trans sf) _ _ eh,l64,PT.same (se.trans sf),um,tm,em,λH' s=>k _⟩));have:=dq (K:=K) (ta:=cc 7) (tb:=tC (.str "")) (z:="") (z':="") (σ:=[oR a,oJ wi,oJ hi,oR pl2,oT (stOf ls),oR q,oR hq,oT (""),oR g,some .non,oR sq,oR dh]) (H:=Hf) ac ar;rw[R6 rfl]at this;exact this
end
end K08
namespace K08
open PySem L2
abbrev di(K:Frag)(x:Str)(st:SQ)(f:Z1)(fd:SU):Prop:=Ze K Sr x=some (some (.ref f))/\fg K x x st f fd
def mD(P:Ss)(w:World)(R4:SD){K:Frag}{h:SD}{mg:Sf}(X:K.In h)(G:h.Ns Sr mg){x:Str}{st:SQ}{ps:List Str}{k:Nat}{sp:Sp}{f:Z1}{fd:SU}(F:di K x st f fd)(o:bM P w K mg R4 fM k f fd ps sp)(b:∀kV doc pm an cdv ct us,us.length=ps.length->bindArgs (Zn x x (ij st) (eY st) (ao st) .none kV doc pm an cdv ct) ⟨us,[]⟩=pure (ps.zip us):=by intro _ _ _ _ _ _;first|exact L2.ln1 (λ_=>rfl)|exact L2.ln2 (λ_ _=>rfl)|exact L2.ln3 (λ_ _ _=>rfl)|exact L2.ln4 (λ_ _ _ _=>rfl)|exact L2.ln5 (λ_ _ _ _ _=>rfl)|exact L2.ln6 (λ_ _ _ _ _ _=>rfl)):fC P w K mg R4 x ps k sp:=⟨f,_,o,Zd X G F.1,F.2.kp,F.2.binds b⟩
noncomputable abbrev ζL(o:Z0)(d:Option Z1)(a b:Str)(s:SQ)(k c p:Z0)(n:Option Z1)(e t:Z0)(l:Array (Option Z0)):Obj:=⟨o,d,.func (Zn a b (ij s) (eY s) (ao s) .none k c p n e t),l⟩
def all_mk{l:PySem.W.OpenLaw}{w:World}{K:Frag}{h:SD}{mg:Sf}{fa f1 f2 f3 f4 f5 f6 f7 f8 f9 f10 f11 f12 f13 f14 f15 f16 f17 f18 f19 f20 f21 f22 f23 f24 f25 f26 f27 f28 f29 f30 f31 f32 f33 f34 f35 f36 f37 f38 f39 f40 f41 f42 f43 f44 f45 f46 f47 f48 f49 f50 f51 cBoard cGame cPlayError cBadBoard cBadGame cBadLine cBadPlace cNoMove cTooWide cNoWord cOver cNothingBack aS aA aE aW aO aF bF0 bF1 bF2 bF3 bF4 bF5 bF6 bF7 bF8 bF9:Z1}(X:K.In h)(G:h.Ns Sr mg)(hfa:mg "law"=some (.ref fa)){od51 an51:Option Z1}{sl51:Array (Option Z0)}{oc51 kV51 dc51 pm51 cd51 ct51:Z0}{d1 d2 d3 d4 d5 d6 d7 d8 d9 d10 d11 d12 d13 d14 d15 d16 d17 d18 d19 d20 d21 d22 d23 d24 d25 d26 d27 d28 d29 d30 d31 d32 d33 d34 d35 d36 d37 d38 d39 d40 d41 d42 d43 d44 d45 d46 d47 d48 d49 d50:SU}{u0 u1 u2 u3 u4 u5:Z0}(aCBoard:Ze K Sr "Board"=some (some (.ref cBoard)))(aCGame:Ze K Sr "Game"=some (some (.ref cGame)))(aEPlayError:Ze K Sr "PlayError"=some (some (.ref cPlayError)))(aEBadBoard:Ze K Sr "BadBoard"=some (some (.ref cBadBoard)))(aEBadGame:Ze K Sr "BadGame"=some (some (.ref cBadGame)))(aEBadLine:Ze K Sr "BadLine"=some (some (.ref cBadLine)))(aEBadPlace:Ze K Sr "BadPlace"=some (some (.ref cBadPlace)))(aENoMove:Ze K Sr "NoMove"=some (some (.ref cNoMove)))(aETooWide:Ze K Sr "TooWide"=some (some (.ref cTooWide)))(aENoWord:Ze K Sr "NoWord"=some (some (.ref cNoWord)))(aEOver:Ze K Sr "Over"=some (some (.ref cOver)))(aENothingBack:Ze K Sr "NothingBack"=some (some (.ref cNothingBack)))(F1:di K "is_whole" iy f1 d1)(F2:di K "is_letter" gM f2 d2)(F3:di K "is_among" iz f3 d3)(F4:di K "number_of" fN f4 d4)(F5:di K "are_holes" fR f5 d5)(a6:Zg K (.ref cBoard) "__init__"=some (some (.ref f6)))(iF6:Zx K (.ref f6)=true)(F6:fg K "__init__" "Board.__init__" cI f6 d6)(F7:di K "is_word" jg f7 d7)(F8:di K "is_tuple_of" fA f8 d8)(F9:di K "is_list_of" ge f9 d9)(F10:di K "is_step" ji f10 d10)(F11:di K "is_rule" jj f11 d11)(F12:di K "is_pair" jk f12 d12)(F13:di K "are_pairs" fP f13 d13)(F14:di K "is_turns" fK f14 d14)(F15:di K "is_ends" jl f15 d15)(F16:di K "are_kinds" fQ f16 d16)(F17:di K "are_rules" fO f17 d17)(a18:Zg K (.ref cGame) "__init__"=some (some (.ref f18)))(iF18:Zx K (.ref f18)=true)(F18:fg K "__init__" "Game.__init__" du f18 d18)(a19:Zg K (.ref cBadLine) "__init__"=some (some (.ref f19)))(iF19:Zx K (.ref f19)=true)(F19:fg K "__init__" "BadLine.__init__" dk f19 d19)(F20:di K "part_of" jf f20 d20)(F21:di K "parts_of" gB f21 d21)(F22:di K "may_follow" gc f22 d22)(F23:di K "sorted_out" gb f23 d23)(F24:di K "game_of" d0 f24 d24)(F25:di K "_law_at" jm f25 d25)(F26:di K "_law_whole" gf f26 d26)(F27:di K "_law_word" gN f27 d27)(F28:di K "_law_side" gP f28 d28)(F29:di K "_law_holes" gj f29 d29)(F30:di K "_law_kinds" eV f30 d30)(F31:di K "_law_rule" gS f31 d31)(F32:di K "_law_rules" eU f32 d32)(F33:di K "_law_turns" eT f33 d33)(F34:di K "_law_ends" gU f34 d34)(F35:di K "_law_parts" gi f35 d35)(F36:di K "_law_lines" da f36 d36)(F37:di K "_law_same" gQ f37 d37)(F38:di K "_law_sign" gO f38 d38)(F39:di K "_law_bent_line" dP f39 d39)(F40:di K "_law_bent" gV f40 d40)(F41:di K "_law_number" eA f41 d41)(F42:di K "_law_is_letter" dO f42 d42)(F43:di K "_law_fits" gT f43 d43)(F44:di K "_law_sort" fS f44 d44)(F45:di K "_law_wrong_line" dw f45 d45)(F46:di K "_law_words" eS f46 d46)(F47:di K "_law_is_board" dt f47 d47)(F48:di K "_law_is_game" dj f48 d48)(F49:di K "_law_parts_of" cD f49 d49)(F50:di K "_law_said" gR f50 d50)(a51:Ze K Sr "law"=some (some (.ref f51)))(l51:K.lookup f51=some (ζL oc51 od51 "law" "law" ke kV51 dc51 pm51 an51 cd51 ct51 sl51))(c51:ZB K cd51 "law"=true)(k51:Zj K (.ref f51)=true)(pgXBoard:Zv K cBoard Tx=true)(hdXBoard:Zr K cBoard=true)(poXBoard:Zy K cBoard=true)(saXBoard:Zg K (.ref cBoard) "__setattr__"=some (some (.builtin "object.__setattr__")))(mkXBoard:Zz K cBoard=true)(kcXBoard:Zj K (.ref cBoard)=true)(naBoardwide:Zg K (.ref cBoard) "wide"=some none)(naBoardhigh:Zg K (.ref cBoard) "high"=some none)(naBoardholes:Zg K (.ref cBoard) "holes"=some none)(naBoardfirm:Zg K (.ref cBoard) "firm"=some none)(pgXGame:Zv K cGame Tx=true)(hdXGame:Zr K cGame=true)(poXGame:Zy K cGame=true)(saXGame:Zg K (.ref cGame) "__setattr__"=some (some (.builtin "object.__setattr__")))(mkXGame:Zz K cGame=true)(kcXGame:Zj K (.ref cGame)=true)(naGameboard:Zg K (.ref cGame) "board"=some none)(naGamekinds:Zg K (.ref cGame) "kinds"=some none)(naGamerules:Zg K (.ref cGame) "rules"=some none)(naGameturns:Zg K (.ref cGame) "turns"=some none)(naGameends:Zg K (.ref cGame) "ends"=some none)(naGamestuck:Zg K (.ref cGame) "stuck"=some none)(xhn:ZA K (.builtin "object.__class__") "__get__"=some (some (.builtin "getset_descriptor.__get__")))(xtk:ZM K (.builtin "object.__class__")=some true)(lxga:Zg K (.ref cBadLine) "__getattribute__"=some (some (.builtin "BaseException.__getattribute__")))(lxgh:Zg K (.ref cBadLine) "__getattr__"=some none)(lxha:Zg K (.ref cBadLine) "__class__"=some (some (.builtin "object.__class__")))(lxhm:Zm K cBadLine (.type "object")=some true)(lxhb:Zm K cBadLine (.type "BaseException")=some true)(lxem:Zp K (.ref cBadLine) (.ref cPlayError)=some true)(lxv:Zf K (.ref cBadLine) (.type "ValueError")=some true)(lxkBadBoard:Zf K (.ref cBadLine) (.ref cBadBoard)=some false)(lxkBadGame:Zf K (.ref cBadLine) (.ref cBadGame)=some false)(lxkBadLine:Zf K (.ref cBadLine) (.ref cBadLine)=some true)(lxkBadPlace:Zf K (.ref cBadLine) (.ref cBadPlace)=some false)(lxkNoMove:Zf K (.ref cBadLine) (.ref cNoMove)=some false)(lxkTooWide:Zf K (.ref cBadLine) (.ref cTooWide)=some false)(lxkNoWord:Zf K (.ref cBadLine) (.ref cNoWord)=some false)(lxkOver:Zf K (.ref cBadLine) (.ref cOver)=some false)(lxkNothingBack:Zf K (.ref cBadLine) (.ref cNothingBack)=some false)(bxga:Zg K (.ref cBadBoard) "__getattribute__"=some (some (.builtin "BaseException.__getattribute__")))(bxgh:Zg K (.ref cBadBoard) "__getattr__"=some none)(bxha:Zg K (.ref cBadBoard) "__class__"=some (some (.builtin "object.__class__")))(bxhm:Zm K cBadBoard (.type "object")=some true)(bxhb:Zm K cBadBoard (.type "BaseException")=some true)(bxem:Zp K (.ref cBadBoard) (.ref cPlayError)=some true)(bxv:Zf K (.ref cBadBoard) (.type "ValueError")=some true)(bxq:Zs K cBadBoard [.type "ValueError",.type "Exception",.type "BaseException",.type "object"] "ValueError.__new__"=true)(bxkBadBoard:Zf K (.ref cBadBoard) (.ref cBadBoard)=some true)(bxkBadGame:Zf K (.ref cBadBoard) (.ref cBadGame)=some false)(bxkBadLine:Zf K (.ref cBadBoard) (.ref cBadLine)=some false)(bxkBadPlace:Zf K (.ref cBadBoard) (.ref cBadPlace)=some false)(bxkNoMove:Zf K (.ref cBadBoard) (.ref cNoMove)=some false)(bxkTooWide:Zf K (.ref cBadBoard) (.ref cTooWide)=some false)(bxkNoWord:Zf K (.ref cBadBoard) (.ref cNoWord)=some false)(bxkOver:Zf K (.ref cBadBoard) (.ref cOver)=some false)(bxkNothingBack:Zf K (.ref cBadBoard) (.ref cNothingBack)=some false)(gxga:Zg K (.ref cBadGame) "__getattribute__"=some (some (.builtin "BaseException.__getattribute__")))(gxgh:Zg K (.ref cBadGame) "__getattr__"=some none)(gxha:Zg K (.ref cBadGame) "__class__"=some (some (.builtin "object.__class__")))(gxhm:Zm K cBadGame (.type "object")=some true)(gxhb:Zm K cBadGame (.type "BaseException")=some true)(gxem:Zp K (.ref cBadGame) (.ref cPlayError)=some true)(gxv:Zf K (.ref cBadGame) (.type "ValueError")=some true)(gxq:Zs K cBadGame [.type "ValueError",.type "Exception",.type "BaseException",.type "object"] "ValueError.__new__"=true)(gxkBadBoard:Zf K (.ref cBadGame) (.ref cBadBoard)=some false)(gxkBadGame:Zf K (.ref cBadGame) (.ref cBadGame)=some true)(gxkBadLine:Zf K (.ref cBadGame) (.ref cBadLine)=some false)(gxkBadPlace:Zf K (.ref cBadGame) (.ref cBadPlace)=some false)(gxkNoMove:Zf K (.ref cBadGame) (.ref cNoMove)=some false)(gxkTooWide:Zf K (.ref cBadGame) (.ref cTooWide)=some false)(gxkNoWord:Zf K (.ref cBadGame) (.ref cNoWord)=some false)(gxkOver:Zf K (.ref cBadGame) (.ref cOver)=some false)(gxkNothingBack:Zf K (.ref cBadGame) (.ref cNothingBack)=some false)(iRd:ZT K cPlayError (.type "type")=true)(iFc:ZU K (.ref cPlayError) (.type "type") "__init__"=some (.val (.builtin "ValueError.__init__")))(iGa:ZA K (.ref cPlayError) "__getattribute__"=some (some (.builtin "type.__getattribute__")))(xIn:tW K cBadLine f19 veL "ValueError.__new__"=true)(xSa:Zg K (.ref cBadLine) "__setattr__"=some (some (.builtin "object.__setattr__")))(xOv:PySem.W.excOver K cBadLine=true)(xNo:Zg K (.ref cBadLine) "at"=some none)(xHd:Zr K cBadLine=true)(kcXBadLine:Zj K (.ref cBadLine)=true)(z0:Ze K Sr "isinstance"=some none)(z1:Ze K Sr "int"=some none)(z2:Ze K Sr "bool"=some none)(z3:Ze K Sr "str"=some none)(z4:Ze K Sr "list"=some none)(z5:Ze K Sr "tuple"=some none)(z6:Ze K Sr "len"=some none)(z7:Ze K Sr "range"=some none)(z8:Ze K Sr "all"=some none)(z9:Ze K Sr "any"=some none)(z10:Ze K Sr "set"=some none)(z11:Ze K Sr "sorted"=some none)(z12:Ze K Sr "min"=some none)(z13:Ze K Sr "dict"=some none)(z14:Ze K Sr "zip"=some none)(z15:Ze K Sr "enumerate"=some none)(z16:Ze K Sr "max"=some none)(z17:Ze K Sr "abs"=some none)(z18:Ze K Sr "ValueError"=some none)(kg0:Ze K Sr "MOST_PAIRS"=some (some u0))(rv0:bz (.int 6) u0)(kg1:Ze K Sr "MOST_KINDS"=some (some u1))(rv1:bz (.int 6) u1)(kg2:Ze K Sr "MOST_RULES"=some (some u2))(rv2:bz (.int 24) u2)(kg3:Ze K Sr "FIGURES"=some (some u3))(rv3:bz (.str "0123456789") u3)(kg4:Ze K Sr "MOST_FIGURES"=some (some u4))(rv4:bz (.int 9) u4)(kg5:Ze K Sr "LONGEST"=some (some u5))(rv5:bz (.int 8) u5){tO0:Z0}{tD0:Option Z1}{tI0:Array Z0}{tN0:Nat}{tS0:Array (Option Z0)}(kt0:Ze K Sr "SORTS"=some (some (.ref aS)))(lt0:K.lookup aS=some ⟨tO0,tD0,.seq tI0 tN0,tS0⟩)(ctp0:tO0=.type "tuple")(zt0:tI0.size<=h9)(vt0:jv ([V.str "leap",V.str "slide",V.str "jump"]) tI0.toList){tO1:Z0}{tD1:Option Z1}{tI1:Array Z0}{tN1:Nat}{tS1:Array (Option Z0)}(kt1:Ze K Sr "AIMS"=some (some (.ref aA)))(lt1:K.lookup aA=some ⟨tO1,tD1,.seq tI1 tN1,tS1⟩)(ctp1:tO1=.type "tuple")(zt1:tI1.size<=h9)(vt1:jv ([V.str "go",V.str "hit",V.str "any"]) tI1.toList){tO2:Z0}{tD2:Option Z1}{tI2:Array Z0}{tN2:Nat}{tS2:Array (Option Z0)}(kt2:Ze K Sr "END_WORDS"=some (some (.ref aE)))(lt2:K.lookup aE=some ⟨tO2,tD2,.seq tI2 tN2,tS2⟩)(ctp2:tO2=.type "tuple")(zt2:tI2.size<=h9)(vt2:jv ([V.str "without",V.str "home"]) tI2.toList){tO3:Z0}{tD3:Option Z1}{tI3:Array Z0}{tN3:Nat}{tS3:Array (Option Z0)}(kt3:Ze K Sr "STUCK_WORDS"=some (some (.ref aW)))(lt3:K.lookup aW=some ⟨tO3,tD3,.seq tI3 tN3,tS3⟩)(ctp3:tO3=.type "tuple")(zt3:tI3.size<=h9)(vt3:jv ([V.str "lost",V.str "even",V.str "won"]) tI3.toList)(kd0:Ze K Sr "ORDER"=some (some (.ref aO)))(kd1:Ze K Sr "FORMS"=some (some (.ref aF)))(dF:Ko l.prog w K aF (fkv (PV bF0 bF1 bF2 bF3 bF4 bF5 bF6 bF7 bF8 bF9)))(tF0:hV K bF0 ["board","number","number"])(tF1:hV K bF1 ["hole","number"])(tF2:hV K bF2 ["kind","letter"])(tF3:hV K bF3 ["rule","letter","aim","number","number"])(tF4:hV K bF4 ["rule","letter","aim","number","number"])(tF5:hV K bF5 ["rule","letter","aim","number","number"])(tF6:hV K bF6 ["turn","letter","letter"])(tF7:hV K bF7 ["end","letter"])(tF8:hV K bF8 ["end","letter"])(tF9:hV K bF9 ["stuck","word"])(tO:hV K aO orderL):∃fd:SU,(∀s v,VJ s fd ⟨[v],[]⟩ [("_law_script",v)])/\∀R4:SD,K.In R4->R4.Ns Sr mg->bM l.prog w K mg R4 fM 10 fa fd ["_law_script"] (yq K):=by have e:=hfa.symm.trans (Zd X G a51);cases e;have T:Txt mg aS aA aE aW aO aF:=⟨Zh X G z0,Zh X G z1,Zh X G z2,Zh X G z3,Zh X G z4,Zh X G z5,Zh X G z6,Zh X G z7,Zh X G z8,Zh X G z9,Zh X G z10,Zh X G z11,Zh X G z12,Zh X G z13,Zh X G z14,Zh X G z15,Zh X G z16,Zh X G z17,Zh X G z18,⟨_,Zd X G kg0,rv0⟩,⟨_,Zd X G kg1,rv1⟩,⟨_,Zd X G kg2,rv2⟩,⟨_,Zd X G kg3,rv3⟩,⟨_,Zd X G kg4,rv4⟩,⟨_,Zd X G kg5,rv5⟩,⟨_,Zd X G kt0,rfl⟩,⟨_,Zd X G kt1,rfl⟩,⟨_,Zd X G kt2,rfl⟩,⟨_,Zd X G kt3,rfl⟩,⟨_,Zd X G kd0,rfl⟩,⟨_,Zd X G kd1,rfl⟩⟩;have hT_SORTS:∀H,gY K H aS ["leap","slide","jump"]:=λH=>.inr (.inr ⟨_,tI0,tN0,lt0,ctp0,rfl,zt0,vt0⟩);have hT_AIMS:∀H,gY K H aA ["go","hit","any"]:=λH=>.inr (.inr ⟨_,tI1,tN1,lt1,ctp1,rfl,zt1,vt1⟩);have hT_END_WORDS:∀H,gY K H aE ["without","home"]:=λH=>.inr (.inr ⟨_,tI2,tN2,lt2,ctp2,rfl,zt2,vt2⟩);have hT_STUCK_WORDS:∀H,gY K H aW ["lost","even","won"]:=λH=>.inr (.inr ⟨_,tI3,tN3,lt3,ctp3,rfl,zt3,vt3⟩);have b6:=F6.binds (ps:=["self","wide","high","holes"]) λ_ _ _ _ _ _=>L2.ln4 (λ_ _ _ _=>rfl);have b18:=F18.binds (ps:=["self","board","kinds","rules","turns","ends","stuck"]) λ_ _ _ _ _ _=>L2.ln7 (λ_ _ _ _ _ _ _=>rfl);have b19:=F19.binds (ps:=["self","at"]) λ_ _ _ _ _ _=>L2.ln2 (λ_ _=>rfl);have b23:=F23.2.binds (ps:=["lines"]) λ_ _ _ _ _ _=>L2.ln1 (λ_=>rfl);have b24:=F24.2.binds (ps:=["lines"]) λ_ _ _ _ _ _=>L2.ln1 (λ_=>rfl);have b27:=F27.2.binds (ps:=["_law_e"]) λ_ _ _ _ _ _=>L2.ln1 (λ_=>rfl);have F51:=xu (st:=ke) l51 c51 k51;have b51:=F51.binds (ps:=["_law_script"]) λ_ _ _ _ _ _=>L2.ln1 (λ_=>rfl);have cl_Board:x5 K cBoard:=⟨pgXBoard,hdXBoard,poXBoard,saXBoard⟩;have cl_Game:x5 K cGame:=⟨pgXGame,hdXGame,poXGame,saXGame⟩;refine⟨Zn "law" "law" (ij ke) (eY ke) (ao ke) .none kV51 dc51 pm51 an51 cd51 ct51,λs v=>.of_eq rfl,λR4 _ _=>?_⟩;have M:= @mD l.prog w R4 K h mg X G;have C_is_whole:=M F1 (vq F1.2 T);have C_is_letter:=M F2 (sW F2.2 T);have C_is_among:=M F3 (vv F3.2 T ⟨C_is_whole⟩);have C_number_of:=M F4 (sV F4.2 T);have C_is_word:=M F7 (wW F7.2 T);have C_is_tuple_of:=M F8 (oZ F8.2 T);have C_is_list_of:=M F9 (qm F9.2 T);have C_is_step:=M F10 (wX F10.2 T ⟨C_is_among⟩);have R2:RG2 l.prog w K mg R4:=⟨C_is_word,C_is_tuple_of⟩;have R3:RG3 l.prog w K mg R4:={toRG2:=R2,is_step:=C_is_step};have C_is_rule:=M F11 (wY F11.2 T hT_SORTS hT_AIMS R3);have C_is_pair:=M F12 (wZ F12.2 T R2);have C_are_pairs:=M F13 (sY F13.2 T ⟨C_is_list_of,C_is_pair⟩);have C_is_ends:=M F15 (w4 F15.2 T hT_END_WORDS ⟨C_are_pairs⟩);have C_is_turns:=M F14 (vt F14.2 T ⟨C_are_pairs⟩);have G1:RU l.prog w K mg R4:=⟨C_is_list_of,C_is_letter,C_is_rule⟩;have C_are_kinds:=M F16 (sZ F16.2 T G1);have C_are_rules:=M F17 (sX F17.2 T G1);have G2:RS l.prog w K mg R4:=⟨C_are_kinds,C_are_rules,C_is_turns,C_is_ends,C_is_word⟩;have GC:FP K cGame:=⟨cl_Game,naGameboard,naGamekinds,naGamerules,naGameturns,naGameends,naGamestuck⟩;have X_Game:Qo l.prog w K mg R4 "Game" cGame _ _ _:=⟨f18,_,⟨mkXGame,a18,iF18,kcXGame⟩,bM.or2 (tJ F18 T hT_STUCK_WORDS GC G2) (qy (cG:=cGame) F18 T hT_STUCK_WORDS (Zd X G aEBadGame) gxq G2),Zd X G aCGame,b18⟩;have DA:CA l.prog w K mg R4:=⟨Mr C_is_among⟩;have C_are_holesG:=M F5 (qo F5.2 T ⟨C_is_among⟩);have DB2:CB2 l.prog w K mg R4:={toCA:=DA,are_holes:=AK C_are_holesG};have BC:Bm K cBoard:=⟨cl_Board,naBoardwide,naBoardhigh,naBoardholes,naBoardfirm⟩;have X_Board:Qo l.prog w K mg R4 "Board" cBoard _ _ _:=⟨f6,_,⟨mkXBoard,a6,iF6,kcXBoard⟩,bM.or2 (qz F6 T BC DB2) (pe (cB:=cBoard) F6 T (Zd X G aEBadBoard) bxq {is_among:=C_is_among,are_holes:=C_are_holesG}),Zd X G aCBoard,b6⟩;have C_part_of:=M F20 (wV F20.2 T hT_AIMS hT_STUCK_WORDS ⟨C_number_of,C_is_letter,C_is_word⟩);have FQ:=Fk tF0 tF1 tF2 tF3 tF4 tF5 tF6 tF7 tF8 tF9;have C_parts_of:=M F21 (vp F21.2 T dF FQ rfl ⟨C_part_of⟩);have C_may_follow:=M F22 (ql F22.2 T tO);have xc:XC K cBadLine f19 "at":=⟨xIn,xSa,xOv,xNo,xHd,lxga,lxgh,lxhb,by decide+kernel⟩;have E_BadLine:RO l.prog w K mg R4 "BadLine" cBadLine "at" _ _ _:=⟨f19,_,xc,iF19,kcXBadLine,n8 F19 (Zd X G aEPlayError) ⟨iRd,iFc,iGa⟩ xc,Zd X G aEBadLine,b19⟩;have X_sorted_out:wf l.prog w K mg R4 "sorted_out" _ _ _:=⟨f23,_,qk F23.2 T dF FQ rfl tO ⟨C_parts_of,C_may_follow,E_BadLine⟩,Zd X G F23.1,F23.2.kp,b23⟩;have X_game_of:wf l.prog w K mg R4 "game_of" _ _ _:=⟨f24,_,w5 F24.2 T ⟨X_sorted_out,X_Board,X_Game⟩,Zd X G F24.1,F24.2.kp,b24⟩;have C__law_at:=M F25 (w6 F25.2 T);have C__law_whole:=M F26 (qr F26.2 T);have C__law_side:=M F28 (tz F28.2 T);have A1:L1 l.prog w K mg R4:=⟨C__law_at⟩;have C__law_holes:=M F29 (pd F29.2 T A1);have C__law_kinds:=M F30 (qx F30.2 T A1);have C__law_rule:=M F31 (tF F31.2 T);have C__law_rules:=M F32 (qu F32.2 T {toL1:=A1,_law_rule:=C__law_rule});have C__law_turns:=M F33 (qt F33.2 T A1);have C__law_ends:=M F34 (tH F34.2 T A1);have C__law_parts:=M F35 (qv F35.2 T ⟨C__law_kinds,C__law_rules,C__law_turns,C__law_ends⟩);have C__law_lines:=M F36 (qw F36.2 T);have C__law_same:=M F37 (tD F37.2 T BC GC ⟨C__law_whole⟩);have C__law_sign:=M F38 (tu F38.2 T);have C__law_bent_line:=M F39 (ml F39.2 T ⟨C__law_sign⟩);have C__law_bent:=M F40 (tI F40.2 T ⟨C__law_bent_line⟩);have C__law_number:=M F41 (pc F41.2 T);have C__law_is_letter:=M F42 (mj F42.2 T);have C__law_fits:=M F43 (tG F43.2 T ⟨C__law_number,C__law_is_letter⟩);have C__law_sort:=M F44 (tj F44.2 T ⟨C__law_fits⟩);have SO:RY l.prog w K mg R4:=⟨C__law_sort⟩;have C__law_wrong_line:=M F45 (lD F45.2 T SO);have C__law_words:=M F46 (qq F46.2 T SO);have C__law_is_board:=M F47 (mW F47.2 T);have C__law_is_game:=M F48 (nZ F48.2 T);have C__law_parts_of:=M F49 (mV F49.2 T ⟨C__law_words⟩);have N__law_word:MF l.prog w K mg R4 "_law_word" _ _ _:=⟨f27,_,tf F27.2 T,Zd X G F27.1,F27.2.kp,b27⟩;have ALl:Kq mg K cBadLine false false true false false false false false false:=⟨⟨lxga,lxgh,lxha,xhn,xtk,lxhm,lxhb,lM lxhm⟩,⟨_,Zd X G aEBadBoard,lxkBadBoard⟩,⟨_,Zd X G aEBadGame,lxkBadGame⟩,⟨_,Zd X G aEBadLine,lxkBadLine⟩,⟨_,Zd X G aEBadPlace,lxkBadPlace⟩,⟨_,Zd X G aENoMove,lxkNoMove⟩,⟨_,Zd X G aETooWide,lxkTooWide⟩,⟨_,Zd X G aENoWord,lxkNoWord⟩,⟨_,Zd X G aEOver,lxkOver⟩,⟨_,Zd X G aENothingBack,lxkNothingBack⟩,lxv,rfl⟩;have ALb:Kq mg K cBadBoard true false false false false false false false false:=⟨⟨bxga,bxgh,bxha,xhn,xtk,bxhm,bxhb,lM bxhm⟩,⟨_,Zd X G aEBadBoard,bxkBadBoard⟩,⟨_,Zd X G aEBadGame,bxkBadGame⟩,⟨_,Zd X G aEBadLine,bxkBadLine⟩,⟨_,Zd X G aEBadPlace,bxkBadPlace⟩,⟨_,Zd X G aENoMove,bxkNoMove⟩,⟨_,Zd X G aETooWide,bxkTooWide⟩,⟨_,Zd X G aENoWord,bxkNoWord⟩,⟨_,Zd X G aEOver,bxkOver⟩,⟨_,Zd X G aENothingBack,bxkNothingBack⟩,bxv,rfl⟩;have ALg:Kq mg K cBadGame false true false false false false false false false:=⟨⟨gxga,gxgh,gxha,xhn,xtk,gxhm,gxhb,lM gxhm⟩,⟨_,Zd X G aEBadBoard,gxkBadBoard⟩,⟨_,Zd X G aEBadGame,gxkBadGame⟩,⟨_,Zd X G aEBadLine,gxkBadLine⟩,⟨_,Zd X G aEBadPlace,gxkBadPlace⟩,⟨_,Zd X G aENoMove,gxkNoMove⟩,⟨_,Zd X G aETooWide,gxkTooWide⟩,⟨_,Zd X G aENoWord,gxkNoWord⟩,⟨_,Zd X G aEOver,gxkOver⟩,⟨_,Zd X G aENothingBack,gxkNothingBack⟩,gxv,rfl⟩;have C__law_said:=M F50 (tE F50.2 T (Zd X G aEPlayError) lxem bxem gxem ALl ALb ALg ⟨X_game_of,N__law_word⟩);have C:CL l.prog w K mg R4 cBoard cGame cBadLine:=⟨C__law_at,C__law_side,C__law_holes,C__law_parts,C__law_lines,C__law_bent,C__law_said,C__law_wrong_line,C__law_whole,C__law_words,C__law_is_board,C__law_parts_of,C__law_is_game,C__law_same⟩;exact Lr F51 T xc C
def walk{l:PySem.W.OpenLaw}{q:Ss}{loose:List Str}{XP:(Sf)->SD->Prop}{YP:World->SD->Prop}{d:DefRec}{K:UD->Frag}(hn:l.most=some 63)(hdf:d.params.defaults=[])(hY:∀w h,YP w h->(K w.params).In h)(F:∀w mg fa h,(K w.params).In h->h.Ns Sr mg->mg d.name=some (.ref fa)->
   ∃fd:SU,(∀s u,VJ s fd ⟨[u],[]⟩ [("_law_script",u)])/\∀R4:SD,(K w.params).In R4->R4.Ns Sr mg->bM l.prog w (K w.params) mg R4 fM 10 fa fd ["_law_script"] (yq (K w.params))):PySem.W.WalkO q loose XP YP l.row.toRowW d [] (λf vs=>PySem.call f vs):=
 L2.Eg (n:=63) (k:=10) (x:="_law_script") (CX:=λ_=>fM) (sp:=λw=>yq (K w.params)) hn (by decide) hdf ⟨rfl,by decide,by decide⟩ hY F (λ_ _ a ns hl _ hS=>⟨a,ns,rfl,hS,hl,λ_=>rfl⟩) λ_ _ _ _ _ z=>z
end K08
open PySem PySem.W PyProof.Rows
set_option maxRecDepth 100000 in
set_option maxHeartbeats 0 in
theorem PySem.Challenge.cw_playboard_k08_lines_that_are_no_game_holds : PySem.Challenge.rw_playboard_k08_lines_that_are_no_game.Holds := by
 w_on
 refine PySem.W.holds_law PySem.W.wsaid λsaid=>?_;refine PySem.W.holds_openX (q:=K08.hQ) (loose:=["FORMS"]) (Xt:=K08.hX) (XP:=PySem.W.XL K08.hQ []) (Yf:=L2.zf K08.hA) (Ya:=L2.ze K08.hK) K08.hleft (λs e=>PySem.W.xl_of s (YS.mp e).1) PySem.W.XL.keeps (by rfl) (by rfl) (by rfl) (λs e=>PySem.W.recFacts_of (YS.mp e).2) (by rfl) (by first|assumption|decide+kernel) (by decide+kernel) ⟨rfl,rfl,rfl,rfl,rfl,by decide+kernel⟩ ?hw ?hc
 (case hw=>w_witness2)
 k_fill
 refine L2.BA (L2.PN (λ_=>by kernel_rfl)) ?_;refine K08.walk (l:=PySem.Challenge.rw_playboard_k08_lines_that_are_no_game) rfl rfl (λw h Y=>Y) ?F
 case F=>
  intro w mg fa h KX G hmg;apply K08.all_mk KX G hmg
  any_goals first|exact⟨by k_is,L2.xu (by k_is) (by k_is) (by k_is)⟩|exact L2.xu (by k_is) (by k_is) (by k_is)|k_is|exact⟨_,rfl⟩|kernel_rfl|decide|exact .cons ⟨_,rfl⟩ (.cons ⟨_,rfl⟩ .nil)|exact .cons ⟨_,rfl⟩ (.cons ⟨_,rfl⟩ (.cons ⟨_,rfl⟩ .nil))|exact⟨_,_,_,by k_is,by repeat (first|exact .nil|refine .cons ⟨_,rfl⟩ ?_)⟩|(refine K08.dck_mk (by k_is) ?_ ?_ ?_;decide;exact .cons ⟨rfl,⟨_,rfl⟩,rfl⟩ (.cons ⟨rfl,⟨_,rfl⟩,rfl⟩ (.cons ⟨rfl,⟨_,rfl⟩,rfl⟩ (.cons ⟨rfl,⟨_,rfl⟩,rfl⟩ (.cons ⟨rfl,⟨_,rfl⟩,rfl⟩ (.cons ⟨rfl,⟨_,rfl⟩,rfl⟩ (.cons ⟨rfl,⟨_,rfl⟩,rfl⟩ (.cons ⟨rfl,⟨_,rfl⟩,rfl⟩ (.cons ⟨rfl,⟨_,rfl⟩,rfl⟩ (.cons ⟨rfl,⟨_,rfl⟩,rfl⟩ (.nil))))))))));decide+kernel)|skip
