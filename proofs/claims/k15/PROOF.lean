import PyProof.Rows.All
import Wide.All
import OpenK.AllK
import Wide.FinOn
import Lean
import PyProof.EqAt
import PyProof.EqKinds
import PyProof.TupleCall
import KE.KIntText
import KE.IntTextLaws
import KE.IntText
import KE.KRevIter
import KE.KEqDict
import PyProof.ZipIter
import PyProof.Draws
import PyProof.EnumMake
import PyProof.SetScanFacts
import PyProof.ListStr
import PyProof.SetKind
import PyProof.CollectWalk
import PyProof.FactsAll.set
import PyProof.StrLoop
import PyProof.TupleKey
import KE.KSortTup
import PyProof.Rows.SortWalk
import PyProof.Rows.SortStr
import PyProof.NeKinds
import PyProof.AttrMissHeap
import KE.KDictOf
import PyProof.ToksMono
import PyProof.StrCalls6
import PyProof.FitsReplace
import OpenK.ZGo
import PySem.Challenge.RW_playboard_k15_moves_in_texts
set_option Elab.async false
set_option linter.all false
set_option maxRecDepth 100000
set_option maxHeartbeats 4000000
set_option compiler.extract_closed false
open List renaming length_map → T7, mem_cons → T8, mem_map → T9, getElem?_eq_getElem → Ua, getElem?_map → Ub, size_toArray → Uc, mem_singleton → Ud, mem_cons_of_mem → Ue, map_map → Uf, getD_eq_getElem?_getD → Ug, mem_range → Uh, mem_cons_self → Ui, length_append → Uj, not_mem_nil → Uk, mem_append → Ul, getElem?_eq_some_iff → Um, append_nil → Uo, map_append → Uq, mem_append_right → Ur, mem_of_getElem? → Us, length_cons → Ut, length_take → Uu, getElem_mem → Uv, map_cons → Uw, pairwise_map → Ux, all_cons → Uy, getElem?_eq_none → Uz, mem_filter → UA, all_eq_true → UB, nodup_iff_pairwise_ne → UC, any_eq_true → UD, filter_eq_self → UE, mem_filterMap → UF, map_congr_left → UG, length_range → UH, getElem?_range → UI, mem_append_left → UJ, any_eq_false → UK, lookup_cons → UL, ext_getElem? → UM, length_filter_le → UN, mem_of_mem_take → UO, nodup_cons → UP, any_cons → UQ, getElem_of_mem → UR, filterMap_cons → US, find?_cons → UT, range_succ → UU, filter_cons → UV, filter_map → UW, append_assoc → UX, map_take → UY, map_nil → UZ, drop_eq_getElem_cons → U0, drop_zero → U1, nodup_append → U2, take_length → U3, pairwise_cons → U4, nodup_nil → U5, of_mem_zip → U6, getElem?_append_left → U7, length_drop → U8, take_of_length_le → U9, any_map → Va, length_pos_of_mem → Vb, nodup_range → Vc, pairwise_iff_getElem → Vd, set_cons_zero → Ve, getElem?_of_mem → Vf, getElem_inj → Vg, getElem?_set_self → Vh, getElem?_set_ne → Vi, getElem?_take_of_lt → Vj, take_sublist → Vk, length_singleton → Vl, forIn_cons → Vm, length_eq_zero_iff → Vn, getElem?_toArray → Vo, filter_append → Vp, length_erase_of_mem → Vq, mem_erase_of_ne → Vr, getElem_append_left → Vs, getElem_append_right → Vt, filter_congr → Vu, getElem?_cons_zero → Vv, getElem?_cons_succ → Vw, all_map → Vx, take_succ_eq_append_getElem → Vy, getElem?_append_right → Vz, getElem?_replicate → VA, take_succ_cons → VB, mem_iff_getElem → VC, length_reverse → VD, mem_of_mem_drop → VE, pairwise_append → VF, mem_drop_iff_getElem → VG, length_eraseIdx_of_lt → VH, perm_cons_erase → VI, pairwise_singleton → VJ, set_cons_succ → VL, getElem?_eq_none_iff → VM, drop_eq_nil_iff → VN
open Nat renaming le_refl → VO, ne_of_lt → VP, zero_le → VQ, le_trans → VR, lt_of_lt_of_le → VS, le_succ → VT, ne_of_gt → VU, lt_irrefl → VV, le_add_right → VW, zero_add → VX, le_of_eq → VY, lt_succ_of_lt → VZ, le_of_lt → V0, lt_succ_self → V1, lt_trans → V2, succ_ne_self → V3, lt_trichotomy → V4, mod_lt → V5, succ_pos → V6, succ_ne_zero → V7, sub_zero → V8, eq_zero_or_pos → V9, le_of_ble_eq_true → Wa
open Int renaming emod_nonneg → Wb, emod_lt_of_pos → Wc, toNat_natCast → Wd, zero_add → We, mul_le_mul → Wf, ediv_nonneg → Wg, mul_comm → Wh, mul_le_mul_of_nonneg_left → Wi, one_mul → Wj, toNat_of_nonneg → Wk, emod_eq_of_lt → Wl, mul_ediv_add_emod → Wm, mul_nonneg → Wn, ediv_lt_of_lt_mul → Wo, mul_le_mul_of_nonneg_right → Wp, emod_eq_emod_iff_emod_sub_eq_zero → Wq
open Bool renaming false_ne_true → Wr, and_eq_true → Ws, false_eq_true → Wt, eq_iff_iff → Wu, not_true → Wv, true_and → Ww, or_false → Wx, or_eq_true → Wy, not_eq_true' → Wz, and_false → WA, and_true → WB, and_eq_true_iff → WC, or_eq_false_iff → WD, eq_false_iff → WE
open Array renaming getElem?_eq_getElem → WF, getElem?_toList → WG, getElem?_eq_none → WH, length_toList → WI, size_map → WJ, forIn_toList → WK, toList_inj → WL, toList_push → WM, mem_toList_iff → WN, size_append → WO, getElem_toList → WP
open Option renaming map_eq_some_iff → WQ, map_some → WR, isSome_iff_exists → WS, getD_none → WT
open PySem.W renaming nsIn → WU, mg_of → WV, findIn → WW, kitOne → WX, mg_none_of → WY, kia_one → WZ, topRun → W0, keepIn → W1, fnOf → W2, emptyDict → W3, instObj → W4, isFn → W5, hideAll_get → W6, plainGet → W7, hasDictIn → W8, mroIn → W9, callWith_K → Xa, excIn → Xb, exmOne → Xc, lookIn → Xd, plainOver → Xe, makesIn → Xf, codeIn → Xg, boot_heap → Xh, methodObj → Xi, plainGet_of → Xj, takerIn → Xk, cellsFrom_some → Xl, doneF → Xm, hideAll → Xn, of_hideAll → Xo, handedIn → Xp, specialIn → Xq, takesIn → Xr, kitx_list → Xs, kitx_dict → Xu, codeRec_of → Xv, boot_o_2 → Xw, topStub → Xx, segRun → Xy, blockOf → Xz, restOf → XA
open PySem.W (Frag)
open PySem renaming wpAny_bind->PU,wpAny_pure->PV,Shared->PZ,starEach->P1,wpAny->P2,mainGlobals->P3,sizeLine_eq->P4,Program->P6,model->P7,World->P9,wpAny_holding->Qa,bootBuiltins->Qc,Heap->Qe,FuncData->Qf,treeTable->Qg,backTo->Qh,eval->Qk,Stmt->Ql,IsTupleKey->Qm,codeAny_builtin->Qn,wpAny_call_entry->Qp,wpAny_callSpecial?_slot->Qq,wpAny_truthy_bool->Qr,compareOp->Qs,wpAny_Call_Name_kw->Qt,attributeBase->Qw,Expr->Qx,wpAny_mono->Qz,Around->QD,wpAny_newObj_type->QG,builtinLookup_eq_fast->QH,wpAny_Call_method_late->QO,codeAny_mono->QP,assignEach->QQ,cLine->QT,wpAny_seqItems->QV,importedModules->QY,Keyword->Q0,wpAny_attempt->Q5,plainId_quiet->Q6,keywordEach->Q7,pyNext->Ra,wpAny_passesOwn->Rb,typeLookup_type->Rc,wpAny_typeOf->Re,wpAny_pyIter_list->Rf,wpAny_field->Rg,codeAny_call_builtin->Rh,wpAny_isInstance->Rl,sliceBounds->Ro,wpAny_specialOf->Rp,codeAny->Rr,OsState->Rs,wpAny_setField->Ru,wpAny_call->Rv,typeIs_str->Rw,setEntries->Rx,rawInt->RA,backToKw->RB,typeLookup->RE,sysModules->RF,pickOrder->RH,wpAny_pyIter_enum->RI,foldedSetIterable->RJ,binaryOp->RK,IsPair->RP,wpAny_isTrue_Compare1->RR,Scope->RS,wpAny_execs_cons->RT,GenState->RY,wpAny_execs_nil->RZ,letOwnedTupleGo->R0,strValues->R6,wpAny_runValue->R8,wpAny_newFunctionEnv_cells->R9,wpAny_letOwnedTupleGo_enum->Sa,wpAny_fieldsOf->Sb,recursionLimit->Sc,isSubtype_type->Sd,isSubtype_stop->Se,firstArgMember->Sf,ZipApart->Sh,Params->Sk,Pos->So,wpAny_of_eq->Ss,wpAny_Return_some->Su,ofAClassStatement->Sv,holding->Sw,wpAny_standAt->SA,wpAny_comprehension_free->SB,wpAny_pyNext_enum_itemD->SH,wpAny_pyIter_zip->SI,wpAny_forIn_list->SJ,wpAny_askSetting->SK,swapsWith->SM,checkBuiltinCall->SN,wpAny_pyNext_list_item->SQ,wpAny_nextOf_list_item->SR,setNext->SU,call_meets->SV,call_gives->SW,wpAny_updateSeq->SY,wpAny_ite_split->SZ,codeAny_of_tree->S0,CmpOp->S4,wpAny_pyNext_zip_item->S5,wpAny_pyNext_list_end->S6,wpAny_nextOf_list_end->S7,wpAny_eqIsQuiet_tuple->S8,weight_type_call_type->S9,codeAny_call_function->Ta,wpAny_listPart->Te,strIterType->Tf,entryFor_alias->Tg,assign->Th,tupleKind->Ti,callerA->Tj,BindsTo->Tl,wpAny_newList->Tn,setSearchFrom->To,sliceRange->Ts,Env->Tz,valueAt->TB,seqIndex_neg->TD,relabel->TF,entryFor->TL,lastMarks->TU,cellsFrom->TW,spliced->TX,collect->TY,typeOf->TZ,stored->T0,isTrue->T2,bindL->T3,bindC->T4,Paired->T5,IsPart->T6,sizeLine->fv,Value->h9,Addr->XB
open PySem.Heap renaming get?_push_of_some->PX,lt_size->PY,get?_push_size->P5,size_push->QI,SameBut->QL,get?_update_other->Q3,get?_update_self->Q9,get?_none_of_le->RX,ExtBut->Sz
open PySem.Value renaming ref->P8,none->QZ,int->Ry,str->R7,type->Si,isInt->Sx,isStrOf->Tp,builtin->Tq,bool->Tw
open PySem.SetTable renaming below->Qb,insertAt->Qo,runEnd->Qv,bits->QB,sizeAbove->QU,turns->Q8,insertAt_perm->RM,Probe->RO,advance->RU,grown->Sj,toList_insertAt->SC,slot->SD,fits->Tr,has->TM
open PySem.Builtin.Str renaming occurrences->Qd,strSliceIndices->Qy,tooLong->QS
open PySem.Around renaming under_plainId->Qi,under->TQ
open PySem.PassesOwn renaming never->Qj
open PySem.Calls renaming callWith_builtin->Qu,evalArgs_plain->QA,spliced_cons->QM,spliced_nil->Ri,Name_function_global->Sm,Constant_str->Sn,call_function_entry->Sq
open PySem.Str renaming ofString->QC,empty->Rq
open PySem.Obj renaming mapSeq->QE,putSet->SX
open PySem.Heap.SameBut renaming update->QF,refl->Sy
open PySem.Builtin.SmallTypes renaming ownedTupleIsFree->QJ,nextOf->Rz
open PySem.Builtin.List renaming listSameRef->QK,listExtendWith->Q4,listLengthHint->Rt,listTooLong->RC,listSubscript?->R5,listAllItems->Sr
open PyProof.Rows.F renaming plain_set_update_loop->QN,entry_set_update_loop->Rn
open PySem.SetTable.layClean renaming free->QR
open PySem.SetTable.probe renaming go->QW
open PySem.EqBoolInt renaming of_rcne->QX,of_rc->R1
open PyProof.Rows renaming envOfC->Rj,AllBare->RW,subscriptTail_builtinR->SS,IntsAre->Tk
open PySem.NameKind renaming free->Rk,cell->SE
open PySem.W.KasT renaming kasWp_bind->RD
open PySem.Txt renaming join->RL
open PySem.SetTable.below renaming go->RN
open PySem.F renaming plain_list_iadd->RQ,slot_enumerate_next->Tb,plain_proto_collect->Tc,entry_proto_collect->Td
open PySem.Shared renaming TypeIs->RV
open PySem.Builtin.Frozenset renaming updateFrom->R4,sizeOf->SF
open PySem.Code renaming quiet_builtin->Sl,isFrame->TN
open PySem.W renaming topFrame->SL,namesBound->Tt,topFrom->TC,looks_findIn->TJ,staticsOk->TR,kas_place->TV
open PySem.Builtin.Dict renaming updateFrom->SO
open PySem.Unicode renaming lowerAt->S3
open PySem.Walks renaming list->Tu
open PySem.SeqAt renaming EqAt->Tx
open PySem.pickOrder renaming go->TH
abbrev Pz:=@decide_eq_true
abbrev PB:=@decide_eq_false
abbrev PD:=@if_neg
abbrev PF:=@if_pos
abbrev PH:=@of_decide_eq_true
abbrev PJ:=@of_decide_eq_false
abbrev PK:=@absurd
abbrev PL:=@Option.some.inj
abbrev PM:=@congrArg
abbrev PN:=PySem.Str->Option PySem.Value
abbrev PP:=PySem.Value->PySem.Shared->Prop
abbrev PQ:=List (PySem.Addr×PySem.Obj)
noncomputable section
namespace L2
open PySem PySem.Spec PyProof.Rows
abbrev Key:=Sum Int Str
def pz:Key->h9->Bool
 | .inl k,v=>Sx k v
 | .inr x,v=>Tp x v
def O3(w:P9):Key->Int
 | .inl k=>hashInt k
 | .inr x=>hashStr w x
theorem cg:∀{k:Key}{v:h9},pz k v=true->(∃i t,k=Sum.inl i/\v=Ry i t)\/(∃x t,k=Sum.inr x/\v=R7 x t)
 | .inl i,v,h=>by obtain⟨t,e⟩:=Value.isInt_shape (k:=i) (v:=v) h;exact .inl ⟨i,t,rfl,e⟩
 | .inr x,v,h=>by obtain⟨t,e⟩:=Value.isStrOf_shape (x:=x) (v:=v) h;exact .inr ⟨x,t,rfl,e⟩
theorem y3(i:Int)(t:Tok):pz (.inl i) (.int i t)=true:=by simp[pz,Sx]
theorem y0(x:Str)(t:Tok):pz (.inr x) (.str x t)=true:=by simp[pz,Tp]
theorem Jx(a b:Int):decide ((Sum.inl a:Key)=Sum.inl b)=(a == b):=by
 by_cases e:a=b
 .subst e;simp
 .have h:¬(Sum.inl a:Key)=Sum.inl b:=λq=>e (Sum.inl.inj q);rw[PB h];exact(beq_eq_false_iff_ne.mpr e).symm
theorem Ju(a b:Str):decide ((Sum.inr a:Key)=Sum.inr b)=decide (a=b):=by
 by_cases e:a=b
 .subst e;simp
 .have h:¬(Sum.inr a:Key)=Sum.inr b:=λq=>e (Sum.inr.inj q);rw[PB h,PB e]
theorem Jw(a:Int)(b:Str):decide ((Sum.inl a:Key)=Sum.inr b)=false:=PB (λq=>nomatch q)
theorem Jv(a:Str)(b:Int):decide ((Sum.inr a:Key)=Sum.inl b)=false:=PB (λq=>nomatch q)
def cz(prog:P6)(w:P9):PySem.KeyKind prog w Key where
 is:=pz
 hash:=O3 w
 inj:=λv a b ha hb=>by
  rcases cg ha with⟨i,t,rfl,rfl⟩|⟨x,t,rfl,rfl⟩
  .rcases cg hb with⟨j,u,rfl,e⟩|⟨y,u,rfl,e⟩
   .injection e with e1 _;rw[e1]
   .exact nomatch e
  .rcases cg hb with⟨j,u,rfl,e⟩|⟨y,u,rfl,e⟩
   .exact nomatch e
   .injection e with e1 _;rw[e1]
 byValue:=λk v h=>by
   rcases cg h with⟨i,t,rfl,rfl⟩|⟨x,t,rfl,rfl⟩<;>rfl
 pyHash:=λhv h=>by
  rcases cg hv with⟨i,t,rfl,rfl⟩|⟨x,t,rfl,rfl⟩
  .exact wpAny_pyHash_int h
  .exact wpAny_pyHash_str h
 eqBool:=λhu hv h=>by
  rcases cg hu with⟨i,t,rfl,rfl⟩|⟨x,t,rfl,rfl⟩
  .rcases cg hv with⟨j,u,rfl,rfl⟩|⟨y,u,rfl,rfl⟩
   .rw[Jx]at h;exact wpAny_eqBool_int h
   .rw[Jw]at h;exact SeqAt.EqAt.int_str i t y u _ _ _ _ h
  .rcases cg hv with⟨j,u,rfl,rfl⟩|⟨y,u,rfl,rfl⟩
   .rw[Jv]at h;exact SeqAt.EqAt.str_int x t j u _ _ _ _ h
   .rw[Ju]at h;exact wpAny_eqBool_str h
 «strs» :=λk x t v h=>by
  rcases cg h with⟨i,u,rfl,e⟩|⟨y,u,rfl,e⟩
  .exact nomatch e
  .injection e with e1 _;subst e1;cases v<;>rfl
theorem tR(prog:P6)(w:P9)(i:Int)(t:Tok):(cz prog w).is (.inl i) (.int i t)=true:=y3 i t
theorem tQ(prog:P6)(w:P9)(x:Str)(t:Tok):(cz prog w).is (.inr x) (.str x t)=true:=y0 x t
inductive V where
 |non|bl (b:Bool)|int (i:Int)|str (x:Str)|byt (b:Array UInt8)|flt (b:UInt64)|ref (a:XB)|ty (n:String)
 deriving DecidableEq
def aQ:V->h9->Prop
 | .non,u=>u=QZ
 | .bl b,u=>u=Tw b
 | .int i,u=>∃t,u=Ry i t
 | .str x,u=>∃t,u=R7 x t
 | .byt b,u=>∃t,u=Value.bytes b t
 | .flt b,u=>∃t,u=Value.float b t
 | .ref a,u=>u=P8 a
 | .ty n,u=>u=Si n
abbrev aZ:List V->List h9->Prop:=T5 aQ
theorem aZ.length(r:aZ xs us):xs.length=us.length:=Paired.length r
theorem aZ.get:∀{xs:List V}{us:List h9}{i:Nat}{x:V},aZ xs us->xs[i]? =some x->∃u,us[i]? =some u/\aQ x u
 |_,_,_,_,.nil,e=>by simp at e
 |_,_,0,_,.cons r _,e=>by simp at e;subst e;exact⟨_,rfl,r⟩
 |_,_,i+1,x,.cons _ t,e=>by obtain⟨u,h1,h2⟩:=aZ.get (i:=i) (x:=x) t (by simpa using e);exact⟨u,by simpa using h1,h2⟩
theorem aZ.set(r:aQ x u):∀{xs:List V}{us:List h9}(i:Nat),aZ xs us->aZ (xs.set i x) (us.set i u)
 |_,_,_,.nil=>.nil
 |_,_,0,.cons _ t=>.cons r t
 |_,_,i+1,.cons q t=>.cons q (aZ.set r i t)
theorem aZ.append:∀{xs ys:List V}{us ws:List h9},aZ xs us->aZ ys ws->aZ (xs++ys) (us++ws)
 |_,_,_,_,.nil,s=>s
 |_,_,_,_,.cons r t,s=>.cons r (aZ.append t s)
theorem aZ.take:∀{xs:List V}{us:List h9}(n:Nat),aZ xs us->aZ (xs.take n) (us.take n)
 |_,_,0,_=>.nil
 |_,_,_+1,.nil=>.nil
 |_,_,n+1,.cons r t=>.cons r (aZ.take n t)
theorem aZ.drop:∀{xs:List V}{us:List h9}(n:Nat),aZ xs us->aZ (xs.drop n) (us.drop n)
 |_,_,0,r=>r
 |_,_,_+1,.nil=>.nil
 |_,_,n+1,.cons _ t=>aZ.drop n t
def kO:Option V->Option h9->Prop
 |some v,some u=>aQ v u
 |none,none=>True
 |_,_=>False
def KV{κ:Type}:List (κ×V)->List (κ×h9)->Prop:=T5 λ(p:κ×V)(q:κ×h9)=>p.1=q.1/\aQ p.2 q.2
def kV:Key->V
 | .inl i=>.int i
 | .inr x=>.str x
inductive HO where
 |lst (xs:List V)
 |tup (xs:List V)
 |dK (kvs:List (Key×V))|dT (kvs:List (List Key×V))
 |set (S:Int->Bool) (n:Nat)
 |ins (C dx:XB) (fs:List (Str×V))
 |own (x:XB)
 |xd (fs:List (Str×V))
 |met (f x:XB)
 |rng (lo hi:Int)
 |frz (o:Obj) (u:HO)
 |tbl (ps:Array h9)
 |ext (φ:Qe->Prop)
abbrev Hp:=XB->Option HO
def upd(H:Hp)(a:XB)(o:HO):Hp:=λb=>if b=a then some o else H b
theorem ah:upd H a o a=some o:=by unfold upd;rw[PF rfl]
theorem au(h:b≠a):upd H a o b=H b:=by unfold upd;rw[PD h]
theorem Cp:upd (upd H a o) a u=upd H a u:=by funext b;unfold upd;split<;>rfl
theorem ay{H:Hp}{a b:XB}{o:HO}(h:H a=some o)(h':H b=none):a≠b:=by intro e;subst e;rw[h]at h';cases h'
section
variable(P:P6)(w:P9)
def bE(H:Hp)(h:Qe)(a:XB):HO->Prop
 | .lst xs=>xs.length<=fv/\∃(its:List h9)(n:Nat),aZ xs its/\h.get? a=some {cls:=.type "list",data:=.seq its.toArray n}
 | .tup xs=>xs.length<=fv/\∃its:List h9,aZ xs its/\IsTup h a its.toArray
 | .dK kvs=>kvs.length<=fv/\(a == RF)=false/\∃vs,KV kvs vs/\h.DictOf (cz P w) a vs
 | .dT kvs=>kvs.length<=fv/\(a == RF)=false/\∃xs:List (List Key×XB×h9),
   T5 (λ(p:List Key×V)(q:List Key×XB×h9)=>p.1=q.1/\H q.2.1=some (.tup (p.1.map kV))/\aQ p.2 q.2.2) kvs xs/\
   ∃o es ep,h.get? a=some o/\o.ExactDict/\o.data=.dict es ep/\es.toList=xs.map (entryOfKey (Ti (cz P w)))/\(xs.map (·.1)).Nodup
 | .set S n=>h.SetOf (intKind P w) a S n
 | .ins C dx fs=>H dx=some (.own a)/\fs.length<=1000/\dx≠a/\h.get? a=some (W4 C dx)/\
   ∃mA,h.Ns1 dx mA/\(∀f,kO (fs.lookup f) (mA f))/\PySem.Within mA (fs.map (·.1))
 | .own _=>∃o,h.get? a=some o
 | .xd fs=>∃mA,h.Ns1 a mA/\∀f,kO (fs.lookup f) (mA f)
 | .rng lo hi=>∃t u v,h.get? a=some {cls:=.type "range",data:=.fields #[.int lo t,.int hi u,.int 1 v]}
 | .frz o u=>h.get? a=some o/\bE H h a u
 | .tbl ps=>h.get? a=some {cls:=.none,data:=.fields ps}
 | .met f x=>h.get? a=some (Xi (.ref f) (.ref x))
 | .ext φ=>φ h/\(∃o,h.get? a=some o)/\∀h1 h2:Qe,φ h1->(∀o,h1.get? a=some o->h2.get? a=some o)->φ h2
def jT(H:Hp)(h:Qe):Prop:= ∀a o,H a=some o->bE P w H h a o
end
section
variable{P:P6}{w:P9}{H H':Hp}{h h':Qe}{a:XB}{o:HO}
theorem bE.lt(x:bE P w H h a o):a<h.objs.size:=by
 cases o with
 |lst xs=>obtain⟨_,_,_,_,e⟩:=x;exact PY e
 |tup xs=>obtain⟨_,_,_,p⟩:=x;exact p.lt
 |dK kvs=>obtain⟨_,_,_,_,o,_,_,e,_⟩:=x;exact PY e
 |dT kvs=>obtain⟨_,_,_,_,o,_,_,e,_⟩:=x;exact PY e
 |set S n=>obtain⟨o,_,_,_,e,_⟩:=x;exact PY e
 |ins C dx fs=>obtain⟨_,_,_,e,_⟩:=x;exact PY e
 |own y=>obtain⟨_,e⟩:=x;exact PY e
 |xd fs=>obtain⟨_,⟨_,_,_,e,_⟩,_⟩:=x;exact PY e
 |rng lo hi=>obtain⟨_,_,_,e⟩:=x;exact PY e
 |frz ob u=>obtain⟨e,_⟩:=x;exact PY e
 |tbl ps=>exact PY (show h.get? a=some _ from x)
 |met f y=>exact PY (show h.get? a=some _ from x)
 |ext φ=>obtain⟨_,⟨_,e⟩,_⟩:=x;exact PY e
theorem Paired.mapP:∀{l₁:List α}{l₂:List β},T5 F l₁ l₂->(∀a b,F a b->G a b)->T5 G l₁ l₂
 |_,_,.nil,_=>.nil
 |_,_,.cons r t,f=>.cons (f _ _ r) (Paired.mapP t f)
theorem bE.stay(x:bE P w H h a o)(k:∀b u,(b=a\/H b=some (.own a))->h.get? b=some u->h'.get? b=some u)(ho:∀b,H b=some (.own a)->H' b=some (.own a))(ht:∀b xs,H b=some (.tup xs)->H' b=some (.tup xs)):bE P w H' h' a o:=by
 induction o with
 |lst xs=>obtain⟨z,its,n,r,e⟩:=x;exact⟨z,its,n,r,k _ _ (.inl rfl) e⟩
 |tup xs=>obtain⟨z,its,r,ob,e,c⟩:=x;exact⟨z,its,r,ob,k _ _ (.inl rfl) e,c⟩
 |dK kvs=>obtain⟨z,y,vs,r,ob,es,ep,e,c⟩:=x;exact⟨z,y,vs,r,ob,es,ep,k _ _ (.inl rfl) e,c⟩
 |dT kvs=>
  obtain⟨z,y,xs,r,ob,es,ep,e,c⟩:=x;exact⟨z,y,xs,Paired.mapP r λp q z=>⟨z.1,ht _ _ z.2.1,z.2.2⟩,ob,es,ep,k _ _ (.inl rfl) e,c⟩
 |set S n=>obtain⟨ob,es,ep,t,e,c⟩:=x;exact⟨ob,es,ep,t,k _ _ (.inl rfl) e,c⟩
 |ins C dx fs=>
  obtain⟨d,z,ne,e,mA,⟨od,es,ep,e2,c⟩,r⟩:=x;exact⟨ho _ d,z,ne,k _ _ (.inl rfl) e,mA,⟨od,es,ep,k _ _ (.inr d) e2,c⟩,r⟩
 |own y=>obtain⟨ob,e⟩:=x;exact⟨ob,k _ _ (.inl rfl) e⟩
 |xd fs=>obtain⟨mA,⟨od,es,ep,e,c⟩,r⟩:=x;exact⟨mA,⟨od,es,ep,k _ _ (.inl rfl) e,c⟩,r⟩
 |rng lo hi=>obtain⟨t,u,v,e⟩:=x;exact⟨t,u,v,k _ _ (.inl rfl) e⟩
 |frz ob u ih=>obtain⟨e,q⟩:=x;exact⟨k _ _ (.inl rfl) e,ih q⟩
 |tbl ps=>
  have e:h.get? a=some {cls:=.none,data:=.fields ps}:=x;show h'.get? a=some {cls:=.none,data:=.fields ps};exact k a _ (.inl rfl) e
 |met f y=>
  have e:h.get? a=some (Xi (.ref f) (.ref y)):=x;show h'.get? a=some (Xi (.ref f) (.ref y));exact k a _ (.inl rfl) e
 |ext φ=>obtain⟨p,⟨o,e⟩,st⟩:=x;exact⟨st _ _ p λo q=>k _ _ (.inl rfl) q,⟨o,k _ _ (.inl rfl) e⟩,st⟩
theorem jT.lt(x:jT P w H h)(e:H a=some o):a<h.objs.size:=(x a o e).lt
theorem jT.fresh(x:jT P w H h)(e:h.objs.size<=a):H a=none:=by
 cases q:H a with
 |none=>rfl
 |some u=>exact PK (VS (x.lt q) e) (VV _)
theorem jT.kept(x:jT P w H h)(k:∀b u,h.get? b=some u->h'.get? b=some u):jT P w H h':=λa o e=>
 (x a o e).stay (λb u _ q=>k b u q) (λ_ q=>q) λ_ _ q=>q
theorem jT.laid(x:jT P w H h)(k:∀b u,h.get? b=some u->h'.get? b=some u)(hp:h.objs.size<=a)(new:bE P w (upd H a o) h' a o):jT P w (upd H a o) h':=λb u e=>by
 have hn:=x.fresh hp
 by_cases hb:b=a
 .subst hb;rw[ah]at e;cases e;exact new
 .rw[au hb]at e;exact(x b u e).stay (λc v _ q=>k c v q) (λc q=>by rw[au (ay q hn)];exact q) λc xs q=>by rw[au (ay q hn)];exact q
end
def Rd(H:Hp)(a:XB)(u:HO):Prop:=H a=some u\/∃o,H a=some (.frz o u)
theorem Rd.of(h:H a=some u):Rd H a u:=.inl h
theorem Rd.ok(r:Rd H a u)(x:jT P w H h):bE P w H h a u:=by
 rcases r with r|⟨o,r⟩
 .exact x a u r
 .obtain⟨_,q⟩:=x a _ r;exact q
def Oc:Option HO->Prop
 |some (.lst _)=>True
 |some (.dK _)=>True
 |some (.dT _)=>True
 |some (.set _ _)=>True
 |some (.ins _ _ _)=>True
 |some (.ext _)=>True
 |_=>False
section
theorem jT.write(ok:jT P w H h)(mu:Oc (H x))(he:e=x\/H e=some (.own x))(k:∀b u,b≠e->h.get? b=some u->h'.get? b=some u)(heo:∃u,h'.get? e=some u)(new:bE P w (upd H x o') h' x o'):jT P w (upd H x o') h':=λb u q=>by
 have nown:∀c y,H c=some (.own y)->c≠x:=λc y r z=>by subst z;rw[r]at mu;exact mu
 have ntup:∀c xs,H c=some (.tup xs)->c≠x:=λc xs r z=>by subst z;rw[r]at mu;exact mu
 by_cases hb:b=x
 .subst hb;rw[ah]at q;cases q;exact new
 .rw[au hb]at q
  by_cases hbe:b=e
  .have q':H b=some (.own x):=by
    rcases he with z|z
    .exact PK (hbe.trans z) hb
    .rw[hbe];exact z
   rw[q]at q';cases q';obtain⟨v,hv⟩:=heo;exact⟨v,by rw[hbe];exact hv⟩
  .refine(ok b u q).stay (λc v hc r=>k c v ?_ r) (λc r=>by rw[au (nown c b r)];exact r) λc xs r=>by rw[au (ntup c xs r)];exact r
   rcases hc with rfl|hc
   .exact hbe
   .rintro rfl
    rcases he with z|z
    .exact nown c b hc z
    .rw[hc]at z;cases z;exact hb rfl
end
structure Un(fs ex:List XB)(H H':Hp)(h h':Qe):Prop where
 keep:∀b o,h.get? b=some o->H b=none->b∉fs->b∉ex->h'.get? b=some o
 slot:∀b o,h.get? b=some o->H b=none->b∈fs->b∉ex->∃sl,h'.get? b=some {o with slots:=sl}
 free:∀b o,h.get? b=some o->H b=none->b∉ex->H' b=none
 there:∀b o,h.get? b=some o->b∉ex->∃o',h'.get? b=some o'
 tups:∀b xs,H b=some (.tup xs)->H' b=some (.tup xs)
 frzs:∀b o u,H b=some (.frz o u)->H' b=some (.frz o u)
 tbls:∀b ps,H b=some (.tbl ps)->∃more,H' b=some (.tbl (ps++more))
section
theorem Un.any(u:Un fs ex H H1 h h1)(q:h.get? b=some ob)(n:H b=none)(hx:b∉ex):∃sl,h1.get? b=some {ob with slots:=sl}:=by
 by_cases hb:b∈fs
 .exact u.slot b ob q n hb hx
 .exact⟨ob.slots,u.keep b ob q n hb hx⟩
theorem Un.kept(k:∀b u,h.get? b=some u->h'.get? b=some u):Un fs ex H H h h':=
 ⟨λb ob q _ _ _=>k b ob q,λb ob q _ _ _=>⟨ob.slots,k b ob q⟩,λ_ _ _ n _=>n,λb ob q _=>⟨ob,k b ob q⟩,λ_ _ q=>q,λ_ _ _ q=>q,λ_ ps q=>⟨#[],by rw[q];simp⟩⟩
theorem Un.refl:Un fs ex H H h h:=Un.kept λ_ _ q=>q
theorem Un.laid(k:∀b u,h.get? b=some u->h'.get? b=some u)(hp:h.objs.size<=a)(hn:H a=none):Un fs ex H (upd H a o) h h' where
 keep:=λb u q _ _ _=>k b u q
 slot:=λb u q _ _ _=>⟨u.slots,k b u q⟩
 free:=λb u q n _=>by rw[au (VP (VS (PY q) hp))];exact n
 there:=λb u q _=>⟨u,k b u q⟩
 tups:=λb xs q=>by rw[au (ay q hn)];exact q
 frzs:=λb u xs q=>by rw[au (ay q hn)];exact q
 tbls:=λb ps q=>⟨#[],by rw[au (ay q hn),q];simp⟩
theorem Un.write(mu:Oc (H x))(he:e=x\/H e=some (.own x))(k:∀b u,b≠e->h.get? b=some u->h'.get? b=some u)(heo:∃u,h'.get? e=some u):Un fs ex H (upd H x o) h h':=by
 have hx:∀b,H b=none->b≠x:=λb n z=>by subst z;rw[n]at mu;exact mu
 have hb:∀b,H b=none->b≠e:=λb n z=>by
  subst z
  rcases he with r|r
  .exact hx b n r
  .rw[n]at r;cases r
 have hm:∀b u,H b=some u->¬Oc (some u)->b≠x:=λb u q nm z=>by subst z;rw[q]at mu;exact nm mu
 refine⟨λb u q n _ _=>k b u (hb b n) q,λb u q n _ _=>⟨u.slots,k b u (hb b n) q⟩,λb u q n _=>by rw[au (hx b n)];exact n,λb u q _=>?_,
  λb xs q=>by rw[au (hm b _ q λz=>z)];exact q,λb u xs q=>by rw[au (hm b _ q λz=>z)];exact q,λb ps q=>⟨#[],by rw[au (hm b _ q λz=>z),q];simp⟩⟩
 by_cases hbe:b=e
 .subst hbe;exact heo
 .exact⟨u,k b u hbe q⟩
end
def N6(h:Qe)(H:Hp):List XB:=(List.range h.objs.size).filter λa=>(H a).isSome
def rp(h:Qe)(H:Hp):Qe:=Xn h (N6 h H)
theorem y9(h:Qe)(H:Hp):(rp h H).objs.size=h.objs.size:=PySem.W.hideAll_size _ _
theorem Bi(e:h.get? b=some o)(n:H b=none):(rp h H).get? b=some o:=
 W6 _ e λhm=>by have q:(H b).isSome=true:=(UA.mp hm).2;rw[n]at q;simp at q
theorem C6(e:(rp h H).get? b=some o):h.get? b=some o/\H b=none:=by
 have e':h.get? b=some o:=Xo (N6 h H) e;refine⟨e',?_⟩;cases q:H b with
 |none=>rfl
 |some x=>
  have hm:b∈N6 h H:=UA.mpr ⟨Uh.mpr (PY e'),by simp[q]⟩;have z:(rp h H).get? b=none:=PySem.W.hideAll_none (N6 h H) hm;rw[z]at e;cases e
def ms(g h:Qe)(L:XB):List (XB×Obj):=(List.range h.objs.size).filterMap λa=>if a=L\/(g.get? a).isSome=true then none else(h.get? a).map λo=>(a,o)
theorem tS(h1:a≠L)(h2:g.get? a=none)(h3:h.get? a=some o):(a,o)∈ms g h L:=
 UF.mpr ⟨a,Uh.mpr (PY h3),by simp[h1,h2,h3]⟩
theorem nc(hp:p∈ms g h L):p.1≠L/\g.get? p.1=none/\h.get? p.1=some p.2:=by
 obtain⟨b,_,e⟩:=UF.mp hp;split at e
 .cases e
 .rename_i hn;cases q:h.get? b with
  |none=>rw[q]at e;simp at e
  |some u=>
   rw[q]at e;simp only[WR,Option.some.injEq]at e;subst e;refine⟨λz=>hn (.inl z),?_,q⟩;show g.get? b=none;cases r:g.get? b with
   |none=>rfl
   |some v=>exact(hn (.inr (by simp[r]))).elim
def rest(g h:Qe)(L d:XB):List (XB×Obj):=(ms g h L).filter λp=>decide (p.1≠d)
theorem rest_ne:∀p∈rest g h L d,p.1≠d:=λp hp=>PH (UA.mp hp).2
theorem A2(h1:a≠L)(h2:g.get? a=none)(h3:h.get? a=some o)(h4:a≠d):(a,o)∈rest g h L d:=
 UA.mpr ⟨tS h1 h2 h3,Pz h4⟩
theorem AV:News g L h (ms g h L):=λp hp=>let ⟨a,b,c⟩:=nc hp;⟨c,a,b⟩
theorem C8(h1:d≠L)(h2:g.get? d=none)(h3:h.get? d=some o):News g L h ((d,o)::rest g h L d):=λp hp=>by
 rcases T8.mp hp with rfl|hp
 .exact⟨h3,h1,h2⟩
 .exact AV p (UA.mp hp).1
theorem ku(k:∀b o,g.get? b=some o->h.get? b=some o)(F:Fr g L h' m)(N:News g L h' (rest g h L d)):∀b o,b≠L->b≠d->h.get? b=some o->h'.get? b=some o:=λb o h1 h2 e=>by
 cases q:g.get? b with
 |some u=>
  have:=k b u q;rw[e]at this;cases this;exact F.keep b _ q
 |none=>exact(N (b,o) (A2 h1 q e h2)).1
structure Mod(K:Frag)(mg:PN)(Px:Qe):Prop where
 kin:K.In Px
 glob:Px.Ns P3 mg
 blt:∃mb,Px.Ns builtinsNs mb/\∀x:Str,x≠"__name__"->mb x=Qc x
 nolimit:Px.NoLimit
structure Cx where
 prog:P6
 w:P9
 K:Frag
 mg:Str->Option h9
 Px:Qe
 A:QD
 N:List Str
 s₀:PZ
 H₀:Hp
 env:Tz
 Py:List Tz
 stack:List Tz
 ex:List XB
 fn:Str->Bool
 calm:Bool
 pn:List (XB×Obj)
 xe:h9->PZ->Prop
def jU(l:List Tz):List XB:=l.filterMap (·.frame)
abbrev Cx.fs(X:Cx):List XB:=jU X.Py
def Ob(sc:RS)(x:Str):Prop:=sc.names.lookup x=some .local\/sc.names.lookup x=some .cell\/sc.names.lookup x=some .free
def Ib(sc:RS)(x:Str):Prop:=sc.names.lookup x=some .local\/sc.names.lookup x=some .cell
def Pr(env:Tz)(h:Qe)(m:PN)(x:Str)(u:h9):Prop:=
 (env.kindOf x=some .local/\m x=some u)\/((env.kindOf x=some .cell\/env.kindOf x=some .free)/\∃c,env.cells.lookup x=some c/\h.IsCell c (some u))
structure Cx.Ok(X:Cx):Prop where
 mod:Mod X.K X.mg X.Px
 kind:X.env.scope.kind=.function
 glob:X.env.globals=P3
 blt:X.env.builtins=builtinsNs
 above:X.s₀.heap.objs.size<=X.env.locals
 inj:∀x y c,X.env.cells.lookup x=some c->X.env.cells.lookup y=some c->x=y
 has:∀x,(X.env.kindOf x=some .cell\/X.env.kindOf x=some .free)->∃c,X.env.cells.lookup x=some c
 cab:∀x c,X.fn x=true->X.env.cells.lookup x=some c->X.s₀.heap.objs.size<=c
 hd:X.calm=true->X.A.handled=none
 frames:X.A.frames=some X.stack
 stk:X.stack=X.Py\/(X.stack=X.env::X.Py/\X.env.frame=some X.env.locals)
 exf:∀b∈X.ex,b≠X.env.locals/\∀x c,X.env.cells.lookup x=some c->c≠b
 bs:∀b o,X.Px.get? b=some o->X.s₀.heap.get? b=some o/\X.H₀ b=none
 bsz:X.Px.objs.size<=X.s₀.heap.objs.size
 noex:∀b o,X.Px.get? b=some o->b∉X.ex
 exfs:∀b∈X.ex,b∉X.fs
 funs:X.s₀.heap.FunFrames X.Px X.Py
 frf:∀b∈X.fs,X.H₀ b=none
structure aJ(X:Cx)(Pw:PQ)(σ:List (Option V))(H:Hp)(s:PZ):Prop where
 ok:X.Ok
 os:s.os=X.s₀.os
 bare:RW s.gens
 Px:Un X.fs X.ex X.H₀ H X.s₀.heap s.heap
 loc:∃m,s.heap.Ns X.env.locals m/\∀(i:Nat)(x:Str)(v:V),X.N[i]? =some x->σ[i]? =some (some v)->Ob X.env.scope x->∃u,aQ v u/\Pr X.env s.heap m x u
 cell:∀x c,X.env.cells.lookup x=some c->∃v,s.heap.IsCell c v
 free:H X.env.locals=none
 freeC:∀x c,X.env.cells.lookup x=some c->H c=none
 pin:∀p∈X.pn++Pw,s.heap.get? p.1=some p.2/\H p.1=none/\p.1≠X.env.locals/\p.1∉X.fs/\∀v,p.2.data≠.cell v
 hok:jT X.prog X.w H s.heap
 len:σ.length=X.N.length
section
variable{X:Cx}
theorem Cx.Ok.nofr(ok:X.Ok)(e:X.Px.get? b=some o):b∉X.fs:=λhb=>by have:=(ok.funs.mem hb).1;rw[e]at this;cases this
theorem aJ.bs(I:aJ X Pw σ H s):∀b o,X.Px.get? b=some o->s.heap.get? b=some o/\H b=none:=λb o e=>
 ⟨I.Px.keep b o (I.ok.bs b o e).1 (I.ok.bs b o e).2 (I.ok.nofr e) (I.ok.noex b o e),I.Px.free b o (I.ok.bs b o e).1 (I.ok.bs b o e).2 (I.ok.noex b o e)⟩
theorem aJ.bk(I:aJ X Pw σ H s):∀b o,X.Px.get? b=some o->s.heap.get? b=some o:=λb o e=>(I.bs b o e).1
theorem aJ.mod(I:aJ X Pw σ H s):Mod X.K X.mg X.Px:=I.ok.mod
theorem aJ.kIn(I:aJ X Pw σ H s):X.K.In s.heap:=I.ok.mod.kin.keeps I.bk
theorem aJ.fr(I:aJ X Pw σ H s):∃m,Fr X.Px X.env.locals s.heap m:=
 let ⟨m,hn,_⟩:=I.loc
 ⟨m,hn,I.bk,VR I.ok.bsz I.ok.above⟩
theorem aJ.lt(I:aJ X Pw σ H s):X.env.locals<s.heap.objs.size:=let ⟨_,hn,_⟩:=I.loc;hn.lt
theorem aJ.sz(I:aJ X Pw σ H s):X.s₀.heap.objs.size<=s.heap.objs.size:=VR I.ok.above (V0 I.lt)
theorem aJ.nofs(I:aJ X Pw σ H s){a:XB}(h:s.heap.objs.size<=a):a∉X.fs:=λhb=>by obtain⟨_,o,ho,_⟩:=I.ok.funs.mem hb;exact PK (VS (PY ho) (VR I.sz h)) (VV _)
theorem aJ.cne(I:aJ X Pw σ H s):∀x c,X.env.cells.lookup x=some c->c≠X.env.locals:=λx c e z=>by obtain⟨v,o,ho,hd⟩:=I.cell x c e;obtain⟨m,⟨o',es,ep,ho',hd',_⟩,_⟩:=I.loc;rw[z,ho']at ho;cases ho;rw[hd']at hd;cases hd
theorem aJ.funs(I:aJ X Pw σ H s):s.heap.FunFrames X.Px X.Py:=by
 have all:∀(l:List Tz),(∀b∈jU l,b∈X.fs)->X.s₀.heap.FunFrames X.Px l->s.heap.FunFrames X.Px l:=by
  intro l
  induction l with
  |nil=>intro _ _;trivial
  |cons env r ih=>
   intro hs hl;obtain⟨hk,⟨L,o,hf,hn,ho,hd⟩,hr⟩:=hl;have hL:L∈X.fs:=hs L (by unfold jU;rw[US,hf];exact Ui);obtain⟨sl,e⟩:=I.Px.slot L o ho (I.ok.frf L hL) hL λz=>I.ok.exfs L z hL;exact⟨hk,⟨L,_,hf,hn,e,hd⟩,ih (λb hb=>hs b (by unfold jU;rw[US,hf];exact Ue _ hb)) hr⟩
 exact all X.Py (λ_ hb=>hb) I.ok.funs
theorem aJ.stack(I:aJ X Pw σ H s):s.heap.FunFrames X.Px X.stack:=by
 rcases I.ok.stk with e|⟨e,hf⟩
 .rw[e];exact I.funs
 .rw[e];obtain⟨m,hn,_⟩:=I.loc;refine .cons (by rw[I.ok.kind];decide) hf hn ?_ I.funs;exact RX (VR I.ok.bsz I.ok.above)
theorem aJ.stkSub(I:aJ X Pw σ H s):∀b∈jU X.stack,b∈X.env.locals::X.fs:=λb hb=>by
 rcases I.ok.stk with e|⟨e,hf⟩
 .rw[e]at hb;exact Ue _ hb
 .rw[e]at hb;unfold jU at hb;rw[US,hf]at hb;exact hb
theorem aJ.stkFree(I:aJ X Pw σ H s):∀b∈jU X.stack,H b=none:=λb hb=>by
 rcases T8.mp (I.stkSub b hb)with e|hb
 .rw[e];exact I.free
 .obtain⟨_,o,ho,_⟩:=I.ok.funs.mem hb;exact I.Px.free b o ho (I.ok.frf b hb) λz=>I.ok.exfs b z hb
theorem aJ.step{g':Array RY}{t':Nat}{ch:List XB}(I:aJ X Pw σ H s)(hch:∀b∈ch,(b∈X.ex\/X.s₀.heap.objs.size<=b)/\b≠X.env.locals/\(∀x c,X.env.cells.lookup x=some c->c≠b)/\∀p∈X.pn++Pw,p.1≠b)(keep:∀b o,b≠X.env.locals->b∉X.fs->b∉ch->s.heap.get? b=some o->H b=none->h'.get? b=some o)(slot:∀b o,b≠X.env.locals->b∈X.fs->b∉ch->s.heap.get? b=some o->H b=none->∃sl,h'.get? b=some {o with slots:=sl})(free:∀b o,b∉ch->s.heap.get? b=some o->H b=none->H' b=none)(there:∀b o,b∉ch->s.heap.get? b=some o->∃o',h'.get? b=some o')(tups:∀b xs,H b=some (.tup xs)->H' b=some (.tup xs))(frzs:∀b o u,H b=some (.frz o u)->H' b=some (.frz o u))(tbls:∀b ps,H b=some (.tbl ps)->∃more,H' b=some (.tbl (ps++more)))(ns:∀m,s.heap.Ns X.env.locals m->h'.Ns X.env.locals m)(hok:jT X.prog X.w H' h')(hg:RW g'):aJ X Pw σ H' {s with heap:=h',gens:=g',drawn:=d',toks:=t'}:=by
 have neL:∀b o,X.s₀.heap.get? b=some o->b≠X.env.locals:=λb o e=>VP (VS (PY e) I.ok.above);have neC:∀b o,X.s₀.heap.get? b=some o->b∉X.ex->b∉ch:=λb o e hx hb=>by
  rcases(hch b hb).1 with z|z
  .exact hx z
  .exact PK (VS (PY e) z) (VV _)
 have cellK:∀x c,X.env.cells.lookup x=some c->∀v,s.heap.IsCell c v->h'.IsCell c v:=λx c e v ⟨o,ho,hd⟩=>by
  have nch:c∉ch:=λz=>(hch c z).2.2.1 x c e rfl
  by_cases hc:c∈X.fs
  .obtain⟨sl,q⟩:=slot c o (I.cne x c e) hc nch ho (I.freeC x c e);exact⟨_,q,hd⟩
  .exact⟨o,keep c o (I.cne x c e) hc nch ho (I.freeC x c e),hd⟩
 refine⟨I.ok,I.os,hg,⟨λb o e n hb hx=>?_,λb o e n hb hx=>?_,λb o e n hx=>?_,λb o e hx=>?_,λb xs e=>tups b xs (I.Px.tups b xs e),λb o xs e=>frzs b o xs (I.Px.frzs b o xs e),λb ps e=>?_⟩,?_,λx c e=>?_,?_,λx c e=>?_,λp hp=>?_,hok,I.len⟩
 .exact keep b o (neL b o e) hb (neC b o e hx) (I.Px.keep b o e n hb hx) (I.Px.free b o e n hx)
 .obtain⟨sl,e1⟩:=I.Px.slot b o e n hb hx;obtain⟨sl',e2⟩:=slot b _ (neL b o e) hb (neC b o e hx) e1 (I.Px.free b o e n hx);exact⟨sl',e2⟩
 .obtain⟨o',e1⟩:=I.Px.there b o e hx;exact free b o' (neC b o e hx) e1 (I.Px.free b o e n hx)
 .obtain⟨o',e1⟩:=I.Px.there b o e hx;exact there b o' (neC b o e hx) e1
 .obtain⟨m1,e1⟩:=I.Px.tbls b ps e;obtain⟨m2,e2⟩:=tbls b _ e1;exact⟨m1++m2,by rw[e2,Array.append_assoc]⟩
 .obtain⟨m,hn,hl⟩:=I.loc;refine⟨m,ns m hn,λi x v e1 e2 e3=>?_⟩;obtain⟨u,r,l⟩:=hl i x v e1 e2 e3;refine⟨u,r,?_⟩
  rcases l with l|⟨k,c,e,z⟩
  .exact .inl l
  .exact .inr ⟨k,c,e,cellK x c e _ z⟩
 .obtain⟨v,z⟩:=I.cell x c e;exact⟨v,cellK x c e v z⟩
 .obtain⟨m,⟨o,_,_,ho,_⟩,_⟩:=I.loc;exact free _ o (λz=>(hch _ z).2.1 rfl) ho I.free
 .obtain⟨v,o,ho,hd⟩:=I.cell x c e;exact free c o (λz=>(hch c z).2.2.1 x c e rfl) ho (I.freeC x c e)
 .obtain⟨e,n,ne,nf,d⟩:=I.pin p hp;have nch:p.1∉ch:=λz=>(hch p.1 z).2.2.2 p hp rfl;exact⟨keep p.1 p.2 ne nf nch e n,free p.1 p.2 nch e n,ne,nf,d⟩
theorem aJ.un(I:aJ X Pw σ H s)(u:Un X.fs [] H H' s.heap h')(hok:jT X.prog X.w H' h'):aJ X Pw σ H' {s with heap:=h',toks:=t'}:=by
 obtain⟨m,⟨o,es,ep,ho,r⟩,_⟩:=id I.loc;obtain⟨sl,hL⟩:=u.any ho I.free (by simp);exact I.step (g':=s.gens) (d':=s.drawn) (ch:=[]) (λ_ z=>nomatch z) (λb o _ hb _ e n=>u.keep b o e n hb (by simp)) (λb o _ hb _ e n=>u.slot b o e n hb (by simp)) (λb o _ e n=>u.free b o e n (by simp)) (λb o _ e=>u.there b o e (by simp)) u.tups u.frzs u.tbls (λm' hm=>by
  obtain⟨o',es',ep',ho',r'⟩:=hm;rw[ho]at ho';cases ho';exact⟨_,es',ep',hL,r'⟩) hok I.bare
theorem aJ.call(I:aJ X Pw σ H s)(u:Un (jU X.stack) ch H H' s.heap h')(hok:jT X.prog X.w H' h')(hg:RW g')(hch:∀b∈ch,(b∈X.ex\/X.s₀.heap.objs.size<=b)/\b≠X.env.locals/\(∀x c,X.env.cells.lookup x=some c->c≠b)/\∀p∈X.pn++Pw,p.1≠b):aJ X Pw σ H' {s with heap:=h',gens:=g',drawn:=d',toks:=t'}:=by
 obtain⟨m,⟨o,es,ep,ho,r⟩,_⟩:=id I.loc;obtain⟨sl,hL⟩:=u.any ho I.free λz=>(hch _ z).2.1 rfl;exact I.step (ch:=ch) hch (λb o hL hb hc e n=>u.keep b o e n (λz=>(T8.mp (I.stkSub b z)).elim hL hb) hc) (λb o _ _ hc e n=>u.any e n hc) (λb o hc e n=>u.free b o e n hc) (λb o hc e=>u.there b o e hc) u.tups u.frzs u.tbls (λm' hm=>by
  obtain⟨o',es',ep',ho',r'⟩:=hm;rw[ho]at ho';cases ho';exact⟨_,es',ep',hL,r'⟩) hok hg
theorem aJ.turned(I:aJ X Pw σ H s)(k:∀b o,b≠it->s.heap.get? b=some o->h'.get? b=some o)(hn:H it=none)(hL:it≠X.env.locals)(h1:it∈X.ex\/X.s₀.heap.objs.size<=it)(h2:∀x c,X.env.cells.lookup x=some c->c≠it)(h3:∀p∈X.pn++Pw,p.1≠it):aJ X Pw σ H {s with heap:=h',toks:=t'}:=by
 have nit:∀b u,H b=some u->b≠it:=λb u e z=>by rw[z,hn]at e;cases e
 refine I.step (g':=s.gens) (d':=s.drawn) (ch:=[it]) (λb hb=>?_) (λb o _ _ hc e _=>k b o (λz=>hc (by simp[z])) e) (λb o _ _ hc e _=>⟨o.slots,k b o (λz=>hc (by simp[z])) e⟩) (λ_ _ _ _ n=>n)
  (λb o hc e=>⟨o,k b o (λz=>hc (by simp[z])) e⟩) (λ_ _ e=>e) (λ_ _ _ e=>e) (λb ps e=>⟨#[],by rw[e];simp⟩) (λm hm=>?_) (λb u e=>?_) I.bare
 .have e:b=it:=by simpa using hb
  subst e;exact⟨h1,hL,h2,h3⟩
 .obtain⟨o,es,ep,ho,r⟩:=hm;exact⟨o,es,ep,k _ o (Ne.symm hL) ho,r⟩
 .refine(I.hok b u e).stay (λc v hc q=>k c v ?_ q) (λ_ q=>q) λ_ _ q=>q
  rcases hc with z|z
  .rw[z];exact nit b u e
  .exact nit c _ z
theorem aJ.tok(I:aJ X Pw σ H s)(t:Nat):aJ X Pw σ H {s with toks:=t}:=I.un (h':=s.heap) (t':=t) Un.refl I.hok
theorem aJ.kept(I:aJ X Pw σ H s)(k:∀b u,s.heap.get? b=some u->h'.get? b=some u):aJ X Pw σ H {s with heap:=h',toks:=t'}:=I.un (Un.kept k) (I.hok.kept k)
theorem aJ.laid{a:XB}{o:HO}{t':Nat}(I:aJ X Pw σ H s)(k:∀b u,s.heap.get? b=some u->h'.get? b=some u)(hp:s.heap.objs.size<=a)(new:bE X.prog X.w (upd H a o) h' a o):aJ X Pw σ (upd H a o) {s with heap:=h',toks:=t'}:=I.un (Un.laid k hp (I.hok.fresh hp)) (I.hok.laid k hp new)
theorem aJ.write(I:aJ X Pw σ H s)(mu:Oc (H x))(he:e=x\/H e=some (.own x))(k:∀b u,b≠e->s.heap.get? b=some u->h'.get? b=some u)(heo:∃u,h'.get? e=some u)(new:bE X.prog X.w (upd H x o) h' x o):aJ X Pw σ (upd H x o) {s with heap:=h',toks:=t'}:=I.un (Un.write mu he k heo) (I.hok.write mu he k heo new)
theorem aJ.pins_of(I:aJ X Pw σ H s)(h:∀p∈pins',s.heap.get? p.1=some p.2/\H p.1=none/\p.1≠X.env.locals/\p.1∉X.fs/\∀v,p.2.data≠.cell v):aJ X pins' σ H s:=
 ⟨I.ok,I.os,I.bare,I.Px,I.loc,I.cell,I.free,I.freeC,λp hp=>(Ul.mp hp).elim (λz=>I.pin p (UJ _ z)) (h p),I.hok,I.len⟩
theorem tO{N:List Str}(hN:N.Nodup){i j:Nat}{x:Str}(a:N[i]? =some x)(b:N[j]? =some x):i=j:=by obtain⟨h1,e1⟩:=Um.mp a;obtain⟨h2,e2⟩:=Um.mp b;exact(Vg hN).mp (e1.trans e2.symm)
theorem oK(I:aJ X Pw σ H s)(hN:X.N.Nodup)(hi:X.N[i]? =some x)(hx:Ib X.env.scope x)(r:aQ v u)(h:∀s',aJ X Pw (σ.set i (some v)) H s'->(∃a,QL a s.heap s'.heap/\(a=X.env.locals\/X.env.cells.lookup x=some a))->Q () s')(hf:X.fn x=true\/X.env.scope.names.lookup x=some .local:=by first|exact .inl rfl|exact .inr rfl|assumption):P2 M A (storeName X.env x u) Q E s:=by
 obtain⟨m,hn,hl⟩:=id I.loc;have hcls:(X.env.scope.kind == .class||(X.env.scope.kind == .module&&X.env.locals != X.env.globals))=false:=by rw[I.ok.kind];rfl
 have hiσ:i<σ.length:=by rw[I.len];exact(Um.mp hi).1
 have cne:=I.cne;have tracked:∀{a:XB}{h':Qe},(∃o,s.heap.get? a=some o/\H a=none)->QL a s.heap h'->jT X.prog X.w H h':=λ{a h'} ha hs b ob e=>by
  obtain⟨_,_,hfree⟩:=ha;refine(I.hok b ob e).stay (λc w' hc q=>(hs.2 c ?_).trans q) (λ_ q=>q) λ_ _ q=>q;rintro rfl
  rcases hc with rfl|hc
  .rw[hfree]at e;cases e
  .rw[hfree]at hc;cases hc
 rcases hx with hk|hk
 .refine wpAny_storeName_local hk hn (λh' hn' hs=>?_) hcls;obtain⟨oL,_,_,hoL,_⟩:=id hn;refine h _ ⟨I.ok,I.os,I.bare,⟨λb o e n hb hx=>?_,λb o e n hb hx=>?_,I.Px.free,λb o e hx=>?_,I.Px.tups,I.Px.frzs,I.Px.tbls⟩,⟨_,hn',λj y v' e1 e2 e3=>?_⟩,λy c e=>?_,I.free,I.freeC,λp hp=>?_,tracked ⟨oL,hoL,I.free⟩ hs,by simpa using I.len⟩ ⟨_,hs,.inl rfl⟩
  .exact(hs.2 b (VP (VS (PY e) I.ok.above))).trans (I.Px.keep b o e n hb hx)
  .obtain⟨sl,e1⟩:=I.Px.slot b o e n hb hx;exact⟨sl,(hs.2 b (VP (VS (PY e) I.ok.above))).trans e1⟩
  .obtain⟨o',e1⟩:=I.Px.there b o e hx;exact⟨o',(hs.2 b (VP (VS (PY e) I.ok.above))).trans e1⟩
  .by_cases hj:j=i
   .subst hj;rw[hi]at e1;cases e1;rw[Vh hiσ]at e2;cases e2;exact⟨u,r,.inl ⟨hk,by simp⟩⟩
   .rw[Vi (Ne.symm hj)]at e2;obtain⟨u',r',q⟩:=hl j y v' e1 e2 e3;refine⟨u',r',?_⟩
    rcases q with⟨k,e⟩|⟨k,c,e,z⟩
    .refine .inl ⟨k,?_⟩;have:y≠x:=λe=>hj (tO hN e1 (e▸hi));simp[this,e]
    .exact .inr ⟨k,c,e,z.sameBut hs (cne y c e)⟩
  .obtain⟨w',z⟩:=I.cell y c e;exact⟨w',z.sameBut hs (cne y c e)⟩
  .obtain⟨e,n,ne,nf,d⟩:=I.pin p hp;exact⟨(hs.2 p.1 ne).trans e,n,ne,nf,d⟩
 .have hfn:X.fn x=true:=by
   rcases hf with z|z
   .exact z
   .rw[z]at hk;cases hk
  obtain⟨c,hc⟩:=I.ok.has x (.inl hk);obtain⟨w',z⟩:=I.cell x c hc;refine wpAny_storeName_cell I.ok.kind hk hc z (λh' hc' hs=>?_);obtain⟨oc,hoc,hocd⟩:=id z;refine h {s with heap:=h'} ⟨I.ok,I.os,I.bare,⟨λb o e n hb hx=>?_,λb o e n hb hx=>?_,I.Px.free,λb o e hx=>?_,I.Px.tups,I.Px.frzs,I.Px.tbls⟩,⟨m,hn.sameBut hs (Ne.symm (cne x c hc)),λj y v' e1 e2 e3=>?_⟩,λy c' e=>?_,I.free,I.freeC,λp hp=>?_,tracked ⟨oc,hoc,I.freeC x c hc⟩ hs,by simpa using I.len⟩ ⟨c,hs,.inr hc⟩
  .exact(hs.2 b (VP (VS (PY e) (I.ok.cab x c hfn hc)))).trans (I.Px.keep b o e n hb hx)
  .obtain⟨sl,e1⟩:=I.Px.slot b o e n hb hx;exact⟨sl,(hs.2 b (VP (VS (PY e) (I.ok.cab x c hfn hc)))).trans e1⟩
  .obtain⟨o',e1⟩:=I.Px.there b o e hx;exact⟨o',(hs.2 b (VP (VS (PY e) (I.ok.cab x c hfn hc)))).trans e1⟩
  .by_cases hj:j=i
   .subst hj;rw[hi]at e1;cases e1;rw[Vh hiσ]at e2;cases e2;exact⟨u,r,.inr ⟨.inl hk,c,hc,hc'⟩⟩
   .rw[Vi (Ne.symm hj)]at e2;obtain⟨u',r',q⟩:=hl j y v' e1 e2 e3;refine⟨u',r',?_⟩
    rcases q with q|⟨k,c',e,z'⟩
    .exact .inl q
    .refine .inr ⟨k,c',e,z'.sameBut hs ?_⟩;rintro rfl;exact hj (tO hN e1 (I.ok.inj _ _ _ e hc▸hi))
  .by_cases hcc:c'=c
   .subst hcc;exact⟨_,hc'⟩
   .obtain⟨w2,z2⟩:=I.cell y c' e;exact⟨w2,z2.sameBut hs hcc⟩
  .obtain⟨e,n,ne,nf,d⟩:=I.pin p hp;refine⟨(hs.2 p.1 ?_).trans e,n,ne,nf,d⟩;intro q;rw[q,hoc]at e;have q':oc=p.2:=PL e;exact d w' (by rw[<-q'];exact hocd)
theorem mE(I:aJ X Pw σ H s)(hN:X.N.Nodup)(hi:X.N[i]? =some x)(hx:Ib X.env.scope x)(r:aQ v u)(h:∀s',aJ X Pw (σ.set i (some v)) H s'->Q () s')(hf:X.fn x=true\/X.env.scope.names.lookup x=some .local:=by first|exact .inl rfl|exact .inr rfl|assumption):P2 M A (storeName X.env x u) Q E s:=
 oK I hN hi hx r (λs' I' _=>h s' I') hf
theorem aJ.call'(I:aJ X Pw σ H s)(ho:s'.os=s.os)(u:Un (jU X.stack) ch H H' s.heap s'.heap)(hok:jT X.prog X.w H' s'.heap)(hg:RW s'.gens)(hch:∀b∈ch,(b∈X.ex\/X.s₀.heap.objs.size<=b)/\b≠X.env.locals/\(∀x c,X.env.cells.lookup x=some c->c≠b)/\∀p∈X.pn++Pw,p.1≠b):aJ X Pw σ H' s':=by obtain⟨h',g',d',t',o'⟩:=s';have e:o'=s.os:=ho;subst e;exact I.call (g':=g') (t':=t') (d':=d') u hok hg hch
end
abbrev XK:=h9->Option XB->Hp->Prop
abbrev St:=List (Option V)
abbrev oR(a:XB):Option V:=some (.ref a)
abbrev oJ(a:Int):Option V:=some (.int a)
abbrev oT(a:Str):Option V:=some (.str a)
abbrev VK:=V->Hp->Prop
abbrev TE:=St->Hp->VK->Prop
abbrev TT:=St->Hp->(Bool->Hp->Prop)->Prop
abbrev TA:=St->Hp->(List V->Hp->Prop)->Prop
structure iI where
 nx:St->Hp->Prop
 rt:VK
 bk:St->Hp->Prop:=λ_ _=>False
 ct:St->Hp->Prop:=λ_ _=>False
abbrev TS:=iI->St->Hp->Prop
def EP(X:Cx)(Pw:PQ)(σ:St)(Q:VK)(u:h9)(s':PZ):Prop:= ∃v H',aJ X Pw σ H' s'/\aQ v u/\Q v H'
def TP(X:Cx)(Pw:PQ)(σ:St)(Q:Bool->Hp->Prop)(b:Bool)(s':PZ):Prop:= ∃H',aJ X Pw σ H' s'/\Q b H'
def AP(X:Cx)(Pw:PQ)(σ:St)(Q:List V->Hp->Prop)(us:List h9)(s':PZ):Prop:= ∃vs H',aJ X Pw σ H' s'/\aZ vs us/\Q vs H'
def SP(X:Cx)(Pw:PQ)(D:iI)(f:Flow)(s':PZ):Prop:=
 match f with
 | .next=>∃σ' H',aJ X Pw σ' H' s'/\D.nx σ' H'
 | .brk=>∃σ' H',aJ X Pw σ' H' s'/\D.bk σ' H'
 | .cont=>∃σ' H',aJ X Pw σ' H' s'/\D.ct σ' H'
 | .ret u=>∃v σ' H',aJ X Pw σ' H' s'/\aQ v u/\D.rt v H'
def PE(X:Cx)(e:Qx)(t:TE):Prop:=
 ∀(Pw:PQ)(s:PZ)(σ:St)(H:Hp)(Q:VK),aJ X Pw σ H s->t σ H Q->P2 (P7 X.prog X.w) X.A (Qk e X.env) (EP X Pw σ Q) X.xe s
def PT(X:Cx)(e:Qx)(t:TT):Prop:=
 ∀(Pw:PQ)(s:PZ)(σ:St)(H:Hp)(Q:Bool->Hp->Prop),aJ X Pw σ H s->t σ H Q->P2 (P7 X.prog X.w) X.A (T2 e X.env (Qk e X.env)) (TP X Pw σ Q) X.xe s
def PW(X:Cx)(e:Qx)(t:TT):Prop:=
 ∀(whole:Sem h9)(Pw:PQ)(s:PZ)(σ:St)(H:Hp)(Q:Bool->Hp->Prop),aJ X Pw σ H s->t σ H Q->P2 (P7 X.prog X.w) X.A (T2 e X.env whole) (TP X Pw σ Q) X.xe s
theorem PW.pt(h:PW X e t):PT X e t:=h _
def PA(X:Cx)(es:List Qx)(t:TA):Prop:=
 ∀(pos:So)(Pw:PQ)(s:PZ)(σ:St)(H:Hp)(Q:List V->Hp->Prop),aJ X Pw σ H s->t σ H Q->P2 (P7 X.prog X.w) X.A (TX (Qh pos (P1 es X.env))) (AP X Pw σ Q) X.xe s
def PS(X:Cx)(st:Ql)(t:TS):Prop:=
 ∀(Pw:PQ)(s:PZ)(σ:St)(H:Hp)(D:iI),aJ X Pw σ H s->t D σ H->P2 (P7 X.prog X.w) X.A (exec st X.env) (SP X Pw D) X.xe s
def oE(X:Cx)(st:List Ql)(t:TS):Prop:=
 ∀(Pw:PQ)(s:PZ)(σ:St)(H:Hp)(D:iI),aJ X Pw σ H s->t D σ H->P2 (P7 X.prog X.w) X.A (execs st X.env) (SP X Pw D) X.xe s
theorem bL{α:Type}{t:Sem α}{Q Q':α->PZ->Prop}{M:Model}{A:QD}{E:PP}{s:PZ}(h:P2 M A t Q E s)(hQ:∀a s,Q a s->Q' a s):P2 M A t Q' E s:=Qz h hQ λ_ _ x=>x
section
variable{X:Cx}
theorem bin{a b:Qx}{ta tb:TE}(ha:PE X a ta)(hb:PE X b tb){Pw:PQ}{s:PZ}{σ:St}{H:Hp}{R:V->V->Hp->Prop}(I:aJ X Pw σ H s)(h:ta σ H λx H1=>tb σ H1 λy H2=>R x y H2){α:Type}{Q:α->PZ->Prop}{f:h9->h9->Sem α}(hf:∀v u s2 x y H2,aJ X Pw σ H2 s2->aQ x v->aQ y u->R x y H2->P2 (P7 X.prog X.w) X.A (f v u) Q X.xe s2):P2 (P7 X.prog X.w) X.A (Qk a X.env) (λv s₁=>P2 (P7 X.prog X.w) X.A (Qk b X.env) (λu s₂=>P2 (P7 X.prog X.w) X.A (f v u) Q X.xe s₂) X.xe s₁) X.xe s:=by refine bL (ha Pw s σ H _ I h) λv s1 ⟨x,H1,I1,r1,q1⟩=>?_;refine bL (hb Pw s1 σ H1 _ I1 q1) λu s2 ⟨y,H2,I2,r2,q2⟩=>?_;exact hf v u s2 x y H2 I2 r1 r2 q2
def OO(i:Nat):TE:=λσ H Q=>∃v,σ[i]? =some (some v)/\Q v H
def tC(v:V):TE:=λ_ H Q=>Q v H
theorem IW{i:Nat}{x:Str}{pos:So}(hN:X.N[i]? =some x)(hv:Ob X.env.scope x)(hd:(x == ("__debug__":Str))=false:=by decide)(hcd:(x == ("__classdict__":Str))=false:=by decide):PE X (.Name x pos) (OO i):=by
 intro Pw s σ H Q I h;obtain⟨v,e,h⟩:=h;obtain⟨m,hn,hl⟩:=I.loc;obtain⟨u,r,l⟩:=hl i x v hN e hv;have fin:EP X Pw σ Q u s:=⟨v,H,I,r,h⟩
 rcases l with⟨hk,hm⟩|⟨hk,c,hc,hcell⟩
 .exact wpAny_Name (wpAny_loadName_local I.ok.kind hk hn hm fin) hd
 .rcases hk with hk|hk
  .exact wpAny_Name (wpAny_loadName_cell I.ok.kind hk hc hcell fin) hd
  .exact wpAny_Name (wpAny_loadName_free I.ok.kind hk hc hcell fin hcd) hd
theorem ag{i j pos}:PE X (.Constant (.int i) j pos) (tC (.int i)):=λ_ _ _ H _ I h=>wpAny_Constant_int ⟨.int i,H,I.tok _,⟨_,rfl⟩,h⟩
theorem gw{b j pos}:PE X (.Constant (.bool b) j pos) (tC (.bl b)):=λ_ _ _ H _ I h=>Constant_bool ⟨.bl b,H,I,rfl,h⟩
theorem dq{j pos}:PE X (.Constant .none j pos) (tC .non):=λ_ _ _ H _ I h=>Constant_none ⟨.non,H,I,rfl,h⟩
theorem aP{x j pos}:PE X (.Constant (.str x) j pos) (tC (.str x)):=λ_ _ _ H _ I h=>Sn ⟨.str x,H,I.tok _,⟨_,rfl⟩,h⟩
def Gl(X:Cx)(x:Str):Prop:=X.env.kindOf x=some .globalImplicit
theorem iq{E:PP}{Pw:PQ}{s:PZ}{σ:St}{H:Hp}{x:Str}{u:h9}{pos:So}{Q:PP}(I:aJ X Pw σ H s)(hg:Gl X x)(hm:X.mg x=some u)(h:Q u s)(hd:(x == ("__debug__":Str))=false:=by decide):P2 (P7 X.prog X.w) X.A (Qk (.Name x pos) X.env) Q E s:=
 Sm I.ok.kind hg (Calls.loadGlobal_global (by rw[I.ok.glob];exact I.mod.glob.keeps I.bk) hm h) hd
theorem gP{E:PP}{Pw:PQ}{s:PZ}{σ:St}{H:Hp}{x:Str}{u:h9}{pos:So}{Q:PP}(I:aJ X Pw σ H s)(hg:Gl X x)(hm:X.mg x=none)(hv:Qc x=some u)(h:Q u s)(hn:x≠"__name__":=by decide)(hd:(x == ("__debug__":Str))=false:=by decide):P2 (P7 X.prog X.w) X.A (Qk (.Name x pos) X.env) Q E s:=by obtain⟨mb,h1,h2⟩:=I.mod.blt;exact Sm I.ok.kind hg (Calls.loadGlobal_builtin (by rw[I.ok.glob];exact I.mod.glob.keeps I.bk) hm (by rw[I.ok.blt];exact h1.keeps I.bk) ((h2 x hn).trans hv) h) hd
theorem CW(hg:Gl X x)(hm:X.mg x=some u)(r:aQ v u)(hd:(x == ("__debug__":Str))=false:=by decide):PE X (.Name x pos) (tC v):=
 λ_ _ _ H _ I h=>iq I hg hm ⟨v,H,I,r,h⟩ hd
theorem xa{x:Str}{v:V}{u:h9}{pos:So}(hg:Gl X x)(hm:X.mg x=none)(hv:Qc x=some u)(r:aQ v u)(hn:x≠"__name__":=by decide)(hd:(x == ("__debug__":Str))=false:=by decide):PE X (.Name x pos) (tC v):=
 λ_ _ _ H _ I h=>gP I hg hm hv ⟨v,H,I,r,h⟩ hn hd
variable{a b:Qx}{pos:So}
def PC(X:Cx)(op:S4)(a b:Qx)(t:TE):Prop:=
 ∀(Pw:PQ)(s:PZ)(σ:St)(H:Hp)(Q:VK),aJ X Pw σ H s->t σ H Q->
  P2 (P7 X.prog X.w) X.A (Qk a X.env) (λv s₁=>P2 (P7 X.prog X.w) X.A (Qk b X.env) (λu s₂=>P2 (P7 X.prog X.w) X.A (Qs op v u) (EP X Pw σ Q) X.xe s₂) X.xe s₁) X.xe s
def tB(t:TE):TT:=λσ H Q=>t σ H λx H1=>∃c,x=.bl c/\Q c H1
variable{tA tB':TT}{rest:List Qx}
def zQ(t u:TT):TT:=λσ H Q=>t σ H λc H1=>if c=true then u σ H1 Q else Q false H1
def Io(t u:TT):TT:=λσ H Q=>t σ H λc H1=>if c=true then Q true H1 else u σ H1 Q
def zM(t:TT):TT:=λσ H Q=>t σ H λc H1=>Q (!c) H1
theorem fW(ha:PT X a tA):PW X (.BoolOp .And [a] pos) tA:=by
 intro wh Pw s σ H Q I h;refine isTrue_and (bL (ha Pw s σ H Q I h) λc s1 e=>?_);cases c with
 |true=>exact isTrue_and_nil e
 |false=>exact e
theorem eP(ha:PT X a tA):PW X (.BoolOp .Or [a] pos) tA:=by
 intro wh Pw s σ H Q I h;refine isTrue_or (bL (ha Pw s σ H Q I h) λc s1 e=>?_);cases c with
 |false=>exact isTrue_or_nil e
 |true=>exact e
theorem gO(ha:PT X a tA)(hb:PW X (.BoolOp .And (b::rest) pos) tB'):PW X (.BoolOp .And (a::b::rest) pos) (zQ tA tB'):=by
 intro wh Pw s σ H Q I h;refine isTrue_and (bL (ha Pw s σ H _ I h) λc s1 ⟨H1,I1,q1⟩=>?_);cases c with
 |true=>exact hb wh Pw s1 σ H1 Q I1 q1
 |false=>exact⟨H1,I1,q1⟩
theorem fP(ha:PT X a tA)(hb:PW X (.BoolOp .Or (b::rest) pos) tB'):PW X (.BoolOp .Or (a::b::rest) pos) (Io tA tB'):=by
 intro wh Pw s σ H Q I h;refine isTrue_or (bL (ha Pw s σ H _ I h) λc s1 ⟨H1,I1,q1⟩=>?_);cases c with
 |true=>exact⟨H1,I1,q1⟩
 |false=>exact hb wh Pw s1 σ H1 Q I1 q1
theorem bO(ha:PT X a tA):PT X (.UnaryOp .Not a pos) (zM tA):=by intro Pw s σ H Q I h;exact isTrue_not (ha Pw s σ H (λc H1=>Q (!c) H1) I h)
theorem fM{op}(h:PE X a t):PE X (.BoolOp op [a] pos) t:=λPw s σ H Q I hw=>BoolOp_one (h Pw s σ H Q I hw)
def Ip(t:TT)(ta tb:TE):TE:=λσ H Q=>t σ H λc H1=>if c=true then ta σ H1 Q else tb σ H1 Q
theorem eQ(hc:PT X c tA)(ha:PE X a ta)(hb:PE X b tb):PE X (.IfExp c a b pos) (Ip tA ta tb):=by
 intro Pw s σ H Q I h;refine wpAny_IfExp (bL (hc Pw s σ H _ I h) λd s1 ⟨H1,I1,q1⟩=>?_);cases d with
 |true=>exact ha Pw s1 σ H1 Q I1 q1
 |false=>exact hb Pw s1 σ H1 Q I1 q1
end
def aO(K:Frag)(H:Hp)(a:XB)(xs:List V):Prop:=
 Rd H a (.lst xs)\/
  ∃(o:Obj)(its:Array h9)(n:Nat),K.lookup a=some o/\o.cls=.type "list"/\o.dict=none/\o.data=.seq its n/\its.size<=fv/\aZ xs its.toList
def da(K:Frag)(H:Hp)(a:XB)(xs:List V):Prop:=
 Rd H a (.tup xs)\/
  ∃(o:Obj)(its:Array h9)(n:Nat),K.lookup a=some o/\o.cls=.type "tuple"/\o.data=.seq its n/\its.size<=fv/\aZ xs its.toList
def Pl:h9->Option V
 | .none=>some .non
 | .bool b=>some (.bl b)
 | .int i _=>some (.int i)
 | .str x _=>some (.str x)
 | .bytes b _=>some (.byt b)
 | .float b _=>some (.flt b)
 | .ref a=>some (.ref a)
 | .type n=>some (.ty n)
 |_=>none
theorem aQ.abs(r:aQ x u):Pl u=some x:=by
 cases x with
 |non=>cases r;rfl
 |bl _=>cases r;rfl
 |int _=>obtain⟨t,rfl⟩:=r;rfl
 |str _=>obtain⟨t,rfl⟩:=r;rfl
 |byt _=>obtain⟨t,rfl⟩:=r;rfl
 |flt _=>obtain⟨t,rfl⟩:=r;rfl
 |ref _=>cases r;rfl
 |ty _=>cases r;rfl
theorem aQ.inj(r:aQ x u)(q:aQ y u):x=y:=PL (r.abs.symm.trans q.abs)
theorem aZ.inj:∀{xs ys:List V}{us:List h9},aZ xs us->aZ ys us->xs=ys
 |_,_,_,.nil,.nil=>rfl
 |_,_,_,.cons r t,.cons r' t'=>by rw[r.inj r',aZ.inj t t']
section
variable{X:Cx}{Pw:PQ}{σ:St}{H:Hp}{s:PZ}{a:XB}{xs ys:List V}
theorem aO.of{K:Frag}(h:H a=some (.lst xs)):aO K H a xs:=.inl (.inl h)
theorem da.of{K:Frag}(h:H a=some (.tup xs)):da K H a xs:=.inl (.inl h)
theorem aJ.list(I:aJ X Pw σ H s)(h:aO X.K H a xs):∃its:List h9,aZ xs its/\PlainL s.heap a its.toArray/\xs.length<=fv:=by
 rcases h with h|⟨o,its,n,hk,hc,hd,hs,hz,r⟩
 .obtain⟨z,its,n,r,e⟩:=h.ok I.hok;exact⟨its,r,⟨_,n,e,rfl,rfl,rfl⟩,z⟩
 .refine⟨its.toList,r,⟨o,n,I.kIn a o hk,hc,hd,by simpa using hs⟩,?_⟩;have e:=r.length;simp only[WI]at e;lia
theorem aJ.tuple(I:aJ X Pw σ H s)(h:da X.K H a xs):∃its:List h9,aZ xs its/\IsTup s.heap a its.toArray/\xs.length<=fv:=by
 rcases h with h|⟨o,its,n,hk,hc,hs,hz,r⟩
 .obtain⟨z,its,r,p⟩:=h.ok I.hok;exact⟨its,r,p,z⟩
 .refine⟨its.toList,r,⟨o,I.kIn a o hk,hc,n,by simpa using hs⟩,?_⟩;have e:=r.length;simp only[WI]at e;lia
theorem aJ.list_inj(I:aJ X Pw σ H s)(h:aO X.K H a xs)(h':aO X.K H a ys):xs=ys:=by
 obtain⟨its,r,⟨o,n,e,_,_,d⟩,_⟩:=I.list h;obtain⟨its',r',⟨o',n',e',_,_,d'⟩,_⟩:=I.list h';rw[e]at e';cases e';rw[d]at d';injection d' with d1 _;have:its=its':=by simpa using PM Array.toList d1
 subst this;exact r.inj r'
theorem aJ.tuple_inj(I:aJ X Pw σ H s)(h:da X.K H a xs)(h':da X.K H a ys):xs=ys:=by
 obtain⟨its,r,⟨o,e,_,n,d⟩,_⟩:=I.tuple h;obtain⟨its',r',⟨o',e',_,n',d'⟩,_⟩:=I.tuple h';rw[e]at e';cases e';rw[d]at d';injection d' with d1 _;have:its=its':=by simpa using PM Array.toList d1
 subst this;exact r.inj r'
end
abbrev Cx.wish(X:Cx)(E:PP):Cx:={X with xe:=E}
abbrev Cx.nox(X:Cx):Cx:=X.wish λ_ _=>False
theorem Cx.Ok.wish{X:Cx}(ok:X.Ok)(E:PP):(X.wish E).Ok:=
 ⟨ok.mod,ok.kind,ok.glob,ok.blt,ok.above,ok.inj,ok.has,ok.cab,ok.hd,ok.frames,ok.stk,ok.exf,ok.bs,ok.bsz,ok.noex,ok.exfs,ok.funs,ok.frf⟩
theorem Cx.Ok.unwish{X:Cx}{E:PP}(ok:(X.wish E).Ok):X.Ok:=
 ⟨ok.mod,ok.kind,ok.glob,ok.blt,ok.above,ok.inj,ok.has,ok.cab,ok.hd,ok.frames,ok.stk,ok.exf,ok.bs,ok.bsz,ok.noex,ok.exfs,ok.funs,ok.frf⟩
section
variable{X:Cx}{Pw:PQ}{σ:St}{H:Hp}{s:PZ}{E:PP}
theorem aJ.wish(I:aJ X Pw σ H s)(E:PP):aJ (X.wish E) Pw σ H s:=⟨I.ok.wish E,I.os,I.bare,I.Px,I.loc,I.cell,I.free,I.freeC,I.pin,I.hok,I.len⟩
theorem aJ.unwish(I:aJ (X.wish E) Pw σ H s):aJ X Pw σ H s:=⟨I.ok.unwish,I.os,I.bare,I.Px,I.loc,I.cell,I.free,I.freeC,I.pin,I.hok,I.len⟩
theorem SP.unwish(h:SP (X.wish E) Pw D f s'):SP X Pw D f s':=by
 cases f with
 |next=>obtain⟨σ',H',I,q⟩:=h;exact⟨σ',H',I.unwish,q⟩
 |brk=>obtain⟨σ',H',I,q⟩:=h;exact⟨σ',H',I.unwish,q⟩
 |cont=>obtain⟨σ',H',I,q⟩:=h;exact⟨σ',H',I.unwish,q⟩
 |ret u=>obtain⟨v,σ',H',I,r,q⟩:=h;exact⟨v,σ',H',I.unwish,r,q⟩
theorem oE.nox{st:List Ql}(h:oE X.nox st t):oE X st t:=λPw s σ H D I hw=>
 Qz (h Pw s σ H D (I.wish _) hw) (λ_ _ q=>q.unwish) λ_ _ z=>False.elim z
end
section
variable{X:Cx}{st:Ql}{rest:List Ql}{t u:TS}
def mz:TS:=λD σ H=>D.nx σ H
def bg(t u:TS):TS:=λD σ H=>t {D with nx:=u D} σ H
theorem aG:oE X [] mz:=λ_ _ σ H _ I h=>RZ ⟨σ,H,I,h⟩
theorem af(h1:PS X st t)(h2:oE X rest u):oE X (st::rest) (bg t u):=by
 intro Pw s σ H D I h;refine RT (bL (h1 Pw s σ H {D with nx:=u D} I h) λf s1 q=>?_);cases f with
 |next=>
  obtain⟨σ',H',I',q⟩:=q;exact h2 Pw s1 σ' H' D I' q
 |ret v=>exact q
 |brk=>exact q
 |cont=>exact q
theorem ao(h1:PS X st t):oE X [st] t:=by
 intro Pw s σ H D I h;refine RT (bL (h1 Pw s σ H D I h) λf s1 q=>?_);cases f with
 |next=>exact RZ q
 |ret v=>exact q
 |brk=>exact q
 |cont=>exact q
def Iq:TS:=λD σ H=>D.bk σ H
theorem AB:PS X (.Break pos) Iq:=λ_ _ σ H _ I h=>wpAny_Break ⟨σ,H,I,h⟩
theorem aJ.quiet{Pw:PQ}{σ:St}{H:Hp}{s:PZ}(I:aJ X Pw σ H s):interactive X.env=false:=by simp[interactive,I.ok.kind]
def jy(te:TE):TS:=λD σ H=>te σ H λ_ H1=>D.nx σ H1
theorem dJ(he:PE X e te)(hs:SM e none pos.line X.env=pure false:=by rfl):PS X (.Expr e pos) (jy te):=by intro Pw s σ H D I h;exact wpAny_Expr_any (bL (he Pw s σ H _ I h) λv s1 ⟨x,H1,I1,r1,q1⟩=>⟨σ,H1,I1,q1⟩) I.quiet hs
def cL(te:TE):TS:=λD σ H=>te σ H D.rt
theorem aC(he:PE X e te):PS X (.Return (some e) pos) (cL te):=by intro Pw s σ H D I h;exact Su (bL (he Pw s σ H _ I h) λv s1 ⟨x,H1,I1,r1,q1⟩=>⟨x,σ,H1,I1,r1,q1⟩)
def ju(c:TT)(t u:TS):TS:=λD σ H=>c σ H λb H1=>if b=true then t D σ H1 else u D σ H1
theorem aY(hc:PT X c tc)(ha:oE X a t)(hb:oE X b u):PS X (.If c a b pos) (ju tc t u):=by
 intro Pw s σ H D I h;refine wpAny_If (bL (hc Pw s σ H _ I h) λd s1 ⟨H1,I1,q1⟩=>?_);cases d with
 |true=>exact ha Pw s1 σ H1 D I1 q1
 |false=>exact hb Pw s1 σ H1 D I1 q1
def zN:TS:=λ_ _ _=>False
theorem gv:PS X st zN:=λ_ _ _ _ _ _ h=>h.elim
theorem oW:oE X sts zN:=λ_ _ _ _ _ _ h=>h.elim
end
abbrev TG:=V->St->Hp->(St->Hp->Prop)->Prop
abbrev Cj:=List V->St->Hp->(St->Hp->Prop)->Prop
def PG(X:Cx)(target:Qx)(t:TG):Prop:=
 ∀(Pw:PQ)(s:PZ)(σ:St)(H:Hp)(v:V)(u:h9)(Q:St->Hp->Prop),aJ X Pw σ H s->aQ v u->t v σ H Q->
  P2 (P7 X.prog X.w) X.A (Th target X.env u) (λ_ s'=>∃σ' H',aJ X Pw σ' H' s'/\Q σ' H') X.xe s
def Ia(X:Cx)(ts:List Qx)(t:Cj):Prop:=
 ∀(Pw:PQ)(s:PZ)(σ:St)(H:Hp)(vs:List V)(us:List h9)(Q:St->Hp->Prop),aJ X Pw σ H s->aZ vs us->t vs σ H Q->
  P2 (P7 X.prog X.w) X.A (assignInOrder ((QQ ts X.env).map (·.2)) us) (λ_ s'=>∃σ' H',aJ X Pw σ' H' s'/\Q σ' H') X.xe s
abbrev NX:=V->V->V->Hp->(Hp->Prop)->Prop
def N0(X:Cx)(t:NX):Prop:=
 ∀(Pw:PQ)(s:PZ)(σ:St)(H:Hp)(o i v:V)(ov iv u:h9)(Q:Hp->Prop),aJ X Pw σ H s->aQ o ov->aQ i iv->aQ v u->t o i v H Q->
  P2 (P7 X.prog X.w) X.A (setItem ov iv u) (λ_ s'=>∃H',aJ X Pw σ H' s'/\Q H') X.xe s
section
variable{X:Cx}{pos:So}
def gName(i:Nat):TG:=λv σ H Q=>Q (σ.set i (some v)) H
theorem w6(hN:X.N.Nodup)(hi:X.N[i]? =some x)(hx:Ib X.env.scope x)(hf:X.fn x=true\/X.env.scope.names.lookup x=some .local:=by first|exact .inl rfl|exact .inr rfl|assumption):PG X (.Name x pos) (gName i):=by intro Pw s σ H v u Q I r h;exact wpAny_assign_Name (mE I hN hi hx r (λs' I'=>⟨_,H,I',h⟩) hf)
theorem bA{x:Str}(i:Nat)(hN:X.N.Nodup)(hi:X.N[i]? =some x:=by rfl)(hx:Ib X.env.scope x:=by first|exact .inl rfl|exact .inr rfl)(hf:X.fn x=true\/X.env.scope.names.lookup x=some .local:=by first|exact .inl rfl|exact .inr rfl|assumption):PG X (.Name x pos) (gName i):=w6 hN hi hx hf
def Br:Cj:=λvs σ H Q=>vs=[]/\Q σ H
def iW(t:TG)(u:Cj):Cj:=λvs σ H Q=>∃v r,vs=v::r/\t v σ H λσ' H'=>u r σ' H' Q
theorem jn:Ia X [] Br:=by intro Pw s σ H vs us Q I r h;obtain⟨e,h⟩:=h;subst e;cases r;exact assignInOrder_nil ⟨σ,H,I,h⟩
theorem cf(h1:PG X e t)(h2:Ia X es u)(hs:(QQ (e::es) X.env).map (·.2)=Th e X.env::(QQ es X.env).map (·.2):=by rfl):Ia X (e::es) (iW t u):=by
 intro Pw s σ H vs us Q I r h;obtain⟨v,vr,e1,h⟩:=h;subst e1;cases r with
 |cons r rr=>
  rw[hs];refine assignInOrder_cons (bL (h1 Pw s σ H _ _ _ I r h) λ_ s1 ⟨σ1,H1,I1,q1⟩=>?_);exact h2 Pw s1 σ1 H1 _ _ Q I1 rr q1
def Bq(K:Frag)(n:Nat)(t:Cj):TG:=λv σ H Q=>∃a xs,v=.ref a/\da K H a xs/\xs.length=n/\t xs σ H Q
theorem IT{es:List Qx}{k:Nat}{t:Cj}{n:Nat}(hc:X.calm=true)(h:Ia X es t)(hn:(QQ es X.env).length=n:=by rfl)(hst:(QQ es X.env).findIdx? (·.1)=none:=by rfl):PG X (.Tuple es k pos) (Bq X.K n t):=by intro Pw s σ H v u Q I r hw;obtain⟨a,xs,e1,hq,hl,hw⟩:=hw;subst e1;cases r;obtain⟨its,rv,ht,hz⟩:=I.tuple hq;refine assign_Tuple_tuple (I.ok.hd hc) ht (by simp[hn,<-hl,rv.length]) hst λh' hx=>?_;have I1:aJ X Pw σ H {s with heap:=h'}:=I.kept (t':=s.toks) λb o e=>hx b o (VP (PY e)) e;exact h Pw _ σ H xs _ Q I1 (by simpa using rv) hw
def gSub(to ti:TE)(t:NX):TG:=λv σ H Q=>to σ H λo H1=>ti σ H1 λi H2=>t o i v H2 λH3=>Q σ H3
theorem IU(ho:PE X o to)(hi:PE X i ti)(hs:N0 X t)(ha:∀v,Th (.Subscript o i pos) X.env v=(do
   let ov<-Sw [v] (Qk o X.env)
   let iv<-Sw [v,ov] (Qk i X.env)
   standAt pos
   Sw [v,ov,iv] (setItem ov iv v)
   release [v,ov,iv] []):=by intro _;rfl):PG X (.Subscript o i pos) (gSub to ti t):=by
 intro Pw s σ H v u Q I r h;rw[ha];refine PU (Qa (bL (ho Pw s σ H _ I h) λov s1 ⟨x,H1,I1,r1,q1⟩=>?_));refine PU (Qa (bL (hi Pw s1 σ H1 _ I1 q1) λiv s2 ⟨y,H2,I2,r2,q2⟩=>?_));refine PU (SA (PU (Qa (bL (hs Pw s2 σ H2 x y v ov iv u _ I2 r1 r2 r q2) λ_ s3 ⟨H3,I3,q3⟩=>?_))));exact wpAny_release ⟨σ,H3,I3,q3⟩
def tAsg(te:TE)(g:TG):TS:=λD σ H=>te σ H λx H1=>g x σ H1 D.nx
theorem vq(he:PE X e te)(hg:PG X tg g)(hs:swapsWithSole [tg] e pos.line X.env=pure false:=by rfl)(hw:swappedStores [tg] e X.env=pure none:=by rfl)(h1:(QQ [tg] X.env).map (·.2)=[Th tg X.env]:=by rfl):PS X (.Assign [tg] e pos) (tAsg te g):=by intro Pw s σ H D I h;refine wpAny_Assign_stores (bL (he Pw s σ H _ I h) λv s1 ⟨x,H1,I1,r1,q1⟩=>?_) hs hw;rw[h1];exact bL (hg Pw s1 σ H1 x v _ I1 r1 q1) λ_ s2 q=>q
theorem IP(hN:X.N.Nodup)(hi:X.N[i]? =some x)(hx:Ib X.env.scope x)(he:PE X e te)(hs:SM e (some (.Name x pos')) pos.line X.env=pure false:=by rfl)(hf:X.fn x=true\/X.env.scope.names.lookup x=some .local:=by first|exact .inl rfl|exact .inr rfl|assumption):PS X (.Assign [.Name x pos'] e pos) (tAsg te (gName i)):=by intro Pw s σ H D I h;refine wpAny_Assign_Name (bL (he Pw s σ H _ I h) λv s1 ⟨y,H1,I1,r1,q1⟩=>?_) hs;exact mE I1 hN hi hx r1 (λs2 I2=>⟨_,H1,I2,q1⟩) hf
theorem av{x:Str}{e:Qx}{te:TE}{pos':So}(i:Nat)(hN:X.N.Nodup)(he:PE X e te)(hi:X.N[i]? =some x:=by rfl)(hx:Ib X.env.scope x:=by first|exact .inl rfl|exact .inr rfl)(hs:SM e (some (.Name x pos')) pos.line X.env=pure false:=by rfl)(hf:X.fn x=true\/X.env.scope.names.lookup x=some .local:=by first|exact .inl rfl|exact .inr rfl|assumption):PS X (.Assign [.Name x pos'] e pos) (tAsg te (gName i)):=IP hN hi hx he hs hf
end
section
def Il(c:TT)(tb:TS):TS:=λD σ H=>∃W:Nat->St->Hp->Prop,(∃m,W m σ H)/\∀m σ H,W m σ H->
 c σ H λb H1=>if b=true then∃N:St->Hp->Prop,(∀σ' H',N σ' H'->∃m',m'<m/\W m' σ' H')/\tb {D with nx:=N,ct:=N,bk:=D.nx} σ H1 else D.nx σ H1
theorem mZ(hp:PassesOwn (P7 X.prog X.w) X.A X.env X.xe)(hc:PT X c tc)(hb:oE X body tb):PS X (.While c body [] pos) (Il tc tb):=by
 intro Pw s σ H D I h;obtain⟨W,⟨m0,w0⟩,turn⟩:=h;refine wpAny_While (codeAny_whileLoop (λn s'=>∃σ' H',aJ X Pw σ' H' s'/\W n σ' H') ?_ m0 ⟨σ,H,I,w0⟩);rintro n s1 ⟨σ1,H1,I1,w1⟩;refine Rb hp (bL (hc Pw s1 σ1 H1 _ I1 (turn n σ1 H1 w1)) λb s2 ⟨H2,I2,q2⟩=>?_);cases b with
 |true=>
  obtain⟨N,hN,q2⟩:=q2;rw[PF rfl];refine Rb hp (bL (hb Pw s2 σ1 H2 _ I2 q2) λf s3 q3=>?_);cases f with
  |next=>
   obtain⟨σ3,H3,I3,n3⟩:=q3;obtain⟨m',hm,w3⟩:=hN σ3 H3 n3;exact⟨m',hm,σ3,H3,I3,w3⟩
  |cont=>
   obtain⟨σ3,H3,I3,n3⟩:=q3;obtain⟨m',hm,w3⟩:=hN σ3 H3 n3;exact⟨m',hm,σ3,H3,I3,w3⟩
  |brk=>exact q3
  |ret v=>exact q3
 |false=>
  rw[PD Wr];exact RZ ⟨σ1,H2,I2,q2⟩
end
structure It where
 go:Nat->Hp->Prop
 yld:Nat->Hp->V->Hp->Prop
 stop:Nat->Hp->Prop
def ix(X:Cx)(Pw:PQ)(H:Hp)(b:XB):Prop:=
 H b=none/\b≠X.env.locals/\b∉X.fs/\(b∈X.ex\/X.s₀.heap.objs.size<=b)/\(∀x c,X.env.cells.lookup x=some c->c≠b)/\∀p∈X.pn++Pw,p.1≠b
theorem aJ.fpOk{X:Cx}{Pw:PQ}{σ:St}{H H':Hp}{s:PZ}{b:XB}(I:aJ X Pw σ H s)(hb:s.heap.objs.size<=b)(hn:H' b=none):ix X Pw H' b:=by
 refine⟨hn,VU (VS I.lt hb),I.nofs hb,.inr (VR I.sz hb),λx c e z=>?_,λp hp z=>?_⟩
 .obtain⟨v,q⟩:=I.cell x c e;exact PK (VS q.lt (by rw[z];exact hb)) (VV _)
 .exact PK (VS (PY (I.pin p hp).1) (by rw[z];exact hb)) (VV _)
structure wn(P:P6)(w:P9)(K:Frag)(tg:Qx)(J:It)(fp:List XB)(it:XB)(tn:Nat->Qe->Prop):Prop where
 mem:it∈fp
 obj:∀i h,tn i h->∀b∈fp,∃o,h.get? b=some o/\∀v,o.data≠.cell v
 keep:∀i h h',tn i h->(∀b∈fp,∀o,h.get? b=some o->h'.get? b=some o)->tn i h'
 item:∀(X:Cx),X.prog=P->X.w=w->X.K=K->X.calm=true->∀(i:Nat)(Pw:PQ)(s:PZ)(σ:St)(H:Hp)(E:PP),aJ X Pw σ H s->(∀b∈fp,ix X Pw H b)->tn i s.heap->J.go i H->
  P2 (P7 P w) X.A (Ra (.ref it)) (λr s1=>∃u,r=some u/\
   P2 (P7 P w) X.A (R0 tg (.ref it) u) (λ_ s2=>∃x H',aJ X Pw σ H' s2/\aQ x u/\J.yld i H x H'/\tn (i+1) s2.heap/\∀b∈fp,H' b=none) E s1) E s
 done:∀(X:Cx),X.prog=P->X.w=w->X.K=K->X.calm=true->∀(i:Nat)(Pw:PQ)(s:PZ)(σ:St)(H:Hp)(E:PP),aJ X Pw σ H s->(∀b∈fp,ix X Pw H b)->tn i s.heap->J.stop i H->
   P2 (P7 P w) X.A (Ra (.ref it)) (λr s1=>r=none/\aJ X Pw σ H s1) E s
 self:∀(A:QD)(i:Nat)(s:PZ)(Q:PP)(E:PP),tn i s.heap->Q (.ref it) s->P2 (P7 P w) A (pyIter (.ref it)) Q E s
abbrev TI:=St->Hp->(It->Hp->Prop)->Prop
def Pn(X:Cx)(Pw:PQ)(σ:St)(tg:Qx)(R:It->Hp->Prop)(itv:h9)(s2:PZ):Prop:=
 ∃(it:XB)(fp:List XB)(tn:Nat->Qe->Prop)(J:It)(H':Hp),itv=.ref it/\aJ X Pw σ H' s2/\wn X.prog X.w X.K tg J fp it tn/\tn 0 s2.heap/\(∀b∈fp,ix X Pw H' b)/\R J H'
def PI(X:Cx)(tg iter:Qx)(wi:TI):Prop:=
 ∀(Pw:PQ)(s:PZ)(σ:St)(H:Hp)(R:It->Hp->Prop),aJ X Pw σ H s->wi σ H R->
  P2 (P7 X.prog X.w) X.A (Qk iter X.env) (λv s1=>P2 (P7 X.prog X.w) X.A (pyIter v) (Pn X Pw σ tg R) X.xe s1) X.xe s
theorem Bl(ho:s.heap.get? it=some o)(hc:o.cls=.type n)(hd:o.data=.fields vs)(hn:["enumerate","zip","dict_itemiterator","dict_reverseitemiterator","odict_iterator","itertools.zip_longest","itertools.pairwise"].contains n=false)(hQ:Q () s):P2 M A (R0 tg (.ref it) u) Q E s:=by
 unfold R0;cases tg<;>first
  |exact PV hQ
  |(cases u<;>first
    |exact PV hQ
    |(refine PU (wpAny_load ho ?_)
      rw[hc,hd];show P2 M A (if(["enumerate","zip","dict_itemiterator","dict_reverseitemiterator","odict_iterator","itertools.zip_longest","itertools.pairwise"].contains n&&vs[0]? == some (RA _))=true then _ else _) Q E s;rw[PD (by intro h;rw[hn,Bool.false_and]at h;cases h)];exact PV hQ))
def Ck(K:Frag)(a:XB):It:=
 ⟨λi H=>∃xs x,aO K H a xs/\xs[i]? =some x,λi H x H'=>H'=H/\∀xs,aO K H a xs->xs[i]? =some x,λi H=>∃xs,aO K H a xs/\xs.length<=i⟩
def Itt(K:Frag)(a:XB):It:=
 ⟨λi H=>∃xs x,da K H a xs/\xs[i]? =some x,λi H x H'=>H'=H/\∀xs,da K H a xs->xs[i]? =some x,λi H=>∃xs,da K H a xs/\xs.length<=i⟩
def Km(lo:Int)(n:Nat):It:=⟨λi _=>i<n,λi H x H'=>H'=H/\x=.int (lo+i),λi _=>n<=i⟩
theorem yd{P:P6}{w:P9}{K:Frag}{tg:Qx}(a it:XB):wn P w K tg (Ck K a) [it] it (λi h=>h.IsListIter it a i) where
 mem:=by simp
 obj:=λi h st b hb=>by
  have e:b=it:=by simpa using hb
  subst e;obtain⟨o,e,c,d⟩:=st;exact⟨o,e,λv z=>by rw[d]at z;cases z⟩
 keep:=λi h h' st k=>st.at λo e=>k it (by simp) o e
 item:=by intro X hP hw hK hc i Pw s σ H E I hf st hg;subst hP hw hK;obtain⟨xs,x,hq,hx⟩:=hg;obtain⟨its,rv,p,hz⟩:=I.list hq;obtain⟨u,hu,ru⟩:=rv.get hx;obtain⟨f0,f1,f2,f3,f4,f5⟩:=hf it (by simp);refine SQ st p.isList (x:=u) (by simpa using hu) λh' st' sb=>?_;have I1:aJ X Pw σ H {s with heap:=h'}:=I.turned (t':=s.toks) (λb o hb e=>(sb.2 b hb).trans e) f0 f1 f3 f4 f5;obtain⟨o,e,c,d⟩:=id st';exact⟨u,rfl,Bl (s:={s with heap:=h'}) e c d (by decide) ⟨x,H,I1,ru,⟨rfl,λys hy=>by rw[I.list_inj hy hq];exact hx⟩,st',λb hb=>(hf b hb).1⟩⟩
 done:=by intro X hP hw hK hc i Pw s σ H E I hf st hg;subst hP hw hK;obtain⟨xs,hq,hx⟩:=hg;obtain⟨its,rv,p,hz⟩:=I.list hq;obtain⟨f0,f1,f2,f3,f4,f5⟩:=hf it (by simp);have hl:=rv.length;exact S6 (I.ok.hd hc) st p.isList (by simp;lia) λh' eb=>⟨rfl,I.turned (t':=s.toks) (λb o hb e=>eb b o hb e) f0 f1 f3 f4 f5⟩
 self:=λ_ _ _ _ _ st h=>wpAny_pyIter_listiter st h
theorem uO{P:P6}{w:P9}{K:Frag}{tg:Qx}(a it:XB):wn P w K tg (Itt K a) [it] it (λi h=>h.IsTupleIter it a i) where
 mem:=by simp
 obj:=λi h st b hb=>by
  have e:b=it:=by simpa using hb
  subst e;obtain⟨o,e,c,d⟩:=st;exact⟨o,e,λv z=>by rw[d]at z;cases z⟩
 keep:=λi h h' st k=>st.at λo e=>k it (by simp) o e
 item:=by intro X hP hw hK hc i Pw s σ H E I hf st hg;subst hP hw hK;obtain⟨xs,x,hq,hx⟩:=hg;obtain⟨its,rv,p,hz⟩:=I.tuple hq;obtain⟨u,hu,ru⟩:=rv.get hx;obtain⟨f0,f1,f2,f3,f4,f5⟩:=hf it (by simp);refine wpAny_pyNext_tuple_item st (show s.heap.IsTuple a its.toArray from p) (x:=u) (by simpa using hu) λh' st' sb=>?_;have I1:aJ X Pw σ H {s with heap:=h'}:=I.turned (t':=s.toks) (λb o hb e=>(sb.2 b hb).trans e) f0 f1 f3 f4 f5;obtain⟨o,e,c,d⟩:=id st';exact⟨u,rfl,Bl (s:={s with heap:=h'}) e c d (by decide) ⟨x,H,I1,ru,⟨rfl,λys hy=>by rw[I.tuple_inj hy hq];exact hx⟩,st',λb hb=>(hf b hb).1⟩⟩
 done:=by intro X hP hw hK hc i Pw s σ H E I hf st hg;subst hP hw hK;obtain⟨xs,hq,hx⟩:=hg;obtain⟨its,rv,p,hz⟩:=I.tuple hq;obtain⟨f0,f1,f2,f3,f4,f5⟩:=hf it (by simp);have hl:=rv.length;exact wpAny_pyNext_tuple_end (I.ok.hd hc) st (show s.heap.IsTuple a its.toArray from p) (by simp;lia) λh' eb=>⟨rfl,I.turned (t':=s.toks) (λb o hb e=>eb b o hb e) f0 f1 f3 f4 f5⟩
 self:=λ_ _ _ _ _ st h=>wpAny_pyIter_tupleiter st h
theorem uP{P:P6}{w:P9}{K:Frag}{tg:Qx}(it:XB)(lo:Int)(n:Nat):wn P w K tg (Km lo n) [it] it (λi h=>IsRangeIter h it (lo+(i:Nat)*1) ((n:Int) - (i:Nat)) 1) where
 mem:=by simp
 obj:=λi h st b hb=>by
  have e:b=it:=by simpa using hb
  subst e;exact⟨_,st,λv z=>by
   have z':Data.fields _=Data.cell v:=z;cases z'⟩
 keep:=λi h h' st k=>k it (by simp) _ st
 item:=by intro X hP hw hK hc i Pw s σ H E I hf st hg;subst hP hw hK;obtain⟨f0,f1,f2,f3,f4,f5⟩:=hf it (by simp);have W:=Walks.range (prog:=X.prog) (w:=X.w) (I.ok.hd hc) it lo 1 n;refine W.item i s _ _ hg st λv h' tk hv st' kk=>?_;obtain⟨t,rfl⟩:=hv;have I1:aJ X Pw σ H {s with heap:=h',toks:=tk}:=I.turned (λb o hb e=>kk b o (by simpa using hb) e) f0 f1 f3 f4 f5;refine⟨_,rfl,Bl (s:={s with heap:=h',toks:=tk}) (n:="range_iterator") st' rfl rfl (by decide) ⟨.int (lo+i),H,I1,⟨t,?_⟩,⟨rfl,rfl⟩,st',λb hb=>(hf b hb).1⟩⟩;rw[Int.mul_one]
 done:=by intro X hP hw hK hc i Pw s σ H E I hf st hg;subst hP hw hK;obtain⟨f0,f1,f2,f3,f4,f5⟩:=hf it (by simp);exact wpAny_pyNext_range_end (I.ok.hd hc) st (by have:n<=i:=hg;lia) λh' eb=>⟨rfl,I.turned (t':=s.toks) (λb o hb e=>eb b o hb e) f0 f1 f3 f4 f5⟩
 self:=λ_ _ _ _ _ st h=>wpAny_pyIter_rangeiter st h
section
def pC(K:Frag)(tl:TE):TI:=λσ H R=>tl σ H λx H1=>∃a,x=.ref a/\(∃xs,aO K H1 a xs)/\R (Ck K a) H1
def JH(K:Frag)(tl:TE):TI:=λσ H R=>tl σ H λx H1=>∃a,x=.ref a/\(∃xs,da K H1 a xs)/\R (Itt K a) H1
theorem CS(hl:PE X l tl):PI X tg l (pC X.K tl):=by
 intro Pw s σ H R I h;refine bL (hl Pw s σ H _ I h) λv s1 ⟨x,H1,I1,r1,q1⟩=>?_;obtain⟨a,e,⟨xs,hq⟩,q⟩:=q1;subst e;cases r1;obtain⟨its,rv,p,hz⟩:=I1.list hq;refine Rf p.isList ?_;refine⟨s1.heap.objs.size,[s1.heap.objs.size],_,_,H1,rfl,I1.kept (t':=s1.toks) λb o e=>PX _ e,yd a _,⟨_,P5 _ rfl,rfl,rfl⟩,λb hb=>?_,q⟩;have e:b=s1.heap.objs.size:=by simpa using hb
 subst e;exact I1.fpOk (VO _) (I1.hok.fresh (VO _))
theorem IS(hl:PE X l tl):PI X tg l (JH X.K tl):=by
 intro Pw s σ H R I h;refine bL (hl Pw s σ H _ I h) λv s1 ⟨x,H1,I1,r1,q1⟩=>?_;obtain⟨a,e,⟨xs,hq⟩,q⟩:=q1;subst e;cases r1;obtain⟨its,rv,p,hz⟩:=I1.tuple hq;refine wpAny_pyIter_tuple (show s1.heap.IsTuple a its.toArray from p) ?_;refine⟨s1.heap.objs.size,[s1.heap.objs.size],_,_,H1,rfl,I1.kept (t':=s1.toks) λb o e=>PX _ e,uO a _,⟨_,P5 _ rfl,rfl,rfl⟩,λb hb=>?_,q⟩;have e:b=s1.heap.objs.size:=by simpa using hb
 subst e;exact I1.fpOk (VO _) (I1.hok.fresh (VO _))
theorem Ai{Pw:PQ}{σ:St}{H:Hp}{s:PZ}{R:It->Hp->Prop}{E:PP}{lo hi:Int}{t u v:Tok}{tk:Nat}(I:aJ X Pw σ H s)(h1: -(2 ^ 62)<=lo)(h2:lo<2 ^ 62)(h3: -(2 ^ 62)<=hi)(h4:hi<2 ^ 62)(q:R (Km lo (hi - lo).toNat) H):P2 (P7 X.prog X.w) X.A (pyIter (.ref s.heap.objs.size)) (Pn X Pw σ tg R) E {s with heap:=s.heap.push {cls:=.type "range",data:=.fields #[.int lo t,.int hi u,.int 1 v]},toks:=tk}:=by
 refine wpAny_pyIter_range (IsRange.new ..) (small_one h1 h2 h3 h4) ?_;have I1:aJ X Pw σ H {s with heap:=s.heap.push {cls:=.type "range",data:=.fields #[.int lo t,.int hi u,.int 1 v]},toks:=tk}:=I.kept λb o e=>PX _ e;refine⟨(s.heap.push {cls:=.type "range",data:=.fields #[.int lo t,.int hi u,.int 1 v]}).objs.size,[(s.heap.push {cls:=.type "range",data:=.fields #[.int lo t,.int hi u,.int 1 v]}).objs.size],_,_,H,rfl,
  I1.kept (t':=tk) λb o e=>PX _ e,uP _ lo (hi - lo).toNat,?_,λb hb=>?_,q⟩
 .have e1:lo+((0:Nat):Int)*1=lo:=by simp
  have e2:(((hi - lo).toNat:Nat):Int) - ((0:Nat):Int)=Builtin.Range.rangeSize lo hi 1:=by rw[rangeSize_one];split<;>lia
  show IsRangeIter _ _ (lo+((0:Nat):Int)*1) ((((hi - lo).toNat:Nat):Int) - ((0:Nat):Int)) 1;rw[e1,e2];exact P5 _ rfl
 .have e:b=(s.heap.push {cls:=.type "range",data:=.fields #[.int lo t,.int hi u,.int 1 v]}).objs.size:=by simpa using hb
  subst e;exact I1.fpOk (VO _) (I1.hok.fresh (VO _))
def nB(ta:TA):TI:=λσ H R=>ta σ H λvs H1=>∃j:Int,vs=[.int j]/\-(2 ^ 62)<=j/\j<2 ^ 62/\R (Km 0 j.toNat) H1
theorem yI(hg:Gl X "range")(hm:X.mg "range"=none)(ha:PA X [a] ta)(hs:P1 [a] X.env=[(false,Qk a X.env)]:=by rfl):PI X tg (.Call (.Name "range" p) [a] [] pos) (nB ta):=by
 intro Pw s σ H R I h;refine Call_ (gP I hg hm boot_range (PyProof.Rows.callWith_type1 (bL (ha pos Pw s σ H _ I h) λus s1 ⟨vs,H1,I1,r1,q1⟩=>?_) hs rfl));obtain⟨j,e,q1,q2,q⟩:=q1;subst e;cases r1 with
 |cons r rr=>
  cases rr;obtain⟨t,rfl⟩:=r;exact call_range_1 (Ai I1 (by lia) (by lia) q1 q2 (by simpa using q))
def tFor(wi:TI)(g:TG)(tb:TS):TS:=λD σ H=>wi σ H λJ H1=>∃W:Nat->Nat->St->Hp->Prop,(∃m,W 0 m σ H1)/\∀i m σ H,W i m σ H->
 (J.stop i H/\D.nx σ H)\/(J.go i H/\∃N:St->Hp->Prop,(∀σ' H',N σ' H'->∃m',m'<m/\W (i+1) m' σ' H')/\∀x H',J.yld i H x H'->g x σ H' λσ2 H2=>tb {D with nx:=N,ct:=N,bk:=D.nx} σ2 H2)
def iT(fp:List XB)(h:Qe):List (XB×Obj):=fp.filterMap λb=>(h.get? b).map λo=>(b,o)
theorem gB(hb:b∈fp)(e:h.get? b=some o):(b,o)∈iT fp h:=UF.mpr ⟨b,hb,by rw[e];rfl⟩
theorem oZ(hp:p∈iT fp h):p.1∈fp/\h.get? p.1=some p.2:=by
 obtain⟨b,hb,e⟩:=UF.mp hp;cases q:h.get? b with
 |none=>rw[q]at e;cases e
 |some o=>
  rw[q]at e;have e':(b,o)=p:=PL e;subst e';exact⟨hb,q⟩
theorem aJ.pinned{Pw:PQ}{σ:St}{H:Hp}{s:PZ}{fp:List XB}(I:aJ X Pw σ H s)(hf:∀b∈fp,ix X Pw H b)(ho:∀b∈fp,∃o,s.heap.get? b=some o/\∀v,o.data≠.cell v):aJ X (Pw++iT fp s.heap) σ H s:=
 I.pins_of λp hp=>(Ul.mp hp).elim (λz=>I.pin p (Ur _ z)) λz=>by obtain⟨hb,e⟩:=oZ z;obtain⟨f0,f1,f2,_⟩:=hf p.1 hb;obtain⟨o,e',d⟩:=ho p.1 hb;rw[e]at e';cases e';exact⟨e,f0,f1,f2,d⟩
theorem aJ.unpinned{Pw pl:PQ}{σ:St}{H:Hp}{s:PZ}(I:aJ X (Pw++pl) σ H s):aJ X Pw σ H s:=I.pins_of λp hp=>I.pin p (Ur _ (UJ _ hp))
theorem fL(hp:PassesOwn (P7 X.prog X.w) X.A X.env X.xe)(hc:X.calm=true)(hi:PI X tg iter wi)(hg:PG X tg g)(hb:oE X body tb)(hs:∀x,RJ iter X.env x=pure x:=by intro _;rfl):PS X (.For tg iter body [] pos) (tFor wi g tb):=by
 intro Pw s σ H D I h;refine wpAny_For (bL (hi Pw s σ H _ I h) λv s1 h1=>bL h1 λitv s2 h2=>?_) hs;obtain⟨it,fp,tn,J,H2,e,I2,T,st2,f2,W,⟨m0,w0⟩,turn⟩:=h2;subst e;have stat:∀{H':Hp},(∀b∈fp,H' b=none)->∀b∈fp,ix X Pw H' b:=λhn b hb=>⟨hn b hb,(f2 b hb).2⟩;refine codeAny_forLoop_any (λn s'=>∃i σ' H',aJ X Pw σ' H' s'/\tn i s'.heap/\(∀b∈fp,H' b=none)/\W i n σ' H') ?_ m0 ⟨0,σ,H2,I2,st2,λb hb=>(f2 b hb).1,w0⟩;rintro n s3 ⟨i,σ3,H3,I3,st3,fr3,w3⟩
 rcases turn i n σ3 H3 w3 with⟨stop,qn⟩|⟨go,N,hN,step⟩
 .refine Rb hp (bL (T.done X rfl rfl rfl hc i Pw s3 σ3 H3 X.xe I3 (stat fr3) st3 stop) λr s4 ⟨hr,I4⟩=>?_);subst hr;exact RZ ⟨σ3,H3,I4,qn⟩
 .refine Rb hp (bL (T.item X rfl rfl rfl hc i Pw s3 σ3 H3 X.xe I3 (stat fr3) st3 go) λr s4 ⟨u,hr,h4⟩=>?_);subst hr;refine Rb hp (bL h4 λ_ s5 ⟨x,H5,I5,r5,y5,st5,fr5⟩=>?_);have I5':=I5.pinned (stat fr5) (T.obj _ _ st5);refine Rb hp (bL (hg _ s5 σ3 H5 x u _ I5' r5 (step x H5 y5)) λ_ s6 ⟨σ6,H6,I6,q6⟩=>?_);refine Rb hp (bL (hb _ s6 σ6 H6 _ I6 q6) λf s7 q7=>?_);have again:∀{σ7:St}{H7:Hp},aJ X (Pw++iT fp s5.heap) σ7 H7 s7->N σ7 H7->∃m,m<n/\∃i σ' H',aJ X Pw σ' H' s7/\tn i s7.heap/\(∀b∈fp,H' b=none)/\W i m σ' H':=λ{σ7 H7} I7 n7=>by obtain⟨m',hm,w7⟩:=hN σ7 H7 n7;refine⟨m',hm,i+1,σ7,H7,I7.unpinned,T.keep _ _ _ st5 λb hb o e=>(I7.pin (b,o) (Ur _ (Ur _ (gB hb e)))).1,λb hb=>?_,w7⟩;obtain⟨o,e,d⟩:=T.obj _ _ st5 b hb;exact(I7.pin (b,o) (Ur _ (Ur _ (gB hb e)))).2.1
  cases f with
  |next=>obtain⟨σ7,H7,I7,n7⟩:=q7;exact again I7 n7
  |cont=>obtain⟨σ7,H7,I7,n7⟩:=q7;exact again I7 n7
  |brk=>obtain⟨σ7,H7,I7,q7⟩:=q7;exact⟨σ7,H7,I7.unpinned,q7⟩
  |ret v=>obtain⟨x7,σ7,H7,I7,r7,q7⟩:=q7;exact⟨x7,σ7,H7,I7.unpinned,r7,q7⟩
end
theorem Bx{K:Frag}{a:XB}{xs:List V}{g:TG}{tb:TS}{D:iI}{σ:St}{H:Hp}(Pv:Nat->St->Hp->Prop)(h0:Pv 0 σ H)(hl:∀i σ H,i<=xs.length->Pv i σ H->aO K H a xs)(hs:∀i x σ H,xs[i]? =some x->Pv i σ H->g x σ H λσ2 H2=>tb {D with nx:=Pv (i+1),ct:=Pv (i+1),bk:=D.nx} σ2 H2)(hd:∀σ H,Pv xs.length σ H->D.nx σ H):∃W:Nat->Nat->St->Hp->Prop,(∃m,W 0 m σ H)/\∀i m σ H,W i m σ H->((Ck K a).stop i H/\D.nx σ H)\/((Ck K a).go i H/\∃N:St->Hp->Prop,(∀σ' H',N σ' H'->∃m',m'<m/\W (i+1) m' σ' H')/\∀x H',(Ck K a).yld i H x H'->g x σ H' λσ2 H2=>tb {D with nx:=N,ct:=N,bk:=D.nx} σ2 H2):=by
 refine⟨λi m σ H=>m=xs.length - i/\i<=xs.length/\Pv i σ H,⟨xs.length,by simp,VQ _,h0⟩,?_⟩;rintro i m σ H ⟨rfl,hi,p⟩;have q:=hl i σ H hi p
 by_cases hlt:i<xs.length
 .refine .inr ⟨⟨xs,xs[i],q,by simp[hlt]⟩,Pv (i+1),λσ' H' p'=>⟨xs.length - (i+1),by lia,rfl,hlt,p'⟩,λx H' y=>?_⟩;obtain⟨e,y⟩:=y;subst e;exact hs i x σ _ (y xs q) p
 .have e:i=xs.length:=by lia
  subst e;exact .inl ⟨⟨xs,q,VO _⟩,hd σ H p⟩
theorem pE{lo:Int}{n:Nat}{g:TG}{tb:TS}{D:iI}{σ:St}{H:Hp}(Pv:Nat->St->Hp->Prop)(h0:Pv 0 σ H)(hs:∀i σ H,i<n->Pv i σ H->g (.int (lo+i)) σ H λσ2 H2=>tb {D with nx:=Pv (i+1),ct:=Pv (i+1),bk:=D.nx} σ2 H2)(hd:∀σ H,Pv n σ H->D.nx σ H):∃W:Nat->Nat->St->Hp->Prop,(∃m,W 0 m σ H)/\∀i m σ H,W i m σ H->((Km lo n).stop i H/\D.nx σ H)\/((Km lo n).go i H/\∃N:St->Hp->Prop,(∀σ' H',N σ' H'->∃m',m'<m/\W (i+1) m' σ' H')/\∀x H',(Km lo n).yld i H x H'->g x σ H' λσ2 H2=>tb {D with nx:=N,ct:=N,bk:=D.nx} σ2 H2):=by
 refine⟨λi m σ H=>m=n - i/\i<=n/\Pv i σ H,⟨n,by simp,VQ _,h0⟩,?_⟩;rintro i m σ H ⟨rfl,hi,p⟩
 by_cases hlt:i<n
 .refine .inr ⟨hlt,Pv (i+1),λσ' H' p'=>⟨n - (i+1),by lia,rfl,hlt,p'⟩,λx H' y=>?_⟩;obtain⟨e,y⟩:=y;subst e y;exact hs i σ _ hlt p
 .have e:i=n:=by lia
  subst e;exact .inl ⟨VO _,hd σ H p⟩
abbrev R2:=V->V->Hp->VK->Prop
def iJ(X:Cx)(f:h9->h9->Sem h9)(r:R2):Prop:=
 ∀(Pw:PQ)(s:PZ)(σ:St)(H:Hp)(x y:V)(v u:h9)(Q:VK),aJ X Pw σ H s->aQ x v->aQ y u->r x y H Q->
  P2 (P7 X.prog X.w) X.A (f v u) (EP X Pw σ Q) X.xe s
def Pm(X:Cx)(f:h9->Sem h9)(r:V->Hp->VK->Prop):Prop:=
 ∀(Pw:PQ)(s:PZ)(σ:St)(H:Hp)(x:V)(v:h9)(Q:VK),aJ X Pw σ H s->aQ x v->r x H Q->
  P2 (P7 X.prog X.w) X.A (f v) (EP X Pw σ Q) X.xe s
def bx(X:Cx)(f:h9)(r:List V->Hp->VK->Prop):Prop:=
 ∀(Pw:PQ)(s:PZ)(σ:St)(H:Hp)(xs:List V)(us:List h9)(Q:VK),aJ X Pw σ H s->aZ xs us->r xs H Q->
  P2 (P7 X.prog X.w) X.A (call f us) (EP X Pw σ Q) X.xe s
def OQ(r:R2)(ta tb:TE):TE:=λσ H Q=>ta σ H λx H1=>tb σ H1 λy H2=>r x y H2 Q
def rI(C:Int->Int->Prop)(g:Int->Int->V):R2:=λx y H Q=>∃i j,x=.int i/\y=.int j/\C i j/\Q (g i j) H
def HA(g:Int->Int->V):R2:=λx y H Q=>∃i j,x=.int i/\y=.int j/\Q (g i j) H
def rU(g:Int->V):V->Hp->VK->Prop:=λx H Q=>∃i,x=.int i/\Q (g i) H
section
theorem J7(ha:PE X a ta)(hb:PE X b tb){Pw:PQ}{s:PZ}{σ:St}{H:Hp}{R:V->V->Hp->Prop}(I:aJ X Pw σ H s)(h:ta σ H λx H1=>tb σ H1 λy H2=>R x y H2){Q:PP}{f:h9->h9->Sem h9}(hf:∀v u s2 x y H2,aJ X Pw σ H2 s2->aQ x v->aQ y u->R x y H2->P2 (P7 X.prog X.w) X.A (f v u) Q X.xe s2):P2 (P7 X.prog X.w) X.A (Qk a X.env) (λv s₁=>P2 (P7 X.prog X.w) X.A (Qk b X.env) (λu s₂=>P2 (P7 X.prog X.w) X.A (f v u) Q X.xe s₂) X.xe s₁) X.xe s:=by refine bL (ha Pw s σ H _ I h) λv s1 ⟨x,H1,I1,r1,q1⟩=>?_;refine bL (hb Pw s1 σ H1 _ I1 q1) λu s2 ⟨y,H2,I2,r2,q2⟩=>?_;exact hf v u s2 x y H2 I2 r1 r2 q2
theorem MX(ho:iJ X (RK op) r)(ha:PE X a ta)(hb:PE X b tb):PE X (.BinOp a op b pos) (OQ r ta tb):=by intro Pw s σ H Q I h;exact wpAny_BinOp (J7 ha hb I h λv u s2 x y H2 I2 rx ry q=>ho Pw s2 σ H2 x y v u Q I2 rx ry q)
theorem N8{f:h9->h9->Sem h9}{C:Int->Int->Prop}{g:Int->Int->Int}(rule:∀(i j:Int)(t u:Tok)(s:PZ)(Q:PP)(E:PP),C i j->Q (.int (g i j) s.toks) {s with toks:=s.toks+1}->P2 (P7 X.prog X.w) X.A (f (.int i t) (.int j u)) Q E s):iJ X f (rI C λi j=>.int (g i j)):=by intro Pw s σ H x y v u Q I rx ry h;obtain⟨i,j,rfl,rfl,hc,q⟩:=h;obtain⟨t,rfl⟩:=rx;obtain⟨t',rfl⟩:=ry;exact rule i j t t' s _ _ hc ⟨.int (g i j),H,I.tok _,⟨_,rfl⟩,q⟩
theorem M7{f:h9->h9->Sem h9}{g:Int->Int->Int}(rule:∀(i j:Int)(t u:Tok)(s:PZ)(Q:PP)(E:PP),Q (.int (g i j) s.toks) {s with toks:=s.toks+1}->P2 (P7 X.prog X.w) X.A (f (.int i t) (.int j u)) Q E s):iJ X f (HA λi j=>.int (g i j)):=by intro Pw s σ H x y v u Q I rx ry h;obtain⟨i,j,rfl,rfl,q⟩:=h;obtain⟨t,rfl⟩:=rx;obtain⟨t',rfl⟩:=ry;exact rule i j t t' s _ _ ⟨.int (g i j),H,I.tok _,⟨_,rfl⟩,q⟩
theorem C4{f:h9->h9->Sem h9}{g:Int->Int->Bool}(rule:∀(i j:Int)(t u:Tok)(s:PZ)(Q:PP)(E:PP),Q (.bool (g i j)) s->P2 (P7 X.prog X.w) X.A (f (.int i t) (.int j u)) Q E s):iJ X f (HA λi j=>.bl (g i j)):=by intro Pw s σ H x y v u Q I rx ry h;obtain⟨i,j,rfl,rfl,q⟩:=h;obtain⟨t,rfl⟩:=rx;obtain⟨t',rfl⟩:=ry;exact rule i j t t' s _ _ ⟨.bl (g i j),H,I,rfl,q⟩
def DX(i j:Int):Prop:=0<j/\j<1073741824
def Kk(i j:Int):Prop:=0<=j/\j<=1000000/\i.natAbs<2 ^ 64
def zB(i j:Int):Prop:=(-(2 ^ 64)<i/\i<2 ^ 64)\/(-(2 ^ 64)<j/\j<2 ^ 64)
theorem zB.ok(h:zB i j):IntMulOk i j:=by
 rcases h with⟨h1,h2⟩|⟨h1,h2⟩
 .exact .of_left (intBits_le_64 h1 h2)
 .exact .of_right (intBits_le_64 h1 h2)
theorem Ji:iJ X (RK .Add) (HA λi j=>.int (i+j)):=M7 λ_ _ _ _ _ _ _ q=>add_int q
theorem IX:iJ X (RK .Sub) (HA λi j=>.int (i - j)):=M7 λ_ _ _ _ _ _ _ q=>sub_int q
theorem Jb:iJ X (RK .Mult) (rI zB λi j=>.int (i*j)):=N8 λ_ _ _ _ _ _ _ hc q=>mul_int q hc.ok
theorem C3:iJ X (RK .FloorDiv) (rI DX λi j=>.int (i / j)):=N8 λi j _ _ _ _ _ hc q=>by have h1:(0:Int)<j:=hc.1;have h2:j<1073741824:=hc.2;exact floordiv_int (by lia) (by rw[Int.fdiv_eq_ediv_of_nonneg i (by lia)];exact q) (.inl (PyProof.noPylong_small (by lia)))
theorem Jc:iJ X (RK .Mod) (rI (λ_ j=>0<j) λi j=>.int (i % j)):=N8 λi j _ _ _ _ _ hc q=>by have h1:(0:Int)<j:=hc;exact mod_int' (by lia) (by rw[Int.fmod_eq_emod_of_nonneg i (by lia)];exact q)
theorem IY:iJ X (RK .Pow) (rI Kk λi j=>.int (i ^ j.toNat)):=N8 λ_ _ _ _ _ _ _ hc q=>pow_int_small hc.1 hc.2.1 hc.2.2 q
theorem unI{f:h9->Sem h9}{g:Int->Int}(rule:∀(i:Int)(t:Tok)(s:PZ)(Q:PP)(E:PP),Q (.int (g i) s.toks) {s with toks:=s.toks+1}->P2 (P7 X.prog X.w) X.A (f (.int i t)) Q E s):Pm X f (rU λi=>.int (g i)):=by intro Pw s σ H x v Q I rx h;obtain⟨i,rfl,q⟩:=h;obtain⟨t,rfl⟩:=rx;exact rule i t s _ _ ⟨.int (g i),H,I.tok _,⟨_,rfl⟩,q⟩
theorem Ii:Pm X (unaryOp .USub) (rU λi=>.int (-i)):=unI λ_ _ _ _ _ q=>neg_int q
end
def scal:V->V->Bool
 | .non,.non=>true| .non,.int _=>true| .int _,.non=>true| .non,.bl _=>true| .bl _,.non=>true| .non,.str _=>true| .str _,.non=>true
 | .int _,.int _=>true| .bl _,.bl _=>true| .str _,.str _=>true| .byt _,.byt _=>true
 | .int _,.str _=>true| .str _,.int _=>true| .bl _,.str _=>true| .str _,.bl _=>true
 |_,_=>false
def rEq:R2:=λx y H Q=>scal x y=true/\Q (.bl (decide (x=y))) H
def rNe:R2:=λx y H Q=>scal x y=true/\Q (.bl (!decide (x=y))) H
theorem xI:decide (V.int i=V.int j)=(i == j):=by rw[Wu];simp
theorem dec_bl:decide (V.bl i=V.bl j)=(i == j):=by rw[Wu];simp
theorem xH:decide (V.str i=V.str j)=(i == j):=by rw[Wu];simp
theorem xJ:decide (V.byt i=V.byt j)=(i.toList == j.toList):=by rw[Wu];cases i;cases j;simp
section
theorem fin_bl{Pw:PQ}{σ:St}{H:Hp}{s:PZ}{Q:VK}{k k':Bool}(I:aJ X Pw σ H s)(q:Q (.bl k) H)(e:k=k'):EP X Pw σ Q (.bool k') s:=by subst e;exact⟨.bl k,H,I,rfl,q⟩
theorem M6:iJ X (Qs .Eq) rEq:=by
 intro Pw s σ H x y v u Q I rx ry h;obtain⟨hs,q⟩:=h;cases x with
 |non=>
  cases rx;cases y with
  |non=>cases ry;exact PySem.EqNone.eq_none_none (fin_bl I q (by simp))
  |bl j=>cases ry;exact PySem.EqNone.eq_none_bool (fin_bl I q (by simp))
  |int j=>obtain⟨t',rfl⟩:=ry;exact PySem.EqNone.eq_none_int (fin_bl I q (by simp))
  |str j=>obtain⟨t',rfl⟩:=ry;exact PySem.EqNone.eq_none_str (fin_bl I q (by simp))
  |_=>exact PK (show false=true from hs) Wr
 |bl i=>
  cases rx;cases y with
  |non=>cases ry;exact PySem.EqNone.eq_bool_none (fin_bl I q (by simp))
  |bl j=>cases ry;exact eq_bool (fin_bl I q dec_bl)
  |str j=>obtain⟨t',rfl⟩:=ry;exact PySem.EqMixed.eq_bool_str (fin_bl I q (by simp))
  |_=>exact PK (show false=true from hs) Wr
 |int i=>
  obtain⟨t,rfl⟩:=rx;cases y with
  |non=>cases ry;exact PySem.EqNone.eq_int_none (fin_bl I q (by simp))
  |int j=>obtain⟨t',rfl⟩:=ry;exact eq_int (fin_bl I q xI)
  |str j=>obtain⟨t',rfl⟩:=ry;exact PySem.EqMixed.eq_int_str (fin_bl I q (by simp))
  |_=>exact PK (show false=true from hs) Wr
 |str i=>
  obtain⟨t,rfl⟩:=rx;cases y with
  |non=>cases ry;exact PySem.EqNone.eq_str_none (fin_bl I q (by simp))
  |bl j=>cases ry;exact PySem.EqMixed.eq_str_bool (fin_bl I q (by simp))
  |int j=>obtain⟨t',rfl⟩:=ry;exact PySem.EqMixed.eq_str_int (fin_bl I q (by simp))
  |str j=>obtain⟨t',rfl⟩:=ry;exact eq_str (fin_bl I q xH)
  |_=>exact PK (show false=true from hs) Wr
 |byt i=>
  obtain⟨t,rfl⟩:=rx;cases y with
  |byt j=>obtain⟨t',rfl⟩:=ry;exact PySem.W.eq_bytes (fin_bl I q xJ)
  |_=>exact PK (show false=true from hs) Wr
 |_=>cases y<;>exact PK (show false=true from hs) Wr
theorem MZ:iJ X (Qs .NotEq) rNe:=by
 intro Pw s σ H x y v u Q I rx ry h;obtain⟨hs,q⟩:=h;cases x with
 |non=>
  cases rx;cases y with
  |non=>cases ry;exact PySem.EqNone.ne_none_none (fin_bl I q (by simp))
  |bl j=>cases ry;exact PySem.EqNone.ne_none_bool (fin_bl I q (by simp))
  |int j=>obtain⟨t',rfl⟩:=ry;exact PySem.EqNone.ne_none_int (fin_bl I q (by simp))
  |str j=>obtain⟨t',rfl⟩:=ry;exact PySem.EqNone.ne_none_str (fin_bl I q (by simp))
  |_=>exact PK (show false=true from hs) Wr
 |bl i=>
  cases rx;cases y with
  |non=>cases ry;exact PySem.EqNone.ne_bool_none (fin_bl I q (by simp))
  |bl j=>cases ry;exact ne_bool (fin_bl I q (PM not dec_bl))
  |str j=>obtain⟨t',rfl⟩:=ry;exact PySem.EqMixed.ne_bool_str (fin_bl I q (by simp))
  |_=>exact PK (show false=true from hs) Wr
 |int i=>
  obtain⟨t,rfl⟩:=rx;cases y with
  |non=>cases ry;exact PySem.EqNone.ne_int_none (fin_bl I q (by simp))
  |int j=>obtain⟨t',rfl⟩:=ry;exact ne_int (fin_bl I q (PM not xI))
  |str j=>obtain⟨t',rfl⟩:=ry;exact PySem.EqMixed.ne_int_str (fin_bl I q (by simp))
  |_=>exact PK (show false=true from hs) Wr
 |str i=>
  obtain⟨t,rfl⟩:=rx;cases y with
  |non=>cases ry;exact PySem.EqNone.ne_str_none (fin_bl I q (by simp))
  |bl j=>cases ry;exact PySem.EqMixed.ne_str_bool (fin_bl I q (by simp))
  |int j=>obtain⟨t',rfl⟩:=ry;exact PySem.EqMixed.ne_str_int (fin_bl I q (by simp))
  |str j=>obtain⟨t',rfl⟩:=ry;exact ne_str (fin_bl I q (PM not xH))
  |_=>exact PK (show false=true from hs) Wr
 |byt i=>
  obtain⟨t,rfl⟩:=rx;cases y with
  |byt j=>obtain⟨t',rfl⟩:=ry;exact PySem.W.ne_bytes (fin_bl I q (PM not xJ))
  |_=>exact PK (show false=true from hs) Wr
 |_=>cases y<;>exact PK (show false=true from hs) Wr
theorem M0:iJ X (Qs .Lt) (HA λi j=>.bl (decide (i<j))):=C4 λ_ _ _ _ _ _ _ q=>lt_int q
theorem M3:iJ X (Qs .LtE) (HA λi j=>.bl (decide (i<=j))):=C4 λ_ _ _ _ _ _ _ q=>le_int q
theorem M4:iJ X (Qs .Gt) (HA λi j=>.bl (decide (j<i))):=C4 λ_ _ _ _ _ _ _ q=>gt_int q
theorem M5:iJ X (Qs .GtE) (HA λi j=>.bl (decide (j<=i))):=C4 λ_ _ _ _ _ _ _ q=>ge_int q
theorem yM:iJ X (Qs .Lt) (λx y H Q=>∃i j,x=.str i/\y=.str j/\Q (.bl (decide (i.cps.toList<j.cps.toList))) H):=by intro Pw s σ H x y v u Q I rx ry h;obtain⟨i,j,rfl,rfl,q⟩:=h;obtain⟨t,rfl⟩:=rx;obtain⟨t',rfl⟩:=ry;exact lt_str (fin_bl I q rfl)
theorem yO:iJ X (Qs .In) (λx y H Q=>∃i j,x=.str i/\y=.str j/\Q (.bl (!(Qd j i 0 j.length 1).isEmpty)) H):=by intro Pw s σ H x y v u Q I rx ry h;obtain⟨i,j,rfl,rfl,q⟩:=h;obtain⟨t,rfl⟩:=rx;obtain⟨t',rfl⟩:=ry;exact in_str (fin_bl I q rfl)
theorem Jd:iJ X (Qs .Is) (λx y H Q=>y=.non/\Q (.bl (decide (x=.non))) H):=by
 intro Pw s σ H x y v u Q I rx ry h;obtain⟨rfl,q⟩:=h;cases ry;refine is_none_gen (fin_bl I q ?_);cases x<;>first
  |(cases rx;rfl)
  |(obtain⟨t,rfl⟩:=rx;rfl)
theorem C2:iJ X (Qs .IsNot) (λx y H Q=>y=.non/\Q (.bl (!decide (x=.non))) H):=by
 intro Pw s σ H x y v u Q I rx ry h;obtain⟨rfl,q⟩:=h;cases ry;refine isnot_none_gen (fin_bl I q ?_);cases x<;>first
  |(cases rx;rfl)
  |(obtain⟨t,rfl⟩:=rx;rfl)
theorem qN:iJ X (Qs .NotIn) (λx y H Q=>∃i j,x=.str i/\y=.str j/\Q (.bl (!(!(Qd j i 0 j.length 1).isEmpty))) H):=by intro Pw s σ H x y v u Q I rx ry h;obtain⟨i,j,rfl,rfl,q⟩:=h;obtain⟨t,rfl⟩:=rx;obtain⟨t',rfl⟩:=ry;exact notIn_str (fin_bl I q rfl)
theorem jN(b:Qx)(h:op≠.In:=by decide)(h2:op≠.NotIn:=by decide):behindInMarks op b=false:=by
 have e1:(op == CmpOp.In)=false:=by cases op<;>first|rfl|exact PK rfl h
 have e2:(op == CmpOp.NotIn)=false:=by cases op<;>first|rfl|exact PK rfl h2
 cases b<;>simp[behindInMarks,e1,e2]
theorem CZ(ho:iJ X (Qs op) r)(ha:PE X a ta)(hb:PE X b tb)(hm:behindInMarks op b=false):PE X (.Compare a [op] [b] pos) (OQ r ta tb):=by intro Pw s σ H Q I h;exact wpAny_Compare1 (J7 ha hb I h λv u s2 x y H2 I2 rx ry q=>ho Pw s2 σ H2 x y v u Q I2 rx ry q) hm
theorem lm:(fv:Nat)<2 ^ 63:=by rw[P4];decide
theorem vw:iJ X (RK .Add) (λx y H Q=>∃i j,x=.str i/\y=.str j/\i.length+j.length<=fv/\Q (.str (i++j)) H):=by intro Pw s σ H x y v u Q I rx ry h;obtain⟨i,j,rfl,rfl,hz,q⟩:=h;obtain⟨t,rfl⟩:=rx;obtain⟨t',rfl⟩:=ry;exact add_str (λt' tk=>⟨.str (i++j),H,I.tok _,⟨_,rfl⟩,q⟩) hz
theorem dQ(r:aZ [x] us):∃u,us=[u]/\aQ x u:=by
 cases r with
 |cons r1 r2=>cases r2;exact⟨_,rfl,r1⟩
theorem zH(r:aZ [x,y] us):∃u w',us=[u,w']/\aQ x u/\aQ y w':=by
 cases r with
 |cons r1 r2=>
  cases r2 with
  |cons r3 r4=>cases r4;exact⟨_,_,rfl,r1,r3⟩
theorem zu:bx X (.type "int") (λxs H Q=>(∃i,xs=[.int i]/\Q (.int i) H)\/∃k,xs=[.bl k]/\Q (.int (if k then 1 else 0)) H):=by
 intro Pw s σ H xs us Q I r h
 rcases h with⟨i,rfl,q⟩|⟨k,rfl,q⟩
 .obtain⟨u,rfl,t,rfl⟩:=dQ r;exact call_int_int ⟨.int i,H,I,⟨_,rfl⟩,q⟩
 .obtain⟨u,rfl,r1⟩:=dQ r;cases r1;exact call_int_bool ⟨.int (if k then 1 else 0),H,I.tok _,⟨_,rfl⟩,q⟩
theorem rF:bx X (.type "str") (λxs H Q=>∃i,xs=[.int i]/\i.natAbs.log2<1920/\Q (.str (toString i)) H):=by intro Pw s σ H xs us Q I r h;obtain⟨i,rfl,hz,q⟩:=h;obtain⟨u,rfl,t,rfl⟩:=dQ r;exact PySem.P.str_of_int hz ⟨.str _,H,I.tok _,⟨_,rfl⟩,q⟩
end
structure wt(h:Qe)(x dx C:XB)(mA:PN):Prop where
 obj:h.get? x=some (W4 C dx)
 ns:h.Ns1 dx mA
 ne:dx≠x
theorem yV{h:Qe}{mA:PN}(n:h.Ns1 dx mA):∃od,h.get? dx=some od/\∀name,Xd name od=some (mA name):=by
 obtain⟨o,es,ep,ho,hd,hk,_,hm⟩:=n;refine⟨o,ho,λname=>?_⟩;have e:=hm name;unfold nsFind findBy at e;rw[<-Array.find?_toList]at e;unfold Xd;rw[hd];dsimp only;split
 .rename_i y q;rw[q]at e;exact PM some e
 .rename_i q;rw[q]at e;have a:es.toList.any (·.refKey)=false:=by rw[UK];intro y hy;obtain⟨z,t,hkey⟩:=hk y (WN.mp hy);simp[DictEntry.refKey,hkey]
  have a':¬es.toList.any (·.refKey)=true:=by rw[a];exact Wr
  rw[PD a'];exact PM some e
theorem wt.look(I:wt h x dx C mA):∃od,PySem.W.InstAt h x (W4 C dx) C (some od)/\∀name,Xd name od=some (mA name):=
 let ⟨od,ho,hl⟩:=yV I.ns
 ⟨od,⟨I.obj,rfl,rfl,ho⟩,hl⟩
section
variable{prog:P6}{w:P9}{A:QD}{E:PP}{s:PZ}{K:Frag}{x dx C f:XB}{mA:PN}{name:Str}{v:h9}
theorem Do(X:K.In s.heap)(I:wt s.heap x dx C mA)(hg:W7 K C name=true)(hh:W8 K C=true)(ha:WW K (.ref C) name=some none)(hv:mA name=some v)(hv':Xp v=true)(h:Q v {s with toks:=s.toks+1}):P2 (P7 prog w) A (getAttr (.ref x) name expr) Q E s:=by obtain⟨od,J,hl⟩:=I.look;exact PySem.W.get_value X J (Xj hg).1 (PySem.W.findObj_own hh ha rfl (by rw[hl,hv])) hv' h
theorem Bp(X:K.In s.heap)(I:wt s.heap x dx C mA)(hg:W7 K C name=true)(hf:WW K (.ref C) name=some (some (.ref f)))(ht:W5 K (.ref f)=true)(hv:mA name=none)(h:Q (.ref f,[.ref x]) s):P2 (P7 prog w) A (getMethod (.ref x) name pl) Q E s:=by obtain⟨od,J,hl⟩:=I.look;exact PySem.W.method_fn X J (Xj hg).1 (Xj hg).2 hf (beq_iff_eq.mp ht) (by show(Xd name od).map (·.isSome)=some false;rw[hl,hv];rfl) h
theorem CC(X:K.In s.heap)(I:wt s.heap x dx C mA)(hs:WW K (.ref C) "__setattr__"=some (some (.builtin "object.__setattr__")))(hp:Xe K C=true)(ht:Xk K C name=some none)(hh:W8 K C=true)(hw:PySem.Within mA ns)(hsz:ns.length<=fv)(h:∀h',wt h' x dx C (λy=>if y=name then some v else mA y)->QL dx s.heap h'->Q () {s with heap:=h',toks:=s.toks+2}):P2 (P7 prog w) A (setAttr (.ref x) name v) Q E s:=by obtain⟨od,J,hl⟩:=I.look;refine PySem.W.set_plain X J hs (PySem.W.osa_open (s:={s with toks:=s.toks+1}) (r:=none) X J hp ht λb=>?_);obtain⟨cd,hc,hd'⟩:=PySem.W.any_some hh;have hx:s.heap.get? x=some ⟨.ref C,some dx,.plain,#[]⟩:=I.obj;refine PU (PV (PU (PU (wpAny_loadPart hx (PU (PySem.W.Looks.here (s:={s with toks:=s.toks+1}) (PySem.W.looks_clsIn X hc) ?_))))));rw[hd'];refine PV (a:=some dx) (PU (PV (PU ?_)));refine wpAny_nsSet1 (s:={s with toks:=s.toks+1}) I.ns λh' hn2 hs2=>?_;obtain⟨oD,esD,epD,hoD,hdD,hcD⟩:=hn2.count (PySem.Within.cons name v hw);refine PU (wpAny_lookBehind hoD (by rw[hdD];exact pastItsLine_dict (VR hcD (by rw[Ut];lia))) ?_);exact PV (h _ ⟨(hs2.2 _ (Ne.symm I.ne)).trans I.obj,hn2,I.ne⟩ hs2)
theorem A4(X:K.In s.heap)(hm:Xf K C=true)(hi:WW K (.ref C) "__init__"=some (some (.ref f)))(hf:PySem.W.typeIn K (.ref f)=some (.type "function"))(h:Rr (P7 prog w) (A.under (.builtin "type.__call__" ⟨.ref C::vs,kw⟩)) (.call (.ref f) ⟨.ref (s.heap.objs.size+1)::vs,kw⟩) (PySem.W.InitBack (s.heap.objs.size+1) R)
   {s with heap:=(s.heap.push W3).push (W4 C s.heap.objs.size)}):Rr (P7 prog w) A (.call (.ref C) ⟨vs,kw⟩) R s:=by
 obtain⟨hh,g,d,t,os⟩:=s;exact PySem.W.make_core (PySem.W.makes_of X hm) (PySem.W.looks_findIn X hi) (λself=>PySem.W.bind_fn X self hf) (.inl rfl) h
end
def putF(f:Str)(v:V):List (Str×V)->List (Str×V)
 | []=>[(f,v)]
 |(g,x)::r=>if g=f then(g,v)::r else(g,x)::putF f v r
theorem aB(f g:Str)(v:V):∀fs:List (Str×V),(putF f v fs).lookup g=if g=f then some v else fs.lookup g
 | []=>by
   show List.lookup g [(f,v)]=_
   by_cases h:g=f
   .have hb:(g == f)=true:=beq_iff_eq.mpr h;simp only[List.lookup,hb,PF h]
   .have hb:(g == f)=false:=beq_eq_false_iff_ne.mpr h;simp only[List.lookup,hb,PD h]
 |(k,x)::r=>by
  have ih:=aB f g v r;rw[show putF f v ((k,x)::r)=(if k=f then(k,v)::r else(k,x)::putF f v r)from rfl]
  by_cases hk:k=f
  .rw[PF hk]
   by_cases h:g=k
   .have hb:(g == k)=true:=beq_iff_eq.mpr h;simp only[List.lookup,hb,PF (h.trans hk)]
   .have hb:(g == k)=false:=beq_eq_false_iff_ne.mpr h;simp only[List.lookup,hb,PD (λe:g=f=>h (e.trans hk.symm))]
  .rw[PD hk]
   by_cases h:g=k
   .have hb:(g == k)=true:=beq_iff_eq.mpr h;simp only[List.lookup,hb,PD (λe:g=f=>hk (h.symm.trans e))]
   .have hb:(g == k)=false:=beq_eq_false_iff_ne.mpr h;simp only[List.lookup,hb];exact ih
theorem lq(f:Str)(v:V):∀fs:List (Str×V),f∈(putF f v fs).map (·.1)/\∀g,g∈fs.map (·.1)->g∈(putF f v fs).map (·.1)
 | []=>⟨by simp[putF],λg h=>by simp at h⟩
 |(k,x)::r=>by
  obtain⟨i1,i2⟩:=lq f v r;rw[show putF f v ((k,x)::r)=(if k=f then(k,v)::r else(k,x)::putF f v r)from rfl]
  by_cases hk:k=f
  .rw[PF hk];subst hk;exact⟨by simp,λg h=>by simpa using h⟩
  .rw[PD hk];refine⟨?_,λg h=>?_⟩
   .rw[Uw];exact Ue _ i1
   .rw[Uw]at h ⊢
    rcases T8.mp h with e|e
    .exact T8.mpr (.inl e)
    .exact Ue _ (i2 g e)
theorem bU(f:Str)(v:V):∀fs:List (Str×V),(putF f v fs).length<=fs.length+1
 | []=>by simp[putF]
 |(k,x)::r=>by
  have ih:=bU f v r;rw[show putF f v ((k,x)::r)=(if k=f then(k,v)::r else(k,x)::putF f v r)from rfl]
  by_cases hk:k=f
  .rw[PF hk,Ut,Ut];lia
  .rw[PD hk,Ut,Ut];lia
theorem kO.some_of(r:kO (some v) o):∃u,o=some u/\aQ v u:=by
 cases o with
 |none=>exact(show False from r).elim
 |some u=>exact⟨u,rfl,r⟩
theorem kO.none_of(r:kO none o):o=none:=by
 cases o with
 |none=>rfl
 |some u=>exact(show False from r).elim
theorem zb(r:aQ v u):Xp u=true:=by
 cases v with
 |non=>cases(show u=QZ from r);rfl
 |bl b=>cases(show u=Tw b from r);rfl
 |int i=>obtain⟨t,e⟩:=(show∃t,u=Ry i t from r);cases e;rfl
 |str x=>obtain⟨t,e⟩:=(show∃t,u=R7 x t from r);cases e;rfl
 |byt b=>obtain⟨t,e⟩:=(show∃t,u=Value.bytes b t from r);cases e;rfl
 |flt b=>obtain⟨t,e⟩:=(show∃t,u=Value.float b t from r);cases e;rfl
 |ref a=>cases(show u=P8 a from r);rfl
 |ty n=>cases(show u=Si n from r);rfl
section
theorem mq(hok:jT P w H h)(e:H a=some (.ins C dx fs)):∃mA,wt h a dx C mA/\(∀f,kO (fs.lookup f) (mA f))/\PySem.Within mA (fs.map (·.1))/\fs.length<=1000/\H dx=some (.own a):=by obtain⟨d,z,ne,ob,mA,n,r,q⟩:=(show bE P w H h a (.ins C dx fs)from hok a _ e);exact⟨mA,⟨ob,n,ne⟩,r,q,z,d⟩
end
structure uH(K:Frag)(C:XB):Prop where
 pg:W7 K C Rq=true
 hd:W8 K C=true
 po:Xe K C=true
 sa:WW K (.ref C) "__setattr__"=some (some (.builtin "object.__setattr__"))
theorem uH.get{K:Frag}{C:XB}(c:uH K C)(f:Str):W7 K C f=true:=c.pg
def cn(K:Frag)(C:XB)(f:Str):Prop:=WW K (.ref C) f=some none
theorem cn.taker{K:Frag}{C:XB}{f:Str}(n:cn K C f):Xk K C f=some none:=by unfold Xk;rw[show WW K (.ref C) f=some none from n];rfl
structure N1(K:Frag)(C:XB)(m:Str)(f:XB):Prop where
 at_:WW K (.ref C) m=some (some (.ref f))
 fn:W5 K (.ref f)=true
 kp:W1 K (.ref f)=true
section
variable{X:Cx}{Pw:PQ}{σ:St}{H:Hp}{s:PZ}{a C dx:XB}{fs:List (Str×V)}{f:Str}{v:V}{A:QD}{E:PP}
theorem vT(I:aJ X Pw σ H s)(e:H a=some (.ins C dx fs))(c:uH X.K C)(n:cn X.K C f)(l:fs.lookup f=some v)(h:∀u s',aJ X Pw σ H s'->aQ v u->Q u s'):P2 (P7 X.prog X.w) A (getAttr (.ref a) f b) Q E s:=by obtain⟨mA,O,r,_,_,_⟩:=mq I.hok e;obtain⟨u,hu,ru⟩:=kO.some_of (v:=v) (o:=mA f) (by rw[<-l];exact r f);exact Do I.kIn O (c.get f) c.hd n hu (zb ru) (h u _ (I.tok _) ru)
theorem vS(I:aJ X Pw σ H s)(e:H a=some (.ins C dx fs))(c:uH X.K C)(k:N1 X.K C m g)(l:fs.lookup m=none)(h:Q (.ref g,[.ref a]) s):P2 (P7 X.prog X.w) A (getMethod (.ref a) m pl) Q E s:=by obtain⟨mA,O,r,_,_,_⟩:=mq I.hok e;have hn:mA m=none:=kO.none_of (by rw[<-l];exact r m);exact Bp I.kIn O (c.get m) k.at_ k.fn hn h
theorem vd(I:aJ X Pw σ H s)(e:H a=some (.ins C dx fs))(c:uH X.K C)(n:cn X.K C f)(hl:fs.length<1000)(ry:aQ y u)(h:∀s',aJ X Pw σ (upd H a (.ins C dx (putF f y fs))) s'->Q () s'):P2 (P7 X.prog X.w) A (setAttr (.ref a) f u) Q E s:=by
 obtain⟨mA,O,r,wi,_,ho⟩:=mq I.hok e;have hz:(fs.map (·.1)).length<=fv:=by rw[T7,P4];lia
 refine CC I.kIn O c.sa c.po n.taker c.hd wi hz λh' O' sb=>h _ ?_;have hd:∃o,h'.get? dx=some o:=let ⟨o,_,_,e',_⟩:=O'.ns;⟨o,e'⟩;refine I.write (x:=a) (e:=dx) (by rw[e];exact True.intro) (.inr ho) (λb q hb z=>(sb.2 b hb).trans z) hd ?_;refine⟨by rw[au O.ne];exact ho,?_,O.ne,O'.obj,_,O'.ns,λg=>?_,λg hg=>?_⟩
 .have:=bU f y fs;lia
 .show kO ((putF f y fs).lookup g) (if g=f then some u else mA g);rw[aB]
  by_cases q:g=f
  .rw[PF q,PF q];exact ry
  .rw[PD q,PD q];exact r g
 .by_cases q:g=f
  .rw[q];exact(lq f y fs).1
  .refine(lq f y fs).2 g (wi g λz=>hg ?_);show(if g=f then some u else mA g)=none;rw[PD q];exact z
theorem aJ.made(I:aJ X Pw σ H s):aJ X Pw σ (upd (upd H s.heap.objs.size (.own (s.heap.objs.size+1))) (s.heap.objs.size+1) (.ins C s.heap.objs.size [])) {s with heap:=(s.heap.push W3).push (W4 C s.heap.objs.size)}:=by
 have e1:(s.heap.push W3).get? s.heap.objs.size=some W3:=P5 s.heap rfl;have e2:((s.heap.push W3).push (W4 C s.heap.objs.size)).get? (s.heap.objs.size+1)=some (W4 C s.heap.objs.size):=by
  have:=P5 (s.heap.push W3) (o:=W4 C s.heap.objs.size) rfl
  rwa[QI]at this
 have e3:(s.heap.push W3).Ns s.heap.objs.size (λ_=>none):=⟨W3,#[],_,e1,rfl,(λe he=>PK he (by simp)),λ_=>rfl⟩;have I1:=I.laid (a:=s.heap.objs.size) (o:=.own (s.heap.objs.size+1)) (h':=s.heap.push W3) (t':=s.toks) (λb u q=>PX _ q) (VO _) ⟨_,e1⟩;refine I1.laid (a:=s.heap.objs.size+1) (o:=.ins C s.heap.objs.size []) (t':=s.toks) (λb u q=>PX _ q) (VY (QI _ _)) ?_;have ne:s.heap.objs.size≠s.heap.objs.size+1:=VP (V1 _);refine⟨by rw[au ne,ah],VQ _,ne,e2,λ_=>none,(Heap.Ns1.of_empty e3).at λo q=>PX _ q,λ_=>True.intro,λy hy=>PK rfl hy⟩
theorem DP(hb:Qw e f env (Qk e env)=Qk e env)(h:P2 (P7 prog w) A (Qk e env) (λo s₁=>P2 (P7 prog w) A (getAttr o f true) Q E s₁) E s):P2 (P7 prog w) A (Qk (.Attribute e f pos) env) Q E s:=
 Attribute_any_ h (by rw[arm_eval_Attribute,hb])
end
def yq(K:Frag)(ta tv:TE)(f:Str):TS:=λD σ H=>tv σ H λy H1=>ta σ H1 λx H2=>∃a C dx fs,x=.ref a/\H2 a=some (.ins C dx fs)/\uH K C/\cn K C f/\fs.length<1000/\
 D.nx σ (upd H2 a (.ins C dx (putF f y fs)))
section
theorem IR(ha:PE X o ta)(hv:PE X value tv)(hs:SM value (some (.Attribute o f pos')) pos.line X.env=pure false):PS X (.Assign [.Attribute o f pos'] value pos) (yq X.K ta tv f):=by intro Pw s σ H D I h;refine plainObj_wpAny_Assign_Attribute (bL (hv Pw s σ H _ I h) λu s1 ⟨y,H1,I1,ry,q⟩=>bL (ha Pw s1 σ H1 _ I1 q) λov s2 ⟨x,H2,I2,rx,a,C,dx,fs,ex,ea,c,n,l,q2⟩=>?_) hs;subst ex;obtain rfl:ov=P8 a:=rx;exact vd I2 ea c n l ry λs3 I3=>⟨σ,_,I3,q2⟩
end
section
variable{X:Cx}{Pw:PQ}{σ:St}{H:Hp}{s:PZ}{A:QD}{E:PP}{Q:PP}{c:h9}{b:Bool}
inductive lB(K:Frag)(H:Hp):V->h9->Prop where
 |non:lB K H .non (.type "NoneType")
 |bl (x:Bool):lB K H (.bl x) (.type "bool")
 |int (i:Int):lB K H (.int i) (.type "int")
 |str (x:Str):lB K H (.str x) (.type "str")
 |flt (x:UInt64):lB K H (.flt x) (.type "float")
 |lst {a:XB} {xs:List V} (e:H a=some (.lst xs)):lB K H (.ref a) (.type "list")
 |frz {a:XB} {o:Obj} {xs:List V} (e:H a=some (.frz o (.lst xs))):lB K H (.ref a) (.type "list")
 |tup {a:XB} {xs:List V} (e:H a=some (.tup xs)):lB K H (.ref a) (.type "tuple")
 |dK {a:XB} {kvs:List (Key×V)} (e:H a=some (.dK kvs)):lB K H (.ref a) (.type "dict")
 |dT {a:XB} {kvs:List (List Key×V)} (e:H a=some (.dT kvs)):lB K H (.ref a) (.type "dict")
 |ins {a C dx:XB} {fs:List (Str×V)} (e:H a=some (.ins C dx fs)) (cl:uH K C) (ha:WW K (.ref C) "__class__"=some (some (.builtin "object.__class__")))
   (hn:Xq K (.builtin "object.__class__") "__get__"=some (some (.builtin "getset_descriptor.__get__"))) (htk:Xr K (.builtin "object.__class__")=some true)
   (hm:W9 K C (.type "object")=some true):lB K H (.ref a) (.ref C)
theorem y6(I:aJ X Pw σ H s)(rx:aQ x u)(ty:lB X.K H x t)(e:WX X.K t c=some b)(h:∀tk,Q (.bool b) {s with toks:=tk}):P2 (P7 X.prog X.w) A (call (.builtin "isinstance") [u,c]) Q E s:=by
 cases ty with
 |non=>cases(show u=QZ from rx);exact WZ PySem.W.kitx_none I.kIn True.intro e (λz=>nomatch z) h
 |bl y=>cases(show u=Tw y from rx);exact WZ PySem.W.kitx_bool I.kIn True.intro e (λz=>nomatch z) h
 |int i=>obtain⟨t,q⟩:=(show∃t,u=Ry i t from rx);cases q;exact WZ PySem.W.kitx_int I.kIn True.intro e (λz=>nomatch z) h
 |str y=>obtain⟨t,q⟩:=(show∃t,u=R7 y t from rx);cases q;exact WZ PySem.W.kitx_str I.kIn True.intro e (λz=>nomatch z) h
 |flt y=>obtain⟨t,q⟩:=(show∃t,u=Value.float y t from rx);cases q;exact WZ PySem.W.kitx_float I.kIn True.intro e (λz=>nomatch z) h
 | @lst a xs ea=>
   cases(show u=P8 a from rx);obtain⟨_,_,n,_,h1⟩:=(show bE X.prog X.w H s.heap a (.lst xs)from I.hok a _ ea);exact WZ Xs I.kIn ⟨_,h1,rfl⟩ e (λz=>nomatch z) h
 | @frz a ob xs ea=>
   cases(show u=P8 a from rx);obtain⟨_,_,_,n,_,h1⟩:=(show bE X.prog X.w H s.heap a (.frz ob (.lst xs))from I.hok a _ ea);exact WZ Xs I.kIn ⟨_,h1,rfl⟩ e (λz=>nomatch z) h
 | @tup a xs ea=>
   cases(show u=P8 a from rx);obtain⟨_,_,_,p⟩:=(show bE X.prog X.w H s.heap a (.tup xs)from I.hok a _ ea);obtain⟨o,h1,h2,_⟩:=p;exact WZ PySem.W.kitx_tuple I.kIn ⟨o,h1,h2⟩ e (λz=>nomatch z) h
 | @dK a kvs ea=>
   cases(show u=P8 a from rx);obtain⟨_,_,vs,_,p⟩:=(show bE X.prog X.w H s.heap a (.dK kvs)from I.hok a _ ea);obtain⟨o,es,ep,h1,h2,_⟩:=p;exact WZ Xu I.kIn ⟨o,h1,h2.1⟩ e (λz=>nomatch z) h
 | @dT a kvs ea=>
   cases(show u=P8 a from rx);obtain⟨_,_,xs,_,o,es,ep,h1,h2,_⟩:=(show bE X.prog X.w H s.heap a (.dT kvs)from I.hok a _ ea);exact WZ Xu I.kIn ⟨o,h1,h2.1⟩ e (λz=>nomatch z) h
 | @ins a C dx fs ea cl ha hn htk hm=>
   cases(show u=P8 a from rx);obtain⟨mA,O,_⟩:=mq I.hok ea;obtain⟨od,J,_⟩:=O.look;exact WZ (PySem.W.kitx_own (cl.get _) cl.hd ha hn htk hm) I.kIn J e (λz=>nomatch z) h
end
structure cK(k:Nat)(A:QD):Prop where
 hd:A.handled=none
 dp:A.depth+3*k+5<Sc
 un:A.units+16*k+200<QT
theorem cK.mono(r:cK k A)(h:j<=k):cK j A:=⟨r.hd,by have:=r.dp;lia,by have:=r.un;lia⟩
theorem cK.deeper(r:cK (k+1) A)(env:Tz):cK k (A.deeper env):=
 ⟨r.hd,by have:=r.dp;show A.depth+1+3*k+5<_;lia,by have:=r.un;show A.units+3+16*k+200<_;lia⟩
theorem vK{A:QD}{C:XB}{us:List h9}{kw:List (Str×h9)}:(A.under (.builtin "type.__call__" ⟨.ref C::us,kw⟩)).depth=A.depth+1:=by
 first|rfl|simp[TQ,Code.weight,Code.isCreation,Code.isGuard,Code.isCaller,Code.frames,TN,guardIds]
theorem vJ{A:QD}{C:XB}{us:List h9}{kw:List (Str×h9)}:(A.under (.builtin "type.__call__" ⟨.ref C::us,kw⟩)).units=A.units+1:=by
 first|rfl|simp[TQ,Code.cUnits,Code.frames,TN]
theorem cK.make(r:cK (k+1) A)(C:XB)(us:List h9)(kw:List (Str×h9)):cK k (A.under (.builtin "type.__call__" ⟨.ref C::us,kw⟩)):=
 ⟨r.hd,by have:=r.dp;rw[vK];lia,by have:=r.un;rw[vJ];lia⟩
theorem cK.depth(r:cK k A):A.depth<Sc:=by have:=r.dp;lia
theorem cK.units(r:cK k A):A.units+64<QT:=by have:=r.un;lia
def cE:TA:=λ_ H Q=>Q [] H
def ba(ta:TE)(tr:TA):TA:=λσ H Q=>ta σ H λx H1=>tr σ H1 λxs H2=>Q (x::xs) H2
section
theorem pan:PA X [] cE:=λ_ _ _ _ H Q I h=>Ri ⟨[],H,I,.nil,h⟩
theorem pa_cons(ha:PE X e te)(hr:PA X es t)(hs:P1 (e::es) X.env=(false,Qk e X.env)::P1 es X.env:=by rfl):PA X (e::es) (ba te t):=by intro pos Pw s σ H Q I h;rw[hs];show P2 _ _ (TX ((false,Qk e X.env)::Qh pos (P1 es X.env))) _ _ s;refine QM (bL (ha Pw s σ H _ I h) λu s1 ⟨x,H1,I1,r1,q1⟩=>?_);exact bL (hr pos Pw s1 σ H1 _ I1 q1) λus s2 ⟨xs,H2,I2,r2,q2⟩=>⟨x::xs,H2,I2,.cons r1 r2,q2⟩
def zL(t:TA):TE:=λσ H Q=>t σ H λxs H1=>xs.length<=fv/\∀p,H1 p=none->Q (.ref p) (upd H1 p (.tup xs))
def uU(t:TA):TE:=λσ H Q=>t σ H λxs H1=>xs.length<=fv/\∀p,H1 p=none->Q (.ref p) (upd H1 p (.lst xs))
theorem dn{x1}(h:PA X es t):PE X (.Tuple es x1 pos) (zL t):=by intro Pw s σ H Q I hq;refine wpAny_Tuple_spliced (bL (h pos Pw s σ H _ I hq) λus s1 ⟨xs,H1,I1,r,z,q⟩=>⟨by rw[<-r.length];exact z,?_⟩);have hf:H1 s1.heap.objs.size=none:=I1.hok.fresh (VO _);refine⟨.ref s1.heap.objs.size,upd H1 s1.heap.objs.size (.tup xs),I1.laid (t':=s1.toks) (λb u e=>PX _ e) (VO _) ?_,rfl,q _ hf⟩;exact⟨z,us,r,⟨_,P5 _ rfl,rfl,_,rfl⟩⟩
theorem bp(h:PA X es t):PE X (.List es pos) (uU t):=by intro Pw s σ H Q I hq;refine wpAny_List_spliced (bL (h pos Pw s σ H _ I hq) λus s1 ⟨xs,H1,I1,r,z,q⟩=>⟨by rw[<-r.length];exact z,?_⟩);have hf:H1 s1.heap.objs.size=none:=I1.hok.fresh (VO _);refine⟨.ref s1.heap.objs.size,upd H1 s1.heap.objs.size (.lst xs),I1.laid (t':=s1.toks) (λb u e=>PX _ e) (VO _) ?_,rfl,q _ hf⟩;exact⟨z,us,0,r,P5 _ rfl⟩
end
abbrev Sp:=List V->Hp->VK->XK->Prop
abbrev zA:=List Tz->Hp->PZ->XK->h9->PZ->Prop
structure rR(P:P6)(w:P9)(K:Frag)(mg:PN)(Px:Qe)(A:QD)(Py:List Tz)(s:PZ)(H:Hp):Prop where
 frames:A.frames=some Py
 mod:Mod K mg Px
 bs:∀b o,Px.get? b=some o->s.heap.get? b=some o/\H b=none
 bsz:Px.objs.size<=s.heap.objs.size
 funs:s.heap.FunFrames Px Py
 frf:∀b∈jU Py,H b=none
 hok:jT P w H s.heap
 bare:RW s.gens
def CE(Py:List Tz)(P:P6)(w:P9)(H:Hp)(s:PZ)(Q:VK)(u:h9)(s':PZ):Prop:=
 ∃v H',s'.os=s.os/\RW s'.gens/\Un (jU Py) [] H H' s.heap s'.heap/\jT P w H' s'.heap/\aQ v u/\Q v H'
def CR(CX:zA)(Py:List Tz)(P:P6)(w:P9)(H:Hp)(s:PZ)(Q:VK)(E:XK)(r:Result)(s':PZ):Prop:=
 match r with
 | .ok (.ret u)=>CE Py P w H s Q u s'
 | .ok _=>False
 | .error e=>CX Py H s E e s'
structure bh(P:P6)(w:P9)(K:Frag)(mg:PN)(Px:Qe)(CX:zA)(k:Nat)(f:XB)(fd:Qf)(ps:List Str)(sp:Sp):Prop where
 len:∀vs H Q E,sp vs H Q E->vs.length=ps.length
 run:∀(A:QD)(Py:List Tz)(s:PZ)(H:Hp)(args:Args)(us:List h9)(vs:List V)(Q:VK)(E:XK),cK k A->rR P w K mg Px A Py s H->Tl s fd args (ps.zip us)->aZ vs us->sp vs H Q E->
  Rr (P7 P w) A (.call (.ref f) args) (CR CX Py P w H s Q E) s
theorem bh.imp{P:P6}{w:P9}{K:Frag}{mg:PN}{Px:Qe}{CX:zA}{k:Nat}{f:XB}{fd:Qf}{ps:List Str}{sp sp':Sp}(F:bh P w K mg Px CX k f fd ps sp)(h:∀vs H Q E,sp' vs H Q E->sp vs H Q E):bh P w K mg Px CX k f fd ps sp':=
 ⟨λvs H Q E q=>F.len vs H Q E (h _ _ _ _ q),λA Py s H args us vs Q E hr he hb hv hs=>F.run A Py s H args us vs Q E hr he hb hv (h _ _ _ _ hs)⟩
theorem rR.make{P:P6}{w:P9}{K:Frag}{mg:PN}{Px:Qe}{A:QD}{Py:List Tz}{s:PZ}{H:Hp}(e:rR P w K mg Px A Py s H)(C:XB)(us:List h9)(kw:List (Str×h9)):rR P w K mg Px (A.under (.builtin "type.__call__" ⟨.ref C::us,kw⟩)) Py s H:=⟨by first|exact e.frames|(simpa[TQ,Code.envs,TN,pushEnvs]using e.frames),e.mod,e.bs,e.bsz,e.funs,e.frf,e.hok,e.bare⟩
section
variable{X:Cx}{Pw:PQ}{σ:St}{H:Hp}{s s':PZ}
theorem aJ.env0(I:aJ X Pw σ H s):rR X.prog X.w X.K X.mg X.Px X.A X.stack s H:=
 ⟨I.ok.frames,I.ok.mod,I.bs,VR I.ok.bsz I.sz,I.stack,I.stkFree,I.hok,I.bare⟩
theorem aJ.after(I:aJ X Pw σ H s)(h:CE X.stack X.prog X.w H s Q u s'):EP X Pw σ Q u s':=by obtain⟨v,H',os,bare,un,hok,r,q⟩:=h;obtain⟨hh,g,d,t,os'⟩:=s';obtain rfl:os'=s.os:=os;exact⟨v,H',I.call (h':=hh) (g':=g) (d':=d) (t':=t) (ch:=[]) un hok bare (λb z=>PK z (by simp)),r,q⟩
end
def zP(sp:Sp)(dvs:List V)(E:XK)(t:TA):TE:=λσ H Q=>t σ H λvs H1=>sp (vs++dvs) H1 Q E
def zO(C:XB)(sp:Sp)(dvs:List V)(E:XK)(t:TA):TE:=λσ H Q=>t σ H λvs H1=>∀x dx,H1 x=none->H1 dx=none->dx≠x->
 sp (.ref x::(vs++dvs)) (upd (upd H1 dx (.own x)) x (.ins C dx [])) (λv H2=>v=.non/\Q (.ref x) H2) E
def ig(K:Frag)(fd:Qf)(ps:List Str)(ds:List h9):Prop:=
 ∀(s:PZ)(us:List h9),K.In s.heap->(us++ds).length=ps.length->Tl s fd ⟨us,[]⟩ (ps.zip (us++ds))
theorem ig.all{K:Frag}{fd:Qf}{ps:List Str}(h:∀us:List h9,us.length=ps.length->bindArgs fd ⟨us,[]⟩=pure (ps.zip us)):ig K fd ps []:=λs us _ hl=>by rw[Uo]at hl ⊢;exact .of_eq (h us hl)
def nV(CX:zA)(X:Cx)(E:XK):Prop:= ∀(Pw:PQ)(σ:St)(H:Hp)(s:PZ)(e:h9)(s':PZ),aJ X Pw σ H s->CX X.stack H s E e s'->X.xe e s'
section
variable{X:Cx}{CX:zA}{k:Nat}{f C:XB}{fd:Qf}{ps:List Str}{sp:Sp}{dvs:List V}{ds:List h9}{E:XK}{x m:Str}{p pos apos:So}{e o:Qx}{es:List Qx}{t:TA}
theorem Ah{Pw:PQ}{σ:St}{H:Hp}{s:PZ}{Q:VK}{us:List h9}{vs:List V}(F:bh X.prog X.w X.K X.mg X.Px CX k f fd ps sp)(hr:cK k X.A)(hb:ig X.K fd ps ds)(hd:aZ dvs ds)(hx:nV CX X E)(I:aJ X Pw σ H s)(r:aZ vs us)(h:sp (vs++dvs) H Q E):P2 (P7 X.prog X.w) X.A (call (.ref f) us) (EP X Pw σ Q) X.xe s:=by
 have r2:aZ (vs++dvs) (us++ds):=r.append hd;have hl:(us++ds).length=ps.length:=by rw[<-r2.length];exact F.len _ _ _ _ h
 refine Rv (QP (F.run X.A X.stack s H ⟨us,[]⟩ (us++ds) (vs++dvs) Q E hr I.env0 (hb s us I.kIn hl) r2 h) λr s' hq=>?_);cases r with
 |error e=>exact hx Pw σ H s e s' I hq
 |ok fl=>
  cases fl with
  |ret u=>exact I.after hq
  |next=>exact False.elim hq
  |brk=>exact False.elim hq
  |cont=>exact False.elim hq
theorem C1(F:bh X.prog X.w X.K X.mg X.Px CX k f fd ps sp)(hr:cK k X.A)(hg:Gl X x)(hm:X.mg x=some (.ref f))(hk:W1 X.K (.ref f)=true)(hb:ig X.K fd ps ds)(hd:aZ dvs ds)(hx:nV CX X E)(ha:PA X (e::es) t)(hdb:(x == ("__debug__":Str))=false:=by decide)(he:P1 (e::es) X.env=(false,Qk e X.env)::P1 es X.env:=by rfl)(hpl:(Qh pos (P1 es X.env)).any (·.1)=false:=by rfl):PE X (.Call (.Name x p) (e::es) [] pos) (zP sp dvs E t):=by intro Pw s σ H Q I h;refine Qt (iq I hg hm ?_ hdb);refine Xa (h₀:=X.Px) I.ok.mod.kin hk (bL (ha pos Pw s σ H _ I h) λus s1 ⟨vs,H1,I1,r,q⟩=>⟨I1.kIn,?_⟩) he hpl;exact Ah F hr hb hd hx I1 r q
structure Mk(K:Frag)(C f:XB):Prop where
 makes:Xf K C=true
 init:WW K (.ref C) "__init__"=some (some (.ref f))
 fn:W5 K (.ref f)=true
 kp:W1 K (.ref C)=true
theorem Ag{Pw:PQ}{σ:St}{H:Hp}{s:PZ}{Q:VK}{us:List h9}{vs:List V}(M:Mk X.K C f)(F:bh X.prog X.w X.K X.mg X.Px CX k f fd ps sp)(hr:cK (k+1) X.A)(hb:ig X.K fd ps ds)(hd:aZ dvs ds)(hx:nV CX X E)(I:aJ X Pw σ H s)(r:aZ vs us)(h:∀x dx,H x=none->H dx=none->dx≠x->sp (.ref x::(vs++dvs)) (upd (upd H dx (.own x)) x (.ins C dx [])) (λv H2=>v=.non/\Q (.ref x) H2) E):P2 (P7 X.prog X.w) X.A (call (.ref C) us) (EP X Pw σ Q) X.xe s:=by
 have hq:=h (s.heap.objs.size+1) s.heap.objs.size (I.hok.fresh (VT _)) (I.hok.fresh (VO _)) (VP (V1 _));have I2:=aJ.made (C:=C) I;have r2:aZ (V.ref (s.heap.objs.size+1)::(vs++dvs)) (P8 (s.heap.objs.size+1)::(us++ds)):=.cons rfl (r.append hd);have hl:(P8 (s.heap.objs.size+1)::us++ds).length=ps.length:=by have e:=r2.length;rw[F.len _ _ _ _ hq]at e;exact e.symm
 refine Rv (A4 (f:=f) I.kIn M.makes M.init (beq_iff_eq.mp M.fn) (QP (F.run _ X.stack _ _ ⟨P8 (s.heap.objs.size+1)::us,[]⟩ (P8 (s.heap.objs.size+1)::(us++ds)) _ _ E (hr.make C us [])
  (I2.env0.make C us []) (hb _ (P8 (s.heap.objs.size+1)::us) I2.kIn hl) r2 hq) λr s' hq'=>?_))
 cases r with
 |error e=>exact hx Pw σ _ _ e s' I2 hq'
 |ok fl=>
  cases fl with
  |ret u=>
   obtain⟨v,H',I3,rv,ev,q3⟩:=I2.after hq';subst ev;exact⟨rv,⟨V.ref (s.heap.objs.size+1),H',I3,rfl,q3⟩⟩
  |next=>exact False.elim hq'
  |brk=>exact False.elim hq'
  |cont=>exact False.elim hq'
theorem CV(M:Mk X.K C f)(F:bh X.prog X.w X.K X.mg X.Px CX k f fd ps sp)(hr:cK (k+1) X.A)(hg:Gl X x)(hm:X.mg x=some (.ref C))(hb:ig X.K fd ps ds)(hd:aZ dvs ds)(hx:nV CX X E)(ha:PA X (e::es) t)(hdb:(x == ("__debug__":Str))=false:=by decide)(he:P1 (e::es) X.env=(false,Qk e X.env)::P1 es X.env:=by rfl)(hpl:(Qh pos (P1 es X.env)).any (·.1)=false:=by rfl):PE X (.Call (.Name x p) (e::es) [] pos) (zO C sp dvs E t):=by intro Pw s σ H Q I h;refine Qt (iq I hg hm ?_ hdb);refine Xa (h₀:=X.Px) I.ok.mod.kin M.kp (bL (ha pos Pw s σ H _ I h) λus s1 ⟨vs,H1,I1,r,q⟩=>⟨I1.kIn,?_⟩) he hpl;exact Ag M F hr hb hd hx I1 r q
end
structure aD(N P:List Str)(sc:RS):Prop where
 kind:sc.kind=.function
 co:sc.isCoroutine=false
 gen:sc.isGenerator=false
 nd:N.Nodup
 pre:N.take P.length=P
 par:∀x∈P,sc.names.lookup x=some .local\/sc.names.lookup x=some .cell
 nofree:∀y∈sc.names,y.2≠.free
theorem pM{kindOf:Str->Option NameKind}{x:Str}:∀{binds:List (Str×h9)}{m:PN},(∀v,(x,v)∉binds)->T3 kindOf binds m x=m x
 | [],_,_=>rfl
 |(n,v)::r,m,h=>by
  unfold T3;rw[pM λw hw=>h w (Ue _ hw)];split
  .have:x≠n:=by rintro rfl;exact h v Ui
   simp[this]
  .rfl
theorem pO{kindOf:Str->Option NameKind}{x:Str}:∀{binds:List (Str×h9)}{m:PN},(∀v,(x,v)∉binds)->T4 kindOf binds m x=m x
 | [],_,_=>rfl
 |(n,v)::r,m,h=>by
  unfold T4;rw[pO λw hw=>h w (Ue _ hw)];split
  .rfl
  .have:x≠n:=by rintro rfl;exact h v Ui
   simp[this]
theorem pN{kindOf:Str->Option NameKind}{x:Str}{v:h9}:∀{P:List Str}{vs:List h9}{i:Nat}{m:PN},P.Nodup->P[i]? =some x->vs[i]? =some v->kindOf x=some .local->T3 kindOf (P.zip vs) m x=some v
 | [],_,_,_,_,h,_,_=>by simp at h
 |_::_,[],_,_,_,_,h,_=>by simp at h
 |p::P,w::vs,0,m,nd,h1,h2,hk=>by simp at h1 h2;subst h1;subst h2;show T3 kindOf ((p,w)::P.zip vs) m p=_;unfold T3;rw[pM λv hv=>(UP.mp nd).1 (U6 hv).1,PF hk];simp
 |p::P,w::vs,i+1,m,nd,h1,h2,hk=>by show T3 kindOf ((p,w)::P.zip vs) m x=_;unfold T3;exact pN (i:=i) (UP.mp nd).2 (by simpa using h1) (by simpa using h2) hk
theorem pP{kindOf:Str->Option NameKind}{x:Str}{v:h9}:∀{P:List Str}{vs:List h9}{i:Nat}{m:PN},P.Nodup->P[i]? =some x->vs[i]? =some v->kindOf x≠some .local->T4 kindOf (P.zip vs) m x=some v
 | [],_,_,_,_,h,_,_=>by simp at h
 |_::_,[],_,_,_,_,h,_=>by simp at h
 |p::P,w::vs,0,m,nd,h1,h2,hk=>by simp at h1 h2;subst h1;subst h2;show T4 kindOf ((p,w)::P.zip vs) m p=_;unfold T4;rw[pO λv hv=>(UP.mp nd).1 (U6 hv).1,PD hk];simp
 |p::P,w::vs,i+1,m,nd,h1,h2,hk=>by show T4 kindOf ((p,w)::P.zip vs) m x=_;unfold T4;exact pP (i:=i) (UP.mp nd).2 (by simpa using h1) (by simpa using h2) hk
def start(N:List Str)(vs:List V):St:=vs.map some++List.replicate (N.length - vs.length) none
def l8(CX:zA)(P:P6)(w:P9)(K:Frag)(mg:PN)(Px:Qe)(N:List Str)(qual:Str)(scope:RS)(f:XB)(cd:h9)(A:QD)(Py:List Tz)(s:PZ)(H:Hp)(E:XK):Cx where
 prog:=P
 w:=w
 K:=K
 mg:=mg
 Px:=Px
 A:=A.deeper (Rj qual scope s.heap.objs.size f cd)
 N:=N
 s₀:=s
 H₀:=H
 env:=Rj qual scope s.heap.objs.size f cd
 Py:=Py
 stack:=Rj qual scope s.heap.objs.size f cd::Py
 ex:=[]
 calm:=true
 fn:=λ_=>true
 pn:=[]
 xe:=λe s'=>P2 (P7 P w) (A.deeper (Rj qual scope s.heap.objs.size f cd)) (leaving (Rj qual scope s.heap.objs.size f cd) e) (λ_ s''=>CX Py H s E e s'') (λe' s''=>CX Py H s E e' s'') s'
theorem uv{sc:RS}{n:Nat}{x:Str}(h:sc.names.lookup x=some .cell):∃c,(TW n sc.names []).lookup x=some c:=by have q:=Xl sc.names n [] (.inl h);exact WS.mp q
theorem pB{CX:zA}{P:P6}{w:P9}{K:Frag}{mg:PN}{Px:Qe}{N ps:List Str}{qual:Str}{scope:RS}{f:XB}{cd:h9}{A:QD}{Py:List Tz}{s s1:PZ}{H:Hp}{E:XK}{us:List h9}{vs:List V}(S:aD N ps scope)(hd:A.handled=none)(e0:rR P w K mg Px A Py s H)(hl:vs.length=ps.length)(r:aZ vs us)(x:InCallC s s.heap.objs.size (T3 (Rj qual scope s.heap.objs.size f cd).kindOf (ps.zip us) λ_=>none) (TW (s.heap.objs.size+1) scope.names []) (T4 (Rj qual scope s.heap.objs.size f cd).kindOf (ps.zip us) λ_=>none) s1):aJ (l8 CX P w K mg Px N qual scope f cd A Py s H E) [] (start N vs) H s1:=by
 have hpl:ps.length<=N.length:=by have:=PM List.length S.pre;rw[Uu]at this;lia
 obtain⟨h1,tk,rfl,hk⟩:=x.done;have noA:∀b:XB,b∉(l8 CX P w K mg Px N qual scope f cd A Py s H E).ex:=λb z=>PK (show b∈([]:List XB)from z) (by simp);refine⟨⟨e0.mod,S.kind,rfl,rfl,VO _,λy z c h1 h2=>?_,λy hy=>?_,λy c _ h=>?_,λ_=>hd,Around.frames_deeper e0.frames,.inr ⟨rfl,rfl⟩,λb z=>PK z (noA b),e0.bs,e0.bsz,λb _ _=>noA b,λb z=>PK z (noA b),e0.funs,e0.frf⟩,
  rfl,e0.bare,Un.kept hk,⟨_,x.toInCall.ns,λi y v h1 h2 h3=>?_⟩,λy c h=>⟨_,x.cell y c h⟩,e0.hok.fresh (VO _),λy c h=>?_,λp hp=>PK (show p∈([]:PQ)from hp) (by simp),e0.hok.kept hk,?_⟩
 .exact name_of_addr x.apart (PySem.mem_of_lookup h1) (PySem.mem_of_lookup h2)
 .have hy:scope.names.lookup y=some .cell\/scope.names.lookup y=some .free:=hy
  rcases hy with hy|hy
  .exact uv hy
  .exact PK rfl (S.nofree _ (PySem.mem_of_lookup hy))
 .exact V0 (x.above y c (PySem.mem_of_lookup h))
 .have hi:i<vs.length:=by
   unfold start at h2
   by_cases hi:i<vs.length
   .exact hi
   .rw[Vz (by simpa using hi)]at h2;rw[VA]at h2;split at h2<;>cases h2
  have ha:vs[i]? =some v:=by
   unfold start at h2;rw[U7 (by simpa using hi),Ub]at h2;cases e:vs[i]? with
   |none=>rw[e]at h2;cases h2
   |some a=>rw[e]at h2;cases h2;rfl
  obtain⟨u,hu,rv⟩:=r.get ha;have hp:ps[i]? =some y:=by rw[<-S.pre,Vj (by lia)];exact h1
  have ndP:ps.Nodup:=by rw[<-S.pre];exact S.nd.sublist (Vk _ _)
  refine⟨u,rv,?_⟩
  rcases S.par y (Us hp)with k|k
  .exact .inl ⟨k,pN ndP hp hu k⟩
  .obtain⟨c,e⟩:=uv (n:=s.heap.objs.size+1) k;refine .inr ⟨.inl k,c,e,?_⟩;have q:=x.cell y c e;rw[pP ndP hp hu (by show scope.names.lookup y≠_;rw[k];decide)]at q;exact q
 .exact e0.hok.fresh (V0 (x.above y c (PySem.mem_of_lookup h)))
 .unfold start;show _=N.length;rw[Uj,T7,List.length_replicate];lia
theorem HN{CX:zA}{P:P6}{w:P9}{K:Frag}{mg:PN}{Px:Qe}{k:Nat}{f:XB}{name qual:Str}{params:Arguments}{body:List Ql}{scope:RS}{dV kV doc pm cdv ct oc:h9}{an od:Option XB}{osl:Array (Option h9)}{N ps:List Str}{sp:Sp}(lk:K.lookup f=some ⟨oc,od,.func (W2 name qual params body scope dV kV doc pm an cdv ct),osl⟩)(hcd:Xg K cdv qual=true)(S:aD N ps scope)(len:∀vs H Q E,sp vs H Q E->vs.length=ps.length)(hbody:∀(A:QD)(Py:List Tz)(s:PZ)(H:Hp)(vs:List V)(Q:VK)(E:XK),cK k (A.deeper (Rj qual scope s.heap.objs.size f cdv))->sp vs H Q E->
   ∃t,oE (l8 CX P w K mg Px N qual scope f cdv A Py s H E) body t/\t {nx:=λ_ H'=>Q .non H',rt:=Q} (start N vs) H):bh P w K mg Px CX (k+1) f (W2 name qual params body scope dV kV doc pm an cdv ct) ps sp:=by
 refine⟨len,λA Py s H args us vs Q E hr e0 hb r hsp=>?_⟩;have hl:=len _ _ _ _ hsp;have KX:K.In s.heap:=e0.mod.kin.keeps λb o e=>(e0.bs b o e).1;have lim:s.heap.NoLimit:=e0.mod.nolimit.keeps λb o e=>(e0.bs b o e).1;have hkind:∀y∈ps.zip us,scope.names.lookup y.1=some .local\/(scope.names.lookup y.1=some .cell/\((TW (s.heap.objs.size+1) scope.names []).lookup y.1).isSome=true):=λ⟨n,v⟩ hy=>by
  rcases S.par n (U6 hy).1 with q|q
  .exact .inl q
  .exact .inr ⟨q,Xl _ _ _ (.inl q)⟩
 refine Ta hr.depth (KX _ _ lk) rfl S.co S.gen rfl (Xv KX hcd) (hb _ _ _ _ ?_);refine R9 S.kind hkind λenv he s1 x=>?_;subst he;refine⟨lim.keeps x.toInCall.keep,codeAny_func ?_⟩;obtain⟨t,ht,hq⟩:=hbody A Py s H vs Q E (hr.deeper _) hsp;have I:aJ (l8 CX P w K mg Px N qual scope f cdv A Py s H E) [] (start N vs) H s1:=pB S hr.hd e0 hl r x;refine Qz (ht [] s1 (start N vs) H _ I hq) (λfl s' hs=>?_) λe s' hs=>hs;have fin:∀{σ':St}{H':Hp}{v:V}{u:h9},aJ (l8 CX P w K mg Px N qual scope f cdv A Py s H E) [] σ' H' s'->aQ v u->Q v H'->CE Py P w H s Q u s':=
  λ{σ' H' v u} J rv q=>⟨v,H',J.os,J.bare,J.Px,J.hok,rv,q⟩
 cases fl with
 |ret u=>
  obtain⟨v,σ',H',J,rv,q⟩:=hs;exact fin J rv q
 |next=>
  obtain⟨σ',H',J,q⟩:=hs;exact fin (v:=V.non) (u:=QZ) J rfl q
 |brk=>
  obtain⟨_,_,_,q⟩:=hs;exact False.elim q
 |cont=>
  obtain⟨_,_,_,q⟩:=hs;exact False.elim q
section
variable{X:Cx}{x:Str}{p pos:So}{e:Qx}{es:List Qx}{t:TA}{id T:String}{r:List V->Hp->VK->Prop}
def tCB(r:List V->Hp->VK->Prop)(t:TA):TE:=λσ H Q=>t σ H λvs H1=>r vs H1 Q
theorem AN(hc:bx X (.builtin id) r)(hg:Gl X x)(hm:X.mg x=none)(hv:Qc x=some (.builtin id))(ha:PA X (e::es) t)(hn:x≠"__name__":=by decide)(hdb:(x == ("__debug__":Str))=false:=by decide)(he:P1 (e::es) X.env=(false,Qk e X.env)::P1 es X.env:=by rfl)(hpl:(Qh pos (P1 es X.env)).any (·.1)=false:=by rfl):PE X (.Call (.Name x p) (e::es) [] pos) (tCB r t):=by intro Pw s σ H Q I h;refine Qt (gP I hg hm hv ?_ hn hdb);exact PyProof.Rows.callWith_builtin1 (bL (ha pos Pw s σ H _ I h) λus s1 ⟨vs,H1,I1,r1,q1⟩=>hc Pw s1 σ H1 vs us Q I1 r1 q1) he hpl
theorem yJ(hc:bx X (.type T) r)(hg:Gl X x)(hm:X.mg x=none)(hv:Qc x=some (.type T))(ha:PA X (e::es) t)(hn:x≠"__name__":=by decide)(hdb:(x == ("__debug__":Str))=false:=by decide)(he:P1 (e::es) X.env=(false,Qk e X.env)::P1 es X.env:=by rfl)(hpl:(Qh pos (P1 es X.env)).any (·.1)=false:=by rfl):PE X (.Call (.Name x p) (e::es) [] pos) (tCB r t):=by intro Pw s σ H Q I h;refine Qt (gP I hg hm hv ?_ hn hdb);exact PyProof.Rows.callWith_type1 (bL (ha pos Pw s σ H _ I h) λus s1 ⟨vs,H1,I1,r1,q1⟩=>hc Pw s1 σ H1 vs us Q I1 r1 q1) he hpl
end
end L2
namespace HT
open PySem PyProof.Rows
section
def sIx(n d:Nat):Option Int->Nat
 |none=>d
 |some v=>if v<0 then(v+(n:Int)).toNat else min v.toNat n
theorem sIx_none(n d:Nat):sIx n d none=d:=rfl
theorem sIx_nat(n d k:Nat):sIx n d (some (k:Int))=min k n:=by show(if(k:Int)<0 then((k:Int)+(n:Int)).toNat else min (k:Int).toNat n)=min k n;rw[PD (by lia),Wd]
theorem sIx_le(n d:Nat)(hd:d<=n)(o:Option Int):sIx n d o<=n:=by
 cases o with
 |none=>exact hd
 |some v=>
  show(if v<0 then(v+(n:Int)).toNat else min v.toNat n)<=n
  by_cases hv:v<0
  .rw[PF hv];lia
  .rw[PD hv];exact Nat.min_le_right _ _
end
end HT
namespace L2
open PySem PySem.Spec PyProof.Rows
abbrev TO:=St->Hp->(Option Int->Hp->Prop)->Prop
def PO(X:Cx)(e:Option Qx)(t:TO):Prop:=
 ∀(Pw:PQ)(s:PZ)(σ:St)(H:Hp)(Q:Option Int->Hp->Prop),aJ X Pw σ H s->t σ H Q->
  P2 (P7 X.prog X.w) X.A (evalPart e X.env) (λu s'=>∃o H',aJ X Pw σ H' s'/\T6 u o/\Q o H') X.xe s
def ik:TO:=λ_ H Q=>Q none H
theorem nA:∀{us:List h9},aZ (ns.map V.int) us->Tk us ns:=by
 induction ns with
 |nil=>intro us r;rw[UZ]at r;cases r;exact .nil
 |cons n ns ih=>
  intro us r;rw[Uw]at r;cases r with
  |cons r1 r2=>
   obtain⟨t,e⟩:=r1;subst e;exact .cons n t (ih r2)
section
variable{X:Cx}{e:Qx}{te:TE}{lo hi:Option Qx}{tl th:TO}{pos p2:So}
theorem dh:PO X none ik:=by intro Pw s σ H Q I h;rw[evalPart_none];exact PV ⟨none,H,I,.none,h⟩
def zC(X:Cx)(r:V->Option Int->Option Int->Hp->VK->Prop):Prop:=
 ∀(Pw:PQ)(s:PZ)(σ:St)(H:Hp)(x:V)(v vl vu:h9)(lo hi:Option Int)(sl:XB)(Q:VK),aJ X Pw σ H s->aQ x v->s.heap.IsSliceOf sl vl vu .none->T6 vl lo->T6 vu hi->r x lo hi H Q->
  ∃T id,RE (.type T) "__getitem__"=pure (some (.builtin id))/\s.TypeIs v T/\P2 (P7 X.prog X.w) X.A (getItem v (.ref sl)) (EP X Pw σ Q) X.xe s
theorem zC.or(h:zC X r)(h':zC X r'):zC X (λx lo hi H Q=>r x lo hi H Q\/r' x lo hi H Q):=by
 intro Pw s σ H x v vl vu lo hi sl Q I rx hs pl pu q
 rcases q with q|q
 .exact h Pw s σ H x v vl vu lo hi sl Q I rx hs pl pu q
 .exact h' Pw s σ H x v vl vu lo hi sl Q I rx hs pl pu q
def tSl(r:V->Option Int->Option Int->Hp->VK->Prop)(te:TE)(tl th:TO):TE:=λσ H Q=>te σ H λx H1=>tl σ H1 λl H2=>th σ H2 λu H3=>r x l u H3 Q
theorem AJ(hr:zC X r)(he:PE X e te)(hl:PO X lo tl)(hu:PO X hi th):PE X (.Subscript e (.Slice lo hi none p2) pos) (tSl r te tl th):=by intro Pw s σ H Q I h;refine Subscript_ (bL (he Pw s σ H _ I h) λv s1 ⟨x,H1,I1,r1,q1⟩=>?_);refine wpAny_Slice (bL (hl Pw s1 σ H1 _ I1 q1) λvl s2 ⟨l,H2,I2,pl,q2⟩=>bL (hu Pw s2 σ H2 _ I2 q2) λvu s3 ⟨u,H3,I3,pu,q3⟩=>?_);rw[evalPart_none];refine PV ?_;have I4:aJ X Pw σ H3 {s3 with heap:=s3.heap.push {cls:=.type "slice",data:=.fields #[vl,vu,.none]}}:=I3.kept (t':=s3.toks) λb ob q=>PX _ q;obtain⟨T,id,hT,ht,hg⟩:=hr Pw {s3 with heap:=s3.heap.push {cls:=.type "slice",data:=.fields #[vl,vu,.none]}} σ H3 x v vl vu l u s3.heap.objs.size Q I4 r1 (Heap.IsSliceOf.new ..) pl pu q3;show P2 (P7 X.prog X.w) X.A (subscriptTail e (.Slice lo hi none p2) v (.ref s3.heap.objs.size)) (EP X Pw σ Q) X.xe {s3 with heap:=s3.heap.push {cls:=.type "slice",data:=.fields #[vl,vu,.none]}};exact tail_any (ops:=[.ref s3.heap.objs.size,v]) ht hT hg (by with_unfolding_all rfl)
def cutV(xs:List V)(lo hi:Option Int):List V:=(xs.drop (HT.sIx xs.length 0 lo)).take (HT.sIx xs.length xs.length hi - HT.sIx xs.length 0 lo)
theorem lO(xs:List V)(lo hi:Option Int):(cutV xs lo hi).length<=xs.length:=by unfold cutV;rw[Uu,U8];lia
end
def ixN(n:Nat)(i:Int):Option Nat:=if 0<=i then(if i<n then some i.toNat else none)else if -(n:Int)<=i then some (i+n).toNat else none
def jd{α:Type}(xs:List α)(i:Int):Option α:=(ixN xs.length i).bind λj=>xs[j]?
theorem xp(h:ixN n i=some j):seqIndex? i n=some j/\j<n/\-(n:Int)<=i/\i<n:=by
 unfold ixN at h
 by_cases h0:0<=i
 .rw[PF h0]at h
  by_cases h1:i<n
  .rw[PF h1]at h;have e:i.toNat=j:=PL h;exact⟨by rw[seqIndex_of h0 h1,e],by lia,by lia,h1⟩
  .rw[PD h1]at h;cases h
 .rw[PD h0]at h
  by_cases h1: -(n:Int)<=i
  .rw[PF h1]at h;have e:(i+n).toNat=j:=PL h;exact⟨by rw[TD (by lia) h1,e],by lia,h1,by lia⟩
  .rw[PD h1]at h;cases h
theorem jt{α:Type}{xs:List α}{i:Int}{v:α}(h:jd xs i=some v):∃j,seqIndex? i xs.length=some j/\xs[j]? =some v/\j<xs.length/\-(xs.length:Int)<=i/\i<xs.length:=by
 unfold jd at h;cases e:ixN xs.length i with
 |none=>rw[e]at h;cases h
 |some j=>
  rw[e]at h;obtain⟨h1,h2,h3,h4⟩:=xp e;exact⟨j,h1,h,h2,h3,h4⟩
theorem bI{α:Type}{xs:List α}{j:Nat}{v:α}(h:xs[j]? =some v):jd xs (j:Int)=some v:=by
 have hj:j<xs.length:=(Um.mp h).1;have e:ixN xs.length (j:Int)=some j:=by unfold ixN;rw[PF (by lia),PF (by lia)];simp
 unfold jd;rw[e];exact h
def mw(b:Qx):Prop:= ∀o i,subscripted b false o i=operate [o,i] (getItem o i)
def xT(X:Cx)(r:R2):Prop:=
 ∀(value slice:Qx)(Pw:PQ)(s:PZ)(σ:St)(H:Hp)(x y:V)(v u:h9)(Q:VK),aJ X Pw σ H s->aQ x v->aQ y u->r x y H Q->
  subscripted slice false v u=operate [v,u] (getItem v u)->P2 (P7 X.prog X.w) X.A (subscriptTail value slice v u) (EP X Pw σ Q) X.xe s
def uL(X:Cx)(id:String)(r:V->List V->Hp->VK->Prop):Prop:=
 ∀(Pw:PQ)(s:PZ)(σ:St)(H:Hp)(x:V)(xs:List V)(v:h9)(us:List h9)(Q:VK),aJ X Pw σ H s->aQ x v->aZ xs us->r x xs H Q->
  P2 (P7 X.prog X.w) X.A (call (.builtin id) (v::us)) (EP X Pw σ Q) X.xe s
section
theorem xT.or(h:xT X r)(h':xT X r'):xT X (λx y H Q=>r x y H Q\/r' x y H Q):=by
 intro value slice Pw s σ H x y v u Q I rx ry q hs
 rcases q with q|q
 .exact h value slice Pw s σ H x y v u Q I rx ry q hs
 .exact h' value slice Pw s σ H x y v u Q I rx ry q hs
theorem MY(hr:xT X r)(ha:PE X a ta)(hb:PE X b tb)(hs:mw b):PE X (.Subscript a b pos) (OQ r ta tb):=by intro Pw s σ H Q I h;exact Subscript_ (J7 ha hb I h λv u s2 x y H2 I2 rx ry q=>hr a b Pw s2 σ H2 x y v u Q I2 rx ry q (hs _ _))
def MV(K:Frag):R2:=λx y H Q=>∃p xs i v,x=.ref p/\y=.int i/\aO K H p xs/\jd xs i=some v/\Q v H
def MT(K:Frag):R2:=λx y H Q=>∃p xs i v,x=.ref p/\y=.int i/\da K H p xs/\jd xs i=some v/\Q v H
def MU:R2:=λx y H Q=>∃z i c,x=.str z/\y=.int i/\z.length<=fv/\jd z.cps.toList i=some c/\Q (.str ⟨#[c]⟩) H
theorem Dh:xT X (MV X.K):=by
 intro value slice Pw s σ H x y v u Q I rx ry h hs;obtain⟨p,xs,i,z,rfl,rfl,hq,he,q⟩:=h;cases rx;obtain⟨t,rfl⟩:=ry;obtain⟨its,r,pl,hz⟩:=I.list hq;obtain⟨j,h1,h2,h3,h4,h5⟩:=jt he;obtain⟨w,ew,rw'⟩:=r.get h2;have hl:=r.length;have hn:=lm;have fin:EP X Pw σ Q w s:=⟨z,H,I,rw',q⟩
 by_cases h0:0<=i
 .have hj:i.toNat=j:=by rw[seqIndex_of h0 h5]at h1;exact PL h1
  exact item_listR pl.isList h0 (by lia) (by rw[hj];simpa using ew) fin hs
 .have hj:(i+(its.toArray.size:Int)).toNat=j:=by rw[TD (by lia) h4]at h1;rw[Uc,<-hl];exact PL h1
  exact SS (x:=w) pl.isList.typeIs slot_list_getitem.lookup
   (wpAny_getItem_list_neg (Q:=λr s'=>r=w/\EP X Pw σ Q r s') pl.isList (by lia) (by rw[Uc]<;>lia) (by lia) (by rw[hj];simpa using ew) ⟨rfl,fin⟩) hs
theorem JB:xT X (MT X.K):=by
 intro value slice Pw s σ H x y v u Q I rx ry h hs;obtain⟨p,xs,i,z,rfl,rfl,hq,he,q⟩:=h;cases rx;obtain⟨t,rfl⟩:=ry;obtain⟨its,r,pl,hz⟩:=I.tuple hq;obtain⟨j,h1,h2,h3,h4,h5⟩:=jt he;obtain⟨w,ew,rw'⟩:=r.get h2;have hl:=r.length;have hn:=lm;have fin:EP X Pw σ Q w s:=⟨z,H,I,rw',q⟩;exact SS (x:=w) pl.typeIs slot_tuple_getitem.lookup
  (getItem_tuple (j:=j) (Q:=λr s'=>r=w/\EP X Pw σ Q r s') pl (by lia) (by lia) (by rw[Uc,<-hl];exact h1) (by simpa using ew) ⟨rfl,fin⟩) hs
theorem JC:xT X MU:=by
 intro value slice Pw s σ H x y v u Q I rx ry h hs;obtain⟨z,i,c,rfl,rfl,hz,he,q⟩:=h;obtain⟨t,rfl⟩:=rx;obtain⟨t',rfl⟩:=ry;obtain⟨j,h1,h2,h3,h4,h5⟩:=jt he;have hl:z.cps.toList.length=z.length:=by simp[Str.length]
 rw[hl]at h1 h4 h5;have hn:=lm;exact tail_any (Rw s z t) slot_str_getitem.lookup (getItem_str (c:=c) (by
  have e1:decide (i< -(2 ^ 63:Int))=false:=PB (by lia);have e2:decide (i≥2 ^ 63)=false:=PB (by lia);rw[e1,e2,Wx]) (by rw[h1];simpa using h2) ⟨.str ⟨#[c]⟩,H,I.tok _,⟨_,rfl⟩,q⟩) hs
def rIx(K:Frag):R2:=λx y H Q=>MV K x y H Q\/MT K x y H Q\/MU x y H Q
theorem JD:xT X (rIx X.K):=Dh.or (JB.or JC)
theorem vI(its:List h9)(n j:Nat)(u:h9):QE (·.setIfInBounds j u) {cls:=.type "list",data:=.seq its.toArray n}={cls:=.type "list",data:=.seq (its.set j u).toArray n}:=by simp[QE]
theorem aJ.lst{Pw:PQ}{σ:St}{H:Hp}{s:PZ}{p:XB}{xs:List V}(I:aJ X Pw σ H s)(h:H p=some (.lst xs)):∃(its:List h9)(n:Nat),aZ xs its/\s.heap.get? p=some {cls:=.type "list",data:=.seq its.toArray n}/\xs.length<=fv:=by obtain⟨z,its,n,r,e⟩:=I.hok p _ h;exact⟨its,n,r,e,z⟩
theorem aJ.lstUpd{Pw:PQ}{σ:St}{H:Hp}{s:PZ}{p:XB}{xs ys:List V}{its its':List h9}{n n':Nat}{f:Obj->Obj}(I:aJ X Pw σ H s)(h:H p=some (.lst xs))(ho:s.heap.get? p=some {cls:=.type "list",data:=.seq its.toArray n})(hf:f {cls:=.type "list",data:=.seq its.toArray n}={cls:=.type "list",data:=.seq its'.toArray n'})(r:aZ ys its')(hz:ys.length<=fv)(t:Nat):aJ X Pw σ (upd H p (.lst ys)) {s with heap:=s.heap.update p f,toks:=t}:=by
 have e:(s.heap.update p f).get? p=some {cls:=.type "list",data:=.seq its'.toArray n'}:=by rw[Q9 f ho (by rw[hf]<;>rfl),hf]
 refine I.write (x:=p) (e:=p) (by rw[h];trivial) (.inl rfl) (λb u hb q=>(Q3 _ _ (Ne.symm hb)).trans q) ⟨_,e⟩ ?_;exact⟨hz,its',n',r,e⟩
def Hz:V->V->V->Hp->(Hp->Prop)->Prop:=λo i v H Q=>∃p xs k j,o=.ref p/\i=.int k/\H p=some (.lst xs)/\ixN xs.length k=some j/\Q (upd H p (.lst (xs.set j v)))
theorem Ad:N0 X Hz:=by
 intro Pw s σ H o i v ov iv u Q I ro ri rv h;obtain⟨p,xs,k,j,rfl,rfl,hp,hj,q⟩:=h;cases ro;obtain⟨t,rfl⟩:=ri;obtain⟨its,n,r,ho,hz⟩:=I.lst hp;obtain⟨h1,h2,h3,h4⟩:=xp hj;have hl:=r.length;have hn:=lm;have I':aJ X Pw σ (upd H p (.lst (xs.set j v))) {s with heap:=s.heap.update p (QE (·.setIfInBounds j u))}:=
  I.lstUpd hp ho (vI its n j u) (r.set rv j) (by rw[List.length_set];exact hz) s.toks
 by_cases h0:0<=k
 .have hk:k.toNat=j:=by rw[seqIndex_of h0 h4]at h1;exact PL h1
  exact PySem.W.ki_setAt ho h0 (by lia) (by rw[Uc,<-hl];exact h4) (by rw[hk];exact⟨_,I',q⟩)
 .have hk:(k+(its.toArray.size:Int)).toNat=j:=by rw[TD (by lia) h3]at h1;rw[Uc,<-hl];exact PL h1
  exact PySem.W.ki_setBack ho (by lia) (by rw[Uc,<-hl];exact h3) (by lia) (by rw[hk];exact⟨_,I',q⟩)
theorem qc(lo hi:Option Int)(n:Nat):(Ro lo hi none n).1=((HT.sIx n 0 lo:Nat):Int)/\(Ro lo hi none n).2.1=((HT.sIx n n hi:Nat):Int)/\(Ro lo hi none n).2.2=1:=by
 refine⟨?_,?_,rfl⟩
 .cases lo with
  |none=>simp[Ro,HT.sIx]
  |some i=>
   simp only[Ro,HT.sIx,WT,show(1:Int) > 0 by decide,if_true]
   by_cases h:i<0
   .simp only[h,if_true]<;>lia
   .simp only[h,if_false]<;>lia
 .cases hi with
  |none=>simp[Ro,HT.sIx]
  |some i=>
   simp only[Ro,HT.sIx,WT,show(1:Int) > 0 by decide,if_true]
   by_cases h:i<0
   .simp only[h,if_true]<;>lia
   .simp only[h,if_false]<;>lia
theorem nY(its:List h9)(lo hi:Option Int):slicePick its.toArray lo hi none=((its.drop (HT.sIx its.length 0 lo)).take (HT.sIx its.length its.length hi - HT.sIx its.length 0 lo)).toArray:=by obtain⟨h1,h2,h3⟩:=qc lo hi its.toArray.size;unfold slicePick;rw[h1,h2,h3];simp only[sliceRange_one,pick_run,Uc]<;>rfl
def OW(K:Frag):V->Option Int->Option Int->Hp->VK->Prop:=λx lo hi H Q=>∃a xs,x=.ref a/\aO K H a xs/\∀p,H p=none->Q (.ref p) (upd H p (.lst (cutV xs lo hi)))
theorem Cy:zC X (OW X.K):=by intro Pw s σ H x v vl vu lo hi sl Q I rx hs pl pu h;obtain⟨a,xs,rfl,hx,q⟩:=h;cases rx;obtain⟨its,r,ht,hz⟩:=I.list hx;have hlen:=r.length;refine⟨"list",_,slot_list_getitem.lookup,ht.isList.typeIs,?_⟩;refine wpAny_getItem_list_slice ht.isList hs pl pu .none (by simp) ?_ (by rw[Uc]<;>lia);rw[nY,<-hlen];refine⟨.ref s.heap.objs.size,_,I.laid (t':=s.toks) (o:=.lst (cutV xs lo hi)) (λb ob q=>PX _ q) (VO _) ?_,rfl,q _ (I.hok.fresh (VO _))⟩;exact⟨VR (lO xs lo hi) hz,_,0,(r.drop (HT.sIx xs.length 0 lo)).take (HT.sIx xs.length xs.length hi - HT.sIx xs.length 0 lo),P5 _ rfl⟩
def flatV:V->Bool
 | .non=>true
 | .bl _=>true
 | .int _=>true
 | .str _=>true
 |_=>false
def eqV:V->V->Bool
 | .non,.non=>true
 | .bl a,.bl b=>a == b
 | .bl a,.int b=>(if a then 1 else 0) == b
 | .int a,.bl b=>a == (if b then 1 else 0)
 | .int a,.int b=>a == b
 | .str a,.str b=>a == b
 |_,_=>false
theorem BI(ry:aQ y u)(rx:aQ x v)(fy:flatV y=true)(fx:flatV x=true):Tx A s u v (eqV y x):=by
 cases y with
 |non=>
  cases ry;cases x with
  |non=>cases rx;exact SeqAt.EqAt.same _
  |bl b=>cases rx;exact SeqAt.EqAt.none_bool b
  |int b=>obtain⟨t,rfl⟩:=rx;exact SeqAt.EqAt.none_int b t
  |str b=>obtain⟨t,rfl⟩:=rx;exact SeqAt.EqAt.none_str b t
  |_=>exact PK (show false=true from fx) Wr
 |bl a=>
  cases ry;cases x with
  |non=>cases rx;exact SeqAt.EqAt.bool_none a
  |bl b=>cases rx;exact SeqAt.EqAt.bool_bool a b
  |int b=>obtain⟨t,rfl⟩:=rx;exact SeqAt.EqAt.bool_int a b t
  |str b=>obtain⟨t,rfl⟩:=rx;exact SeqAt.EqAt.bool_str a b t
  |_=>exact PK (show false=true from fx) Wr
 |int a=>
  obtain⟨t',rfl⟩:=ry;cases x with
  |non=>cases rx;exact SeqAt.EqAt.int_none a t'
  |bl b=>cases rx;exact SeqAt.EqAt.int_bool a t' b
  |int b=>obtain⟨t,rfl⟩:=rx;exact SeqAt.EqAt.int_int a t' b t
  |str b=>obtain⟨t,rfl⟩:=rx;exact SeqAt.EqAt.int_str a t' b t
  |_=>exact PK (show false=true from fx) Wr
 |str a=>
  obtain⟨t',rfl⟩:=ry;cases x with
  |non=>cases rx;exact SeqAt.EqAt.str_none a t'
  |bl b=>cases rx;exact SeqAt.EqAt.str_bool a t' b
  |int b=>obtain⟨t,rfl⟩:=rx;exact SeqAt.EqAt.str_int a t' b t
  |str b=>obtain⟨t,rfl⟩:=rx;exact SeqAt.EqAt.str_str a t' b t
  |_=>exact PK (show false=true from fx) Wr
 |_=>exact PK (show false=true from fy) Wr
def uh(x:V)(u:h9):Bool:=match u with
 | .none=>eqV .non x
 | .bool b=>eqV (.bl b) x
 | .int i _=>eqV (.int i) x
 | .str z _=>eqV (.str z) x
 |_=>false
theorem v2(r:aQ y u)(f:flatV y=true):uh x u=eqV y x:=by
 cases y with
 |non=>cases r;rfl
 |bl b=>cases r;rfl
 |int i=>obtain⟨t,rfl⟩:=r;rfl
 |str z=>obtain⟨t,rfl⟩:=r;rfl
 |_=>exact PK (show false=true from f) Wr
theorem kN:∀{xs:List V}{us:List h9},aZ xs us->xs.all flatV=true->us.any (uh x)=xs.any λy=>eqV y x
 |_,_,.nil,_=>rfl
 |y::xs,u::us,.cons r t,f=>by rw[Uy,Ws]at f;rw[UQ,UQ,v2 r f.1,kN t f.2]
theorem hZ(rx:aQ x v)(fx:flatV x=true):∀{xs:List V}{us:List h9},aZ xs us->xs.all flatV=true->∀u∈us,Tx A s u v (uh x u)
 |_,_,.nil,_=>λu hu=>by cases hu
 |y::xs,u::us,.cons r t,f=>λu' hu=>by
  rw[Uy,Ws]at f
  rcases T8.mp hu with rfl|hu
  .rw[v2 r f.1];exact BI r rx f.1 fx
  .exact hZ rx fx t f.2 u' hu
def Dl(x:V)(xs:List V):Bool:=xs.any λy=>eqV y x
def wY(K:Frag)(neg:Bool):R2:=λx y H Q=>∃p xs,y=.ref p/\(aO K H p xs\/da K H p xs)/\flatV x=true/\xs.all flatV=true/\Q (.bl (if neg then !Dl x xs else Dl x xs)) H
theorem yQ:iJ X (Qs .In) (wY X.K false):=by
 intro Pw s σ H x y v u Q I rx ry h;obtain⟨p,xs,rfl,hq,fx,fs,q⟩:=h;cases ry
 rcases hq with hq|hq
 .obtain⟨its,r,pl,hz⟩:=I.list hq;refine SeqAt.in_listAt (uh x) pl.isList (λw hw=>hZ rx fx r fs w (by simpa using hw)) ⟨.bl _,H,I,rfl,?_⟩;rw[show its.toArray.any (uh x)=its.any (uh x) by simp,kN r fs];exact q
 .obtain⟨its,r,pl,hz⟩:=I.tuple hq;refine SeqAt.in_tupleAt (uh x) pl (λw hw=>hZ rx fx r fs w (by simpa using hw)) ⟨.bl _,H,I,rfl,?_⟩;rw[show its.toArray.any (uh x)=its.any (uh x) by simp,kN r fs];exact q
theorem qO:iJ X (Qs .NotIn) (wY X.K true):=by
 intro Pw s σ H x y v u Q I rx ry h;obtain⟨p,xs,rfl,hq,fx,fs,q⟩:=h;cases ry
 rcases hq with hq|hq
 .obtain⟨its,r,pl,hz⟩:=I.list hq;refine SeqAt.notIn_listAt (uh x) pl.isList (λw hw=>hZ rx fx r fs w (by simpa using hw)) ⟨.bl _,H,I,rfl,?_⟩;rw[show its.toArray.any (uh x)=its.any (uh x) by simp,kN r fs];exact q
 .obtain⟨its,r,pl,hz⟩:=I.tuple hq;refine SeqAt.notIn_tupleAt (uh x) pl (λw hw=>hZ rx fx r fs w (by simpa using hw)) ⟨.bl _,H,I,rfl,?_⟩;rw[show its.toArray.any (uh x)=its.any (uh x) by simp,kN r fs];exact q
theorem rJ:bx X (.builtin "len") (λxs H Q=>∃p ys,xs=[.ref p]/\(aO X.K H p ys\/da X.K H p ys)/\Q (.int ys.length) H):=by
 intro Pw s σ H xs us Q I r h;obtain⟨p,ys,rfl,hq,q⟩:=h;obtain⟨u,rfl,rx⟩:=dQ r;cases rx;have hn:=lm
 rcases hq with hq|hq
 .obtain⟨its,r',pl,hz⟩:=I.list hq;have hlen:=r'.length;exact Calls.call_len_list pl.isList (by simp only[Uc]<;>lia) ⟨.int ys.length,H,I.tok _,⟨s.toks+1,by rw[Uc,hlen]⟩,q⟩
 .obtain⟨its,r',pl,hz⟩:=I.tuple hq;have hlen:=r'.length;exact len_tuple pl (by simp only[Uc]<;>lia) ⟨.int ys.length,H,I.tok _,⟨s.toks+1,by rw[Uc,hlen]⟩,q⟩
theorem rH:bx X (.builtin "len") (λxs H Q=>∃z,xs=[.str z]/\z.length<=fv/\Q (.int z.length) H):=by intro Pw s σ H xs us Q I r h;obtain⟨z,rfl,hz,q⟩:=h;obtain⟨u,rfl,t,rfl⟩:=dQ r;have hn:=lm;exact len_str (by lia) ⟨.int z.length,H,I.tok _,⟨_,rfl⟩,q⟩
theorem bx.or(h:bx X f r)(h':bx X f r'):bx X f (λxs H Q=>r xs H Q\/r' xs H Q):=by
 intro Pw s σ H xs us Q I rs q
 rcases q with q|q
 .exact h Pw s σ H xs us Q I rs q
 .exact h' Pw s σ H xs us Q I rs q
theorem rG:bx X (.type "list") (λxs H Q=>∃p ys,xs=[.ref p]/\(aO X.K H p ys\/da X.K H p ys)/\∀l,H l=none->Q (.ref l) (upd H l (.lst ys))):=by
 intro Pw s σ H xs us Q I r h;obtain⟨p,ys,rfl,hq,q⟩:=h;obtain⟨u,rfl,rx⟩:=dQ r;cases rx;have fin:∀(its:List h9),aZ ys its->ys.length<=fv->∀(h':Qe)(c':Nat),(∀b o',s.heap.get? b=some o'->h'.get? b=some o')->
   h'.get? s.heap.objs.size=some {cls:=.type "list",dict:=none,data:=.seq its.toArray c',slots:= #[]}->EP X Pw σ Q (.ref s.heap.objs.size) {s with heap:=h'}:=λits r' hz h' c' kp e=>
  ⟨.ref s.heap.objs.size,_,I.laid (t':=s.toks) kp (VO _) (show bE X.prog X.w _ h' _ (.lst ys)from⟨hz,its,c',r',e⟩),rfl,q _ (I.hok.fresh (VO _))⟩
 rcases hq with hq|hq
 .obtain⟨its,r',pl,hz⟩:=I.list hq;have hlen:=r'.length;obtain⟨o,ho,hc,n,hd⟩:=pl.isList;exact call_list_seq p (.inl rfl) ho hc hd (λh' c' kp e=>fin its r' hz h' c' kp e) (by simp only[Uc]<;>lia)
 .obtain⟨its,r',pl,hz⟩:=I.tuple hq;have hlen:=r'.length;obtain⟨o,ho,hc,n,hd⟩:=pl;exact call_list_seq p (.inr rfl) ho hc hd (λh' c' kp e=>fin its r' hz h' c' kp e) (by simp only[Uc]<;>lia)
def Hm(K:Frag)(T:String)(x:V)(H:Hp):Prop:=match x with
 | .str _=>T="str"
 | .int _=>T="int"
 | .ref p=>(T="list"/\∃xs,aO K H p xs)\/(T="tuple"/\∃o,K.lookup p=some o/\o.cls=.type "tuple"/\o.dict=none)\/
   (T="dict"/\((∃kvs,H p=some (.dK kvs))\/∃kvs,H p=some (.dT kvs)))\/(T="set"/\∃S n,H p=some (.set S n))
 |_=>False
theorem jJ{Pw:PQ}{σ:St}{H:Hp}{s:PZ}{T:String}{x:V}{v:h9}(I:aJ X Pw σ H s)(r:aQ x v)(ty:Hm X.K T x H):s.TypeIs v T/\∀a,v=.ref a->∃ob,s.heap.get? a=some ob/\ob.dict=none:=by
 cases x with
 |str z=>
  obtain⟨t,rfl⟩:=r;cases(show T="str"from ty);exact⟨Rw s z t,λ_ e=>nomatch e⟩
 |int i=>
  obtain⟨t,rfl⟩:=r;cases(show T="int"from ty);exact⟨typeIs_int s i t,λ_ e=>nomatch e⟩
 |ref p=>
  cases r
  rcases ty with⟨rfl,xs,hq⟩|⟨rfl,o,hk,hc,hd⟩|⟨rfl,hk⟩|⟨rfl,S,n,hk⟩
  .obtain⟨its,_,pl,_⟩:=I.list hq;refine⟨pl.isList.typeIs,λa e=>?_⟩;cases e;obtain⟨o,n,e,c,hd,_⟩:=pl;exact⟨o,e,hd⟩
  .refine⟨⟨o,I.kIn p o hk,hc⟩,λa e=>?_⟩;cases e;exact⟨o,I.kIn _ o hk,hd⟩
  .have z:∃o,s.heap.get? p=some o/\o.ExactDict:=by
    rcases hk with⟨kvs,hk⟩|⟨kvs,hk⟩
    .obtain⟨_,_,_,_,o,_,_,e,ex,_⟩:=I.hok p _ hk;exact⟨o,e,ex⟩
    .obtain⟨_,_,_,_,o,_,_,e,ex,_⟩:=I.hok p _ hk;exact⟨o,e,ex⟩
   obtain⟨o,e,ex⟩:=z;refine⟨⟨o,e,ex.1⟩,λa e2=>?_⟩;cases e2;exact⟨o,e,ex.2.1⟩
  .obtain⟨o,_,_,_,e,ex,_⟩:=I.hok p _ hk;refine⟨⟨o,e,ex.1⟩,λa e2=>?_⟩;cases e2;exact⟨o,e,ex.2.1⟩
 |_=>exact False.elim ty
end
def Pq(X:Cx)(id:String)(r:V->List V->Hp->VK->Prop):Prop:=
 ∀(Pw:PQ)(s:PZ)(σ:St)(H:Hp)(x:V)(xs:List V)(v:h9)(us:List h9)(Q:VK),aJ X Pw σ H s->aQ x v->aZ xs us->r x xs H Q->
  P2 (P7 X.prog X.w) X.A (call (.builtin id) (v::us)) (EP X Pw σ Q) X.xe s
theorem aZ.one:∀{x:V}{us:List h9},aZ [x] us->∃u,us=[u]/\aQ x u
 |_,_,.cons r .nil=>⟨_,rfl,r⟩
theorem aZ.two:∀{x y:V}{us:List h9},aZ [x,y] us->∃u v,us=[u,v]/\aQ x u/\aQ y v
 |_,_,_,.cons r (.cons q .nil)=>⟨_,_,rfl,r,q⟩
section
variable{X:Cx}{Pw:PQ}{σ:St}{H:Hp}{s:PZ}{l b:XB}{xs ys zs:List V}
theorem aJ.lset{its its':List h9}{n:Nat}{f:Array h9->Array h9}{t':Nat}(I:aJ X Pw σ H s)(hH:H l=some (.lst xs))(e:s.heap.get? l=some {cls:=.type "list",data:=.seq its.toArray n})(hf:f its.toArray=its'.toArray)(hv:aZ ys its')(hz:ys.length<=fv):aJ X Pw σ (upd H l (.lst ys)) {s with heap:=s.heap.update l (QE f),toks:=t'}:=by have q:=PySem.IsL.update e f;rw[hf]at q;refine I.write (x:=l) (e:=l) (by rw[hH];exact trivial) (.inl rfl) (λb' u hb hu=>(Q3 s.heap (QE f) (Ne.symm hb)).trans hu) ⟨_,q⟩ ?_;exact⟨hz,its',_,hv,q⟩
theorem aJ.lnew(I:aJ X Pw σ H s)(hv:aZ ys its)(hz:ys.length<=fv):aJ X Pw σ (upd H s.heap.objs.size (.lst ys)) {s with heap:=s.heap.push {cls:=.type "list",data:=.seq its.toArray},toks:=t'}:=
 I.laid (λ_ _ q=>PX _ q) (VO _) ⟨hz,its,0,hv,P5 _ rfl⟩
theorem aJ.fresh(I:aJ X Pw σ H s):H s.heap.objs.size=none:=I.hok.fresh (VO _)
theorem aJ.lstM(I:aJ X Pw σ H s)(hH:H l=some (.lst xs)):xs.length<=fv/\∃(its:List h9)(n:Nat),aZ xs its/\xs.length=its.length/\s.heap.get? l=some {cls:=.type "list",data:=.seq its.toArray n}:=by obtain⟨z,its,n,r,e⟩:=I.hok l _ hH;exact⟨z,its,n,r,r.length,e⟩
theorem nj(h:n<=fv):RC n=false:=by unfold RC;exact PB (by lia)
end
section
def CO:V->List V->Hp->VK->Prop:=λx vs H Q=>∃l xs y,x=.ref l/\vs=[y]/\H l=some (.lst xs)/\xs.length<fv/\Q .non (upd H l (.lst (xs++[y])))
theorem yU:Pq X "list.append" CO:=by intro Pw s σ H x vs v us Q I rx rv h;obtain⟨l,xs,y,rfl,rfl,hH,hz,q⟩:=h;cases rx;obtain⟨u,rfl,ru⟩:=rv.one;obtain⟨z,its,n,r,hl,e⟩:=I.lstM hH;refine SV F.slot_list_append ⟨_,e,rfl⟩ F.entry_list_append (F.args_list_append_2 _ _) (PySem.list_append l its.toArray n u (by rw[Uc];lia)) ⟨e,?_⟩;refine⟨.non,_,I.lset (its':=its++[u]) hH e (by simp) (r.append (.cons ru .nil)) ?_,rfl,q⟩;rw[Uj,Vl];lia
def mi:V->List V->Hp->VK->Prop:=λx vs H Q=>∃l b xs zs,x=.ref l/\vs=[.ref b]/\H l=some (.lst xs)/\H b=some (.lst zs)/\xs.length+zs.length<=fv/\Q .non (upd H l (.lst (xs++zs)))
theorem yT:Pq X "list.extend" mi:=by
 intro Pw s σ H x vs v us Q I rx rv h;obtain⟨l,b,xs,zs,rfl,rfl,hH,hB,hz,q⟩:=h;cases rx;obtain⟨u,rfl,ru⟩:=rv.one;cases ru;obtain⟨z,its,n,r,hl,e⟩:=I.lstM hH;obtain⟨z2,its2,n2,r2,hl2,e2⟩:=I.lstM hB;have hsz:its.toArray.size+its2.toArray.size<=fv:=by rw[Uc,Uc];lia
 have hlong:¬(!its.toArray.isEmpty&&RC (its.toArray.size+its2.toArray.size))=true:=by rw[nj hsz,WA];exact Wr
 refine SV F.slot_list_extend ⟨_,e,rfl⟩ F.entry_list_extend (F.args_list_extend_2 _ _)
  (AutoSeq1.list_extend_list_list_0 l its.toArray n b its2.toArray n2 hlong (by rw[Uc];lia) (by lia)) ⟨e,e2,?_⟩
 refine⟨.non,_,I.lset (its':=its++its2) hH e (by simp) (r.append r2) ?_,rfl,q⟩;rw[Uj];lia
def IN:R2:=λx y H Q=>∃l b xs zs,x=.ref l/\y=.ref b/\H l=some (.lst xs)/\H b=some (.lst zs)/\xs.length+zs.length<=fv/\∀p,H p=none->Q (.ref p) (upd H p (.lst (xs++zs)))
theorem Jg:iJ X (RK .Add) IN:=by
 intro Pw s σ H x y v u Q I rx ry h;obtain⟨l,b,xs,zs,rfl,rfl,hH,hB,hz,q⟩:=h;cases rx;cases ry;obtain⟨z,its,n,r,hl,e⟩:=I.lstM hH;obtain⟨z2,its2,n2,r2,hl2,e2⟩:=I.lstM hB;refine PySem.P.add_list e e2 ?_ (by rw[Uc,Uc];lia);have ea:its.toArray++its2.toArray=(its++its2).toArray:=by simp
 rw[ea];exact⟨.ref _,_,I.lnew (t':=s.toks) (r.append r2) (by rw[Uj];lia),rfl,q _ I.fresh⟩
end
section
theorem wg{a c n:Nat}(hac:a<=c)(hc:c<=n):Ro (some (a:Int)) (some (c:Int)) none n=((a:Int),(c:Int),1):=by
 simp only[Ro,WT];have h1:¬((a:Int)<0):=by lia
 have h2:¬((c:Int)<0):=by lia
 simp only[h1,h2,if_false,show(1:Int) > 0 by decide,if_true];congr 1
 .lia
 .congr 1;lia
set_option maxRecDepth 100000 in
theorem Ce{items new:Array h9}{n n2:Nat}{vl vu:h9}{a c:Nat}(e:s.heap.get? l=some {cls:=.type "list",data:=.seq items n})(e2:s.heap.get? b=some {cls:=.type "list",data:=.seq new n2})(hne:l≠b)(hs:s.heap.IsSliceOf sl vl vu .none)(pl:T6 vl (some (a:Int)))(pu:T6 vu (some (c:Int)))(hac:a<=c)(hc:c<=items.size)(hsz:items.size+new.size<=fv)(h:Q () {s with heap:=s.heap.update l (QE λxs=>xs.extract 0 a++new++xs.extract c xs.size)}):P2 (P7 prog w) A (setItem (.ref l) (.ref sl) (.ref b)) Q E s:=by
 have hl:s.heap.IsList l items:=PySem.IsL.isList e;have hb:s.heap.IsList b new:=PySem.IsL.isList e2;obtain⟨os,hos,hcs,hds⟩:=id hs;have hTs:s.TypeIs (.ref sl) "slice":=⟨os,hos,hcs⟩;have hstep:¬((rawPart none == RA 0)=true):=Wr;have hsame:QK (.ref l) (.ref b)=false:=by unfold QK;exact beq_eq_false_iff_ne.mpr hne
 have hmax:(max (a:Int) (c:Int)).toNat=c:=by lia
 have hz':((λxs:Array h9=>xs.extract 0 a++new++xs.extract c xs.size) items).size<=fv+1:=by simp only[WO,Array.size_extract];lia
 unfold setItem
 try with_reducible refine Qa ?_
 first|refine PU (PV ?_)|skip
 refine PU (wpAny_sequenceKey hl.typeIs (by decide) ?_);refine PU (Qq (name:=QC "__setitem__") hl.typeIs slot_list_setitem
  (Qp slot_list_setitem hl.typeIs entry_list_setitem ?_ (args_list_setitem _ _ _)))
 show P2 _ _ (R5 (.ref sl) >>= _) _ _ s;refine PU ?_;unfold R5;refine PU (Rp hTs slice_no_index ?_);simp only[Option.isNone_none,if_true];refine PV ?_;show P2 _ _ (TZ (.ref sl) >>= _) _ _ s;refine PU (Re hTs ?_)
 first
  |rw[PD (by decide)]
  |refine PySem.W.KFB.if_not (by decide) ?_
 rw[listSliceParts_eq];refine PU (PU (Rg hos hds (x:=.none) rfl (PU (Te .none ?_))));rw[PD hstep];refine PU (Rg hos hds (x:=vl) rfl (PU (Te pl ?_)));refine PU (Rg hos hds (x:=vu) rfl (PU (Te pu (PV ?_))))
 first
  |simp only[hsame,Wt,if_false]
  |refine PySem.W.KFB.if_not hsame ?_
  |(dsimp only
    rw[PD (by rw[hsame];exact Wr)])
 refine PU (m:=Sr (.ref b) "must assign iterable to extended slice") ?_;unfold Sr;refine PU (Re hb.typeIs ?_)
 first
  |refine PySem.W.KFB.if_so (by decide) ?_
  |rw[PF (by decide)]
  |simp only[beq_self_eq_true,Bool.true_or,if_true]
 unfold Builtin.List.listItems;refine PU (QV e2 rfl (PV ?_));refine PU (PU (QV e rfl (PV ?_)));refine PU (Ss ((sliceIndices_raw (some (a:Int)) (some (c:Int)) none items.size (by simp)).trans (PM (pure:Int×Int×Int->Sem (Int×Int×Int)) (wg hac hc))) ?_);show P2 _ _ (if((1:Int) == 1)=true then _ else _) _ _ s;rw[PF (by decide)];refine PU (wpAny_rule ?_)
 first
  |simp only[nj hsz,Wt,if_false]
  |refine PySem.W.KFB.if_not (nj hsz) ?_
 first|refine PU (PV ?_)|skip
 show P2 _ _ (updateSeq l (λxs=>xs.extract 0 ((a:Int)).toNat++new++xs.extract (max (a:Int) (c:Int)).toNat xs.size) >>= _) _ _ s;rw[hmax,Wd];refine PU (SY (hz:=VR (VW _ _) hsz) (_hz':=hz') e rfl ?_);refine PU (wpAny_letGo ?_)
 first
  |exact PU (PV (PV ⟨.none,rfl,PV h⟩))
  |exact PV ⟨.none,rfl,PV h⟩
end
section
variable{κ:Type}[DecidableEq κ]
def valV(kvs:List (κ×V))(k:κ):Option V:=(kvs.find? λkv=>decide (kv.1=k)).map (·.2)
def mY(kvs:List (κ×V))(k:κ)(v:V):List (κ×V):=
 if(kvs.any λkv=>decide (kv.1=k))=true then kvs.map (λkv=>if kv.1=k then(kv.1,v)else kv)else kvs++[(k,v)]
theorem cR{p:κ×V}{r:List (κ×V)}{k:κ}(e:p.1=k):valV (p::r) k=some p.2:=by simp[valV,UT,e]
theorem cS{p:κ×V}{r:List (κ×V)}{k:κ}(e:¬p.1=k):valV (p::r) k=valV r k:=by simp[valV,UT,e]
theorem mx(k:κ):∀kvs:List (κ×V),(kvs.any λkv=>decide (kv.1=k))=(valV kvs k).isSome
 | []=>rfl
 |p::r=>by
  rw[UQ]
  by_cases e:p.1=k
  .simp only[cR e,Pz e,Bool.true_or,Option.isSome_some]
  .rw[cS e,PB e,Bool.false_or];exact mx k r
theorem r0(k j:κ)(y:V):∀kvs:List (κ×V),valV (kvs.map λkv=>if kv.1=k then(kv.1,y)else kv) j=(valV kvs j).map λx=>if j=k then y else x
 | []=>rfl
 |p::r=>by
  have ih:=r0 k j y r;rw[Uw]
  by_cases h:p.1=k
  .rw[PF h]
   by_cases e:p.1=j
   .rw[cR (p:=(p.1,y)) e,cR e,WR,PF (e.symm.trans h)]
   .rw[cS (p:=(p.1,y)) e,cS e,ih]
  .rw[PD h]
   by_cases e:p.1=j
   .rw[cR (p:=p) e,cR e,WR,PD (λz=>h (e.trans z))]
   .rw[cS (p:=p) e,cS e,ih]
theorem oG(k j:κ)(y:V):∀kvs:List (κ×V),valV kvs k=none->valV (kvs++[(k,y)]) j=if j=k then some y else valV kvs j
 | [],_=>by
   by_cases e:k=j
   .rw[PF e.symm];exact cR (p:=(k,y)) e
   .rw[PD (λz=>e z.symm)];exact cS (p:=(k,y)) e
 |p::r,hn=>by
  rw[List.cons_append];have hk:¬p.1=k:=λz=>by rw[cR z]at hn;cases hn
  rw[cS hk]at hn;have ih:=oG k j y r hn
  by_cases e:p.1=j
  .rw[cR e,cR e,PD (λz=>hk (e.trans z))]
  .rw[cS e,cS e,ih]
theorem rZ(kvs:List (κ×V))(k j:κ)(y:V):valV (mY kvs k y) j=if j=k then some y else valV kvs j:=by
 unfold mY
 by_cases a:(kvs.any λkv=>decide (kv.1=k))=true
 .rw[PF a,r0];rw[mx]at a
  by_cases e:j=k
  .obtain⟨x,hx⟩:=WS.mp a;rw[PF e,e,hx,WR,PF rfl]
  .rw[PD e];cases valV kvs j with
   |none=>rfl
   |some x=>rw[WR,PD e]
 .rw[PD a];refine oG k j y kvs ?_;rw[mx]at a;cases q:valV kvs k with
  |none=>rfl
  |some x=>rw[q]at a;exact(a rfl).elim
theorem tV(kvs:List (κ×V))(k:κ)(v:V):(mY kvs k v).length<=kvs.length+1:=by
 unfold mY;split
 .rw[T7];lia
 .rw[Uj,Ut,List.length_nil];lia
theorem kO.getD(r:kO o u)(rd:aQ d d'):aQ (o.getD d) (u.getD d'):=by
 cases o with
 |none=>cases u with
  |none=>exact rd
  |some _=>exact(show False from r).elim
 |some _=>cases u with
  |none=>exact(show False from r).elim
  |some _=>exact r
theorem KV.val{kvs:List (κ×V)}{vs:List (κ×h9)}(r:KV kvs vs)(k:κ):kO (valV kvs k) (TB vs k):=by
 unfold KV at r
 induction r with
 |nil=>exact True.intro
 | @cons p q ps qs h t ih=>
   obtain⟨h1,h2⟩:=h
   by_cases e:p.1=k
   .have e':q.1=k:=h1.symm.trans e;have b:TB (q::qs) k=some q.2:=by simp[TB,UT,e']
    rw[cR e,b];exact h2
   .have e':¬q.1=k:=λz=>e (h1.trans z);have b:TB (q::qs) k=TB qs k:=by simp[TB,UT,e']
    rw[cS e,b];exact ih
theorem KV.any{kvs:List (κ×V)}{vs:List (κ×h9)}(r:KV kvs vs)(k:κ):(kvs.any λkv=>decide (kv.1=k))=vs.any λkv=>decide (kv.1=k):=by
 unfold KV at r
 induction r with
 |nil=>rfl
 |cons h t ih=>rw[UQ,UQ,ih,h.1]
theorem KV.repl{kvs:List (κ×V)}{vs:List (κ×h9)}(r:KV kvs vs)(k:κ){y:V}{u:h9}(ry:aQ y u):KV (kvs.map λkv=>if kv.1=k then(kv.1,y)else kv) (vs.map λkv=>if kv.1=k then(kv.1,u)else kv):=by
 unfold KV at r ⊢
 induction r with
 |nil=>exact .nil
 | @cons p q ps qs h t ih=>
   rw[Uw,Uw];refine .cons ?_ ih;obtain⟨h1,h2⟩:=h
   by_cases e:p.1=k
   .rw[PF e,PF (h1.symm.trans e)];exact⟨h1,ry⟩
   .rw[PD e,PD (λz=>e (h1.trans z))];exact⟨h1,h2⟩
theorem KV.put{kvs:List (κ×V)}{vs:List (κ×h9)}(r:KV kvs vs)(k:κ){y:V}{u:h9}(ry:aQ y u):KV (mY kvs k y) (T0 vs k u):=by
 unfold mY T0;rw[r.any k]
 by_cases e:(vs.any λkv=>decide (kv.1=k))=true
 .rw[PF e,PF e];exact r.repl k ry
 .rw[PD e,PD e];exact Paired.snoc r ⟨rfl,ry⟩
end
theorem Bd(r:aQ (kV k) u):(cz P w).is k u=true:=by
 cases k with
 |inl i=>obtain⟨t,e⟩:=(show∃t,u=Ry i t from r);subst e;exact tR P w i t
 |inr x=>obtain⟨t,e⟩:=(show∃t,u=R7 x t from r);subst e;exact tQ P w x t
theorem pA:∀{ks:List Key}{us:List h9},aZ (ks.map kV) us->ItemsAre (cz P w) ks us
 | [],_,r=>by rw[UZ]at r;cases r;exact .nil
 |k::ks,_,r=>by
  rw[Uw]at r;cases r with
  |cons h t=>exact .cons (Bd h) (pA t)
abbrev KT(H:Hp):List (List Key×V)->List (List Key×XB×h9)->Prop:=T5 λp q=>p.1=q.1/\H q.2.1=some (.tup (p.1.map kV))/\aQ p.2 q.2.2
theorem KT.val(r:KT H kvs xs)(k:List Key):kO (valV kvs k) ((atKey xs k).map (·.2)):=by
 induction r with
 |nil=>exact True.intro
 | @cons p q ps qs h t ih=>
   obtain⟨h1,_,h2⟩:=h
   by_cases e:p.1=k
   .have e':q.1=k:=h1.symm.trans e;have b:atKey (q::qs) k=some q.2:=by simp[atKey,UT,e']
    rw[cR e,b];exact h2
   .have e':¬q.1=k:=λz=>e (h1.trans z);have b:atKey (q::qs) k=atKey qs k:=by simp[atKey,UT,e']
    rw[cS e,b];exact ih
section
theorem Hv(ok:jT P w H h)(e:Rd H a u):bE P w H h a u:=e.ok ok
theorem HS(ok:jT P w H h)(e:Rd H a (.dK kvs)):kvs.length<=fv/\(a == RF)=false/\∃vs,KV kvs vs/\h.DictOf (cz P w) a vs:=
 show bE P w H h a (.dK kvs)from Hv ok e
theorem Ba(ok:jT P w H h)(e:H a=some (.tup (ks.map kV))):(Ti (cz P w)).is h ks a:=by obtain⟨_,its,r,o,h1,h2,n,h3⟩:=(show bE P w H h a (.tup (ks.map kV))from ok a _ e);exact⟨o,its.toArray,n,h1,h2,h3,by simpa using pA r⟩
theorem HR(ok:jT P w H h)(e:Rd H a (.dT kvs)):kvs.length<=fv/\(a == RF)=false/\∃xs,KT H kvs xs/\h.DictOfH (Ti (cz P w)) a xs:=by
 obtain⟨z,y,xs,r,o,es,ep,h1,h2,h3,h4,h5⟩:=(show bE P w H h a (.dT kvs)from Hv ok e);refine⟨z,y,xs,r,o,es,ep,h1,h2,h3,h4,λx hx=>?_,h5⟩;have all:∀{l:List (List Key×V)}{m:List (List Key×XB×h9)},KT H l m->∀x∈m,(Ti (cz P w)).is h x.1 x.2.1:=by
  intro l m q
  induction q with
  |nil=>intro x hx;exact nomatch hx
  | @cons p q ps qs hq t ih=>
    intro x hx
    rcases T8.mp hx with e|hx
    .subst e;exact Ba ok (by rw[<-hq.1];exact hq.2.1)
    .exact ih x hx
 exact all r x hx
end
def N4(H:Hp)(a:XB)(y:V)(r:Option V):Prop:=
 (∃kvs k,Rd H a (.dK kvs)/\y=kV k/\r=valV kvs k)\/∃kvs k b,Rd H a (.dT kvs)/\y=.ref b/\H b=some (.tup (k.map kV))/\r=valV kvs k
section
variable{X:Cx}{Pw:PQ}{σ:St}{H:Hp}{s:PZ}
theorem aJ.big(I:aJ X Pw σ H s):RF<s.heap.objs.size:=by have h:P3<s.heap.objs.size:=(I.mod.glob.keeps I.bk).lt;exact V2 (by decide) h
theorem JY(z:kvs.length<=fv)(hd:(a == RF)=false)(rel:KV kvs vs)(dd:h'.DictOf (cz P w) a vs):bE P w H' h' a (.dK kvs):=⟨z,hd,vs,rel,dd⟩
end
structure M1(X:Cx)(o:Qx)(m:Str)(apos:So)(e:Qx)(cpos:So):Prop where
 Px:Qw o m X.env (Qk o X.env)=Qk o X.env
 few:((Qh cpos (P1 [e] X.env)).all (λx=> !x.1)&&(RB cpos (Q7 [] X.env)).all (λx=>x.1.isSome)
  &&decide (([e]:List Qx).length+([]:List Q0).length+(if([]:List Q0).isEmpty then 0 else 1)<30))=true
 line:(apos.endLine == cpos.line)=true
 trees:Qh cpos (P1 [e] X.env)=[(false,Qk e X.env)]
structure M2(X:Cx)(o:Qx)(m:Str)(apos:So)(e f:Qx)(cpos:So):Prop where
 Px:Qw o m X.env (Qk o X.env)=Qk o X.env
 few:((Qh cpos (P1 [e,f] X.env)).all (λx=> !x.1)&&(RB cpos (Q7 [] X.env)).all (λx=>x.1.isSome)
  &&decide (([e,f]:List Qx).length+([]:List Q0).length+(if([]:List Q0).isEmpty then 0 else 1)<30))=true
 line:(apos.endLine == cpos.line)=true
 trees:Qh cpos (P1 [e,f] X.env)=[(false,Qk e X.env),(false,Qk f X.env)]
def IsD(H:Hp)(a:XB):Prop:=(∃kvs,Rd H a (.dK kvs))\/∃kvs,Rd H a (.dT kvs)
theorem JF{X:Cx}{Pw:PQ}{σ:St}{H:Hp}{s:PZ}{a:XB}(I:aJ X Pw σ H s)(d:IsD H a):s.TypeIs (.ref a) "dict"/\(∀b,P8 a=.ref b->∃ob,s.heap.get? b=some ob/\ob.dict=none)/\(a == RF)=false:=by
 rcases d with⟨kvs,e⟩|⟨kvs,e⟩
 .obtain⟨_,hd,vs,_,dd⟩:=HS I.hok e;refine⟨dd.typeIs,λb q=>?_,hd⟩;cases q;obtain⟨ob,_,_,h1,h2,_⟩:=dd;exact⟨ob,h1,h2.2.1⟩
 .obtain⟨_,hd,xs,_,dd⟩:=HR I.hok e;refine⟨dd.typeIs,λb q=>?_,hd⟩;cases q;obtain⟨ob,_,_,h1,h2,_⟩:=dd;exact⟨ob,h1,h2.2.1⟩
section
variable{X:Cx}{Pw:PQ}{σ:St}{H:Hp}{s:PZ}{a:XB}{y d:V}{u r:h9}{o:Option V}{A:QD}{E:PP}
theorem JZ(hu:A.units+1<QT)(I:aJ X Pw σ H s)(g:N4 H a y o)(ry:aQ y u)(h:∀w' s',aJ X Pw σ H s'->aQ (o.getD .non) w'->Q w' s'):P2 (P7 X.prog X.w) A (call (.builtin "dict.get") [.ref a,u]) Q E s:=by
 rcases g with⟨kvs,k,e,ey,l⟩|⟨kvs,k,b,e,ey,eb,l⟩
 .subst ey;obtain⟨z,hd,vs,rel,dd⟩:=HS I.hok e;refine call_meetsIn PySem.F.slot_dict_get dd.typeIs PySem.F.entry_dict_get (PySem.F.args_dict_get_2 _ _) (meets_dict_get (cz X.prog X.w) a (Bd ry) hd) ⟨_,dd.mapOf,h _ _ (I.tok _) ?_⟩;rw[l];exact(rel.val k).getD rfl
 .subst ey;cases(show u=P8 b from ry);obtain⟨z,hd,xs,rel,dd⟩:=HR I.hok e;refine call_meetsIn PySem.F.slot_dict_get dd.typeIs PySem.F.entry_dict_get (PySem.F.args_dict_get_2 _ _) (meetsH_dict_get (Ti (cz X.prog X.w)) a b hd) ⟨tupleKind_room_in1 hu,k,xs,Ba I.hok eb,dd,h _ _ (I.tok _) ?_⟩;rw[l];exact(rel.val k).getD rfl
end
def uV(td ty:TE):TE:=λσ H Q=>td σ H λx H1=>∃a,x=.ref a/\IsD H1 a/\ty σ H1 λy H2=>∃o,N4 H2 a y o/\Q (o.getD .non) H2
section
theorem AM(hu:X.A.units+1<QT)(ho:PE X o td)(he:PE X e ty)(m:M1 X o "get" apos e cpos):PE X (.Call (.Attribute o "get" apos) [e] [] cpos) (uV td ty):=by intro Pw s σ H Q I h;refine wpAny_Call_method m.Px m.few m.line PySem.F.plainAttrs_dict PySem.F.slot_dict_get PySem.F.type_dict_get (bL (ho Pw s σ H _ I h) λu s1 ⟨x,H1,I1,rx,a,ex,d,q1⟩=>?_);subst ex;obtain rfl:u=P8 a:=rx;obtain⟨t1,t2,_⟩:=JF I1 d;refine⟨t1,t2,?_⟩;rw[m.trees];refine Qu rfl (QA (QM (bL (he Pw s1 σ H1 _ I1 q1) λiv s2 ⟨y,H2,I2,ry,ov,g,q2⟩=>Ri ?_)));exact JZ hu I2 g ry λw' s3 I3 rw'=>⟨_,H2,I3,rw',q2⟩
end
end L2
namespace Att
open PySem PySem.W PySem.Calls PyProof.Rows
theorem l7:∀(ns:List Int)(vs:List h9),WellAll P h vs (ns.map WData.int)->Tk vs ns:=by
 intro ns
 induction ns with
 |nil=>
  intro vs w;rw[UZ]at w;cases w;exact .nil
 |cons n ns ih=>
  intro vs w;rw[Uw]at w;cases w with
  |cons a b=>
   cases a;exact .cons _ _ (ih _ b)
theorem ym{l:OpenLaw}{n:Nat}(hn:l.most=some n){P:Sk}{h:Qe}{args:List WData}{vals:List h9}(hpre:l.row.toRowW.claim.pre args=true)(hwl:WellAll P h vals args):∃a vs ns,vals=[P8 a]/\args=[WData.list (ns.map WData.int)]/\h.get? a=some {cls:=.type "list",data:=.seq vs.toArray}/\Tk vs ns/\ns.length<=n:=by
 have hsh:WShape.hasAll [] args [.list .int]=true:=(pre_splitW hpre).1;have hc:l.pre.holds [] {args:=args}=true:=(pre_splitW hpre).2;obtain⟨d,r,rfl,h1,h2⟩:=hasAllW_cons hsh;obtain rfl:=hasAllW_nil h2;obtain⟨xs,rfl,h3⟩:=hasW_list h1;obtain⟨ns,rfl⟩:=items_int h3;have hlen:ns.length<=n:=by
  unfold OpenLaw.pre at hc;have h4:(WTm.not (.lt (.lit (.int (n:Int))) (.len (.arg 0)))).holds [] {args:=[.list (ns.map .int)]}=true:=by have h4:=(holds_andW hc).1;rw[hn]at h4;exact h4
  have h5:=condW_of h4 (w_not (w_lt w_lit (w_len_list (w_arg rfl))));rw[T7]at h5;refine Nat.le_of_not_lt λq=>?_;have q':(n:Int)<((ns.length:Nat):Int):=by lia
  first
   |(rw[Pz q']at h5;exact PK h5 (by decide))
   |(simp at h5;lia)
 cases hwl with
 |cons w1 w2=>
  cases w2;cases w1 with
  |list ho hall=>exact⟨_,_,ns,rfl,rfl,ho,l7 ns _ hall,hlen⟩
theorem yG(l:OpenLaw)(args:List WData):l.row.toRowW.claim.post args (.bool true) args=true:=
 postW_of (r:=l.row.toRowW) (X:=(true == true))
  (show WShape.has [] (.bool true) .bool=true by first|rfl|decide|simp[WShape.has,WShape.arms,WShape.armsAll])
  (show(WTm.eq .res (.lit (.bool true))).value [] {args:=args,res:=some (.bool true),after:=args}=some (.bool (true == true))from w_eq_bool (w_res rfl) w_lit) rfl
theorem attach_call{l:OpenLaw}{n:Nat}{q:P6}{loose:List Str}{XP:(PN)->Qe->Prop}{YP:P9->Qe->Prop}{d:DefRec}(hn:l.most=some n)(hdf:d.params.defaults=[])(call:∀(w:P9)(s₀ s₁:PZ)(mg mb:PN)(fa:XB)(o:Obj)(pm cd doc:h9)(a:XB)(vs:List h9)(ns:List Int),
   Ground q loose [] XP w s₀ mg mb s₁.heap->YP w s₁.heap->
   s₁.heap.get? fa=some o->o.data=.func (docDef d.name d.params d.body d.scope pm cd doc)->s₁.heap.CodeRec cd d.name->mg d.name=some (.ref fa)->
   s₁.heap.get? a=some {cls:=.type "list",data:=.seq vs.toArray}->Tk vs ns->ns.length<=n->s₁.gens= #[]->
   Rr (P7 l.prog w) Tj (.call (.ref fa) ⟨[.ref a],[]⟩) (λr s'=>r=.ok (.ret (.bool true))/\OldK s₁.heap s'.heap/\s'.os=s₁.os/\RW s'.gens) s₁):WalkO q loose XP YP l.row.toRowW d [] (λf vs=>PySem.call f vs):=by
 intro w s₀ s₁ mg mb G Y fa o pm cd doc dV kV ho hd hcd hD hmg hg args vals as hpre hlay hrd hwl hlo;obtain rfl:dV=.none:=Dflts.none hD hdf;obtain rfl:kV=.none:=Dflts.noKw hD;obtain⟨a,vs,ns,rfl,rfl,hobj,hints,hlen⟩:=ym hn hpre hwl;refine enter_call (QP (call w s₀ s₁ mg mb fa o pm cd doc a vs ns G Y ho (fd_plain hd) hcd hmg hobj hints hlen hg) λr s' hq=>?_);obtain⟨rfl,h2,h3,h4⟩:=hq;exact⟨.inl ⟨.bool true,.bool true,[],rfl,λ_=>rfl,.bool true,yG l _,λ_=>⟨List.Pairwise.nil,λ_ hm=>(nomatch hm)⟩⟩,h2,h3,h4⟩
end Att
namespace L2
open PySem PySem.Spec PyProof.Rows
theorem kW:∀{vs:List h9}{ns:List Int},Tk vs ns->aZ (ns.map V.int) vs
 |_,_,.nil=>.nil
 |_,_,.cons n t h=>.cons ⟨t,rfl⟩ (kW h)
def Ki(H:Hp):Prop:= ∀b,H b=none\/∃o xs,H b=some (.frz o (.lst xs))
theorem A7{P:P6}{w:P9}{K:Frag}{mg mb:PN}{CX:zA}{k:Nat}{fa a:XB}{fd:Qf}{x:Str}{sp:Sp}{s₁:PZ}{vs:List h9}{ns:List Int}(KX:K.In s₁.heap)(hns:s₁.heap.Ns P3 mg)(hb:s₁.heap.Ns builtinsNs mb)(hbb:∀x:Str,x≠"__name__"->mb x=Qc x)(hlim:s₁.heap.NoLimit)(hg:s₁.gens= #[])(ha:s₁.heap.get? a=some {cls:=.type "list",data:=.seq vs.toArray})(hi:Tk vs ns)(hl:ns.length<=fv)(hr:cK k Tj)(F:∀Px:Qe,K.In Px->Px.Ns P3 mg->bh P w K mg Px CX k fa fd [x] sp)(hbind:∀(s:PZ)(u:h9),Tl s fd ⟨[u],[]⟩ [(x,u)])(hsp:∀H:Hp,Ki H->aO K H a (ns.map V.int)->sp [.ref a] H (λv _=>v=.bl true) λ_ _ _=>False)(hCX:∀H e s',CX [] H s₁ (λ_ _ _=>False) e s'->False):Rr (P7 P w) Tj (.call (.ref fa) ⟨[.ref a],[]⟩) (λr s'=>r=.ok (.ret (.bool true))/\OldK s₁.heap s'.heap/\s'.os=s₁.os/\RW s'.gens) s₁:=by
 have rv:=kW hi;have lenV:=hi.length;have core:∀H:Hp,Ki H->aO K H a (ns.map V.int)->jT P w H s₁.heap->(∀b,H b≠none->b=a)->(H a≠none->K.lookup a=none)->
   Rr (P7 P w) Tj (.call (.ref fa) ⟨[.ref a],[]⟩) (λr s'=>r=.ok (.ret (.bool true))/\OldK s₁.heap s'.heap/\s'.os=s₁.os/\RW s'.gens) s₁:=by
  intro H hO hS hok hA hK;have base_of:∀{b:XB}{o:Obj},s₁.heap.get? b=some o->H b=none->(rp s₁.heap H).get? b=some o:=λe n=>Bi e n;have noA:∀{b:XB}{o:Obj}{es:Array DictEntry}{ep:Nat},s₁.heap.get? b=some o->o.data=.dict es ep->H b=none:=λ{b o es ep} e d=>by
   cases q:H b with
   |none=>rfl
   |some u=>
    have e':b=a:=hA b (by rw[q];simp);subst e';rw[ha]at e;cases e;have d':Data.seq vs.toArray _=Data.dict es ep:=d;cases d'
  have nsK:∀{b:XB}{m:PN},s₁.heap.Ns b m->(rp s₁.heap H).Ns b m:=λ{b m} ⟨o,es,ep,e,d,r⟩=>⟨o,es,ep,base_of e (noA e d),d,r⟩;have hKb:K.In (rp s₁.heap H):=λb o e=>base_of (KX b o e) (by
   cases q:H b with
   |none=>rfl
   |some u=>
    have e':b=a:=hA b (by rw[q];simp);subst e';rw[hK (by rw[q];simp)]at e;cases e)
  have hM:Mod K mg (rp s₁.heap H):=⟨hKb,nsK hns,⟨mb,nsK hb,hbb⟩,let ⟨mc,h1,h2⟩:=hlim;⟨mc,nsK h1,h2⟩⟩;have e0:rR P w K mg (rp s₁.heap H) Tj [] s₁ H:=⟨rfl,hM,λb o e=>C6 e,VY (y9 _ _),trivial,λb hb=>PK (show b∈([]:List XB)from hb) (by simp),hok,.of_eq hg⟩;refine QP ((F _ hKb (nsK hns)).run Tj [] s₁ H ⟨[.ref a],[]⟩ [.ref a] [.ref a] _ _ hr e0 (hbind s₁ (.ref a)) (.cons rfl .nil) (hsp H hO hS)) λr s' h=>?_;cases r with
  |error e=>exact(hCX H e s' h).elim
  |ok fl=>
   cases fl with
   |next=>exact False.elim h
   |brk=>exact False.elim h
   |cont=>exact False.elim h
   |ret u=>
    obtain⟨v,H',os,bare,un,hok',r',q⟩:=h;have q':v=.bl true:=q;subst q';obtain rfl:u=Tw true:=r';refine⟨rfl,OldK.of_keep λb o e=>?_,os,bare⟩;cases q:H b with
    |none=>exact un.keep b o e q (by intro z;exact PK (show b∈([]:List XB)from z) (by simp)) (by simp)
    |some u=>
     rcases hO b with z|⟨ob,xs,z⟩
     .rw[q]at z;cases z
     .have z2:=un.frzs b ob _ z;obtain⟨e1,_⟩:=hok b _ z;obtain⟨e2,_⟩:=hok' b _ z2;rw[e]at e1;cases e1;exact e2
 cases hk:K.lookup a with
 |some o=>
  have e:=KX a o hk;rw[ha]at e;cases e;refine core (λ_=>none) (λ_=>.inl rfl) (.inr ⟨_,vs.toArray,_,hk,rfl,rfl,rfl,by rw[Uc,lenV];exact hl,by simpa using rv⟩) (λb u z=>by have z':(none:Option HO)=some u:=z;cases z') (λb z=>PK rfl z) λz=>PK rfl z
 |none=>
  refine core (λb=>if b=a then some (.frz {cls:=.type "list",data:=.seq vs.toArray} (.lst (ns.map V.int)))else none) (λb=>?_) (.inl (.inr ⟨{cls:=.type "list",data:=.seq vs.toArray},PF rfl⟩)) (λb u z=>?_) (λb z=>?_) λ_=>hk
  .by_cases hb:b=a
   .exact .inr ⟨_,_,PF hb⟩
   .exact .inl (PD hb)
  .by_cases hb:b=a
   .have z':=(PF hb).symm.trans z;cases z';subst hb;exact⟨ha,by rw[T7];exact hl,vs,_,rv,ha⟩
   .have z':=(PD hb).symm.trans z;cases z'
  .by_cases hb:b=a
   .exact hb
   .exact PK (PD hb) z
theorem Cn{l:PySem.W.OpenLaw}{n k:Nat}{q:P6}{loose:List Str}{XP:(PN)->Qe->Prop}{YP:P9->Qe->Prop}{d:DefRec}{K:Sk->Frag}{CX:P9->zA}{sp:P9->Sp}{x:Str}(hn:l.most=some n)(hn2:n<=fv)(hdf:d.params.defaults=[])(hr:cK k Tj)(hY:∀(w:P9)(h:Qe),YP w h->(K w.params).In h)(F:∀(w:P9)(mg:PN)(fa:XB)(h:Qe),(K w.params).In h->h.Ns P3 mg->mg d.name=some (.ref fa)->
   ∃fd:Qf,(∀(s:PZ)(u:h9),Tl s fd ⟨[u],[]⟩ [(x,u)])/\
    ∀Px:Qe,(K w.params).In Px->Px.Ns P3 mg->bh l.prog w (K w.params) mg Px (CX w) k fa fd [x] (sp w)) (hsp:∀(w:P9)(H:Hp)(a:XB)(ns:List Int),ns.length<=n->Ki H->aO (K w.params) H a (ns.map V.int)->sp w [.ref a] H (λv _=>v=.bl true) λ_ _ _=>False) (hCX:∀(w:P9)(H:Hp)(s:PZ)(e:h9)(s':PZ),CX w [] H s (λ_ _ _=>False) e s'->False):PySem.W.WalkO q loose XP YP l.row.toRowW d [] (λf vs=>PySem.call f vs):=by
 refine Att.attach_call hn hdf λw s₀ s₁ mg mb fa o pm cd doc a vs ns G Y ho hd hcd hmg hobj hints hlen hg=>?_;have KX:=hY w _ Y;obtain⟨fd,hb,hF⟩:=F w mg fa _ KX G.T.g hmg;exact A7 KX G.T.g G.T.b G.T.builtins G.T.nolimit hg hobj hints (VR hlen hn2) hr hF hb (λH hO hS=>hsp w H a ns hlen hO hS) λH e s'=>hCX w H s₁ e s'
def fX(s:Ql)(j:Nat):Ql:=match s with
 | .ClassDef _ _ _ body _ _ _ _ _ _ _=>body.getD j (.Pass ⟨0,0,0,0⟩)
 |_=>.Pass ⟨0,0,0,0⟩
def fY(s:Ql):Arguments:=match s with
 | .FunctionDef _ a _ _ _ _ _ _ _ _=>a
 |_=>{posonlyargs:=[],args:=[],vararg:=none,kwonlyargs:=[],kw_defaults:=[],kwarg:=none,defaults:=[]}
def dj(s:Ql):List Ql:=match s with
 | .FunctionDef _ _ b _ _ _ _ _ _ _=>b
 |_=>[]
def am(s:Ql):RS:=match s with
 | .FunctionDef _ _ _ _ _ _ sc _ _ _=>sc
 |_=>{kind:=.function,names:=[],isGenerator:=false,isCoroutine:=false}
abbrev dm:zA:=λ_ _ _ _ _ _=>False
abbrev E0:XK:=λ_ _ _=>False
theorem AO:nV dm X E0:=λ_ _ _ _ _ _ _ h=>h.elim
structure cZ(K:Frag)(x qual:Str)(st:Ql)(f:XB)(fd:Qf):Prop where
 ex:∃(oc:h9)(od:Option XB)(kV doc pm:h9)(an:Option XB)(cdv ct:h9)(osl:Array (Option h9)),
  fd=W2 x qual (fY st) (dj st) (am st) .none kV doc pm an cdv ct/\K.lookup f=some ⟨oc,od,.func fd,osl⟩/\Xg K cdv qual=true
 kp:W1 K (.ref f)=true
section
variable{P:P6}{w:P9}{K:Frag}{mg:PN}{Px:Qe}
theorem cZ.ok{x qual:Str}{st:Ql}{f:XB}{fd:Qf}{N ps:List Str}{k:Nat}{sp:Sp}(F:cZ K x qual st f fd)(S:aD N ps (am st))(len:∀vs H Q E,sp vs H Q E->vs.length=ps.length)(hbody:∀(cdv:h9)(A:QD)(Py:List Tz)(s:PZ)(H:Hp)(vs:List V)(Q:VK)(E:XK),cK k (A.deeper (Rj qual (am st) s.heap.objs.size f cdv))->sp vs H Q E->
   ∃t,oE (l8 dm P w K mg Px N qual (am st) f cdv A Py s H E).nox (dj st) t/\t {nx:=λ_ H'=>Q .non H',rt:=Q} (start N vs) H):bh P w K mg Px dm (k+1) f fd ps sp:=by
 obtain⟨oc,od,kV,doc,pm,an,cdv,ct,osl,rfl,lk,hcd⟩:=F.ex;refine HN lk hcd S len λA Py s H vs Q E hr hsp=>?_;obtain⟨t,h,q⟩:=hbody cdv A Py s H vs Q E hr hsp;exact⟨t,h.nox,q⟩
theorem cZ.ok1{x qual:Str}{st:Ql}{f:XB}{fd:Qf}{N ps:List Str}{k:Nat}{sp:Sp}(F:cZ K x qual st f fd)(S:aD N ps (am st))(hbody:∀(cdv:h9)(A:QD)(Py:List Tz)(s:PZ)(H:Hp)(vs:List V)(Q:VK)(E:XK),cK k (A.deeper (Rj qual (am st) s.heap.objs.size f cdv))->sp vs H Q E->
   ∃t,oE (l8 dm P w K mg Px N qual (am st) f cdv A Py s H E).nox (dj st) t/\t {nx:=λ_ H'=>Q .non H',rt:=Q} (start N vs) H) (len:∀vs H Q E,sp vs H Q E->vs.length=ps.length:=by intro _ _ _ _ h;(repeat rcases h with⟨_,h⟩);subst_vars;rfl):bh P w K mg Px dm (k+1) f fd ps sp:=F.ok S len hbody
theorem cZ.binds{x qual:Str}{st:Ql}{f:XB}{fd:Qf}{ps:List Str}(F:cZ K x qual st f fd)(h:∀(kV doc pm:h9)(an:Option XB)(cdv ct:h9)(us:List h9),us.length=ps.length->bindArgs (W2 x qual (fY st) (dj st) (am st) .none kV doc pm an cdv ct) ⟨us,[]⟩=pure (ps.zip us)):ig K fd ps []:=by obtain⟨oc,od,kV,doc,pm,an,cdv,ct,osl,rfl,lk,hcd⟩:=F.ex;exact .all (h kV doc pm an cdv ct)
theorem vU{x qual:Str}{st:Ql}{f:XB}{oc:h9}{od an:Option XB}{osl:Array (Option h9)}{kV doc pm cdv ct:h9}(l:K.lookup f=some ⟨oc,od,.func (W2 x qual (fY st) (dj st) (am st) .none kV doc pm an cdv ct),osl⟩)(c:Xg K cdv qual=true)(k:W1 K (.ref f)=true):cZ K x qual st f (W2 x qual (fY st) (dj st) (am st) .none kV doc pm an cdv ct):=⟨⟨oc,od,kV,doc,pm,an,cdv,ct,osl,rfl,l,c⟩,k⟩
end
theorem gF{A B:Prop}(h:B):if false=true then A else B:=by rw[PD Wr];exact h
theorem iG{A B:Prop}(h:A):if true=true then A else B:=by rw[PF rfl];exact h
def aj(H H':Hp):Prop:= ∀b o,H b=some o->H' b=some o
theorem aj.refl(H:Hp):aj H H:=λ_ _ h=>h
theorem aj.trans(a:aj H H1)(b:aj H1 H2):aj H H2:=λc o h=>b c o (a c o h)
theorem aj.free(e:aj H H')(h:H' l=Option.none):H l=Option.none:=by
 cases q:H l with
 |none=>rfl
 |some o=>
  rw[e l o q]at h;cases h
theorem aj.seq{K:Frag}{H H':Hp}{a:XB}{xs:List V}(e:aj H H')(h:aO K H a xs):aO K H' a xs:=by
 rcases h with(h|⟨o,h⟩)|h
 .exact .inl (.inl (e _ _ h))
 .exact .inl (.inr ⟨o,e _ _ h⟩)
 .exact .inr h
def kG(env:Tz):List (Str×NameKind)->List (Str×XB)->List (Str×XB)
 | [],cs=>cs
 |(n,k)::r,cs=>kG env r (if k == .free then(match env.cells.lookup n with|some a=>(n,a)::cs|none=>cs)else cs)
theorem gR(env:Tz):∀(l:List (Str×NameKind))(cs:List (Str×XB)),(∀x∈l,x.2=.free->∃c,env.cells.lookup x.1=some c)->(forIn l cs λ(x:Str×NameKind) r=>if(x.2 == Rk)=true then do let a<-cellOf env x.1;pure (ForInStep.yield ((x.1,a)::r))else pure (ForInStep.yield r):Sem (List (Str×XB)))=pure (kG env l cs)
 | [],cs,_=>rfl
 |(n,k)::r,cs,h=>by
  have hr:∀x∈r,x.2=.free->∃c,env.cells.lookup x.1=some c:=λx hx=>h x (Ue _ hx);rw[Vm,kG]
  by_cases hk:(k == Rk)=true
  .obtain⟨c,hc⟩:=h (n,k) Ui (by simpa using hk);have hc':env.cells.lookup n=some c:=hc;have e:cellOf env n=pure c:=by unfold cellOf;rw[hc']
   simp only[hk,if_true,e,pure_bind,hc'];exact gR env r _ hr
  .simp only[hk,if_false,pure_bind];exact gR env r _ hr
theorem jG(h:∀x∈scope.names,x.2=.free->∃c,env.cells.lookup x.1=some c):closureFor scope env=pure (kG env scope.names []):=by have e:=gR env scope.names [] h;unfold closureFor;show(forIn scope.names ([]:List (Str×XB)) _ >>= λr=>pure r:Sem (List (Str×XB)))=_;rw[bind_pure];exact e
theorem uu(env:Tz):∀(l:List (Str×NameKind))(cs:List (Str×XB))(x:Str)(c:XB),cs.lookup x=some c->env.cells.lookup x=some c->(kG env l cs).lookup x=some c
 | [],_,_,_,h,_=>h
 |(n,k)::r,cs,x,c,h,e=>by
  rw[kG];refine uu env r _ x c ?_ e;split
  .cases q:env.cells.lookup n with
   |none=>exact h
   |some a=>
    show List.lookup x ((n,a)::cs)=some c;rw[UL];cases hx:x == n with
    |false=>exact h
    |true=>
     have:x=n:=by simpa using hx
     subst this;rw[q]at e;exact e
  .exact h
theorem nJ(env:Tz):∀(l:List (Str×NameKind))(cs:List (Str×XB))(x:Str)(c:XB),(∀y d,cs.lookup y=some d->env.cells.lookup y=some d)->(kG env l cs).lookup x=some c->env.cells.lookup x=some c
 | [],cs,x,c,h,e=>h x c e
 |(n,k)::r,cs,x,c,h,e=>by
  rw[kG]at e;refine nJ env r _ x c ?_ e;intro y d q;split at q
  .cases z:env.cells.lookup n with
   |none=>rw[z]at q;exact h y d q
   |some a=>
    rw[z]at q;have q2:List.lookup y ((n,a)::cs)=some d:=q;rw[UL]at q2;cases hx:y == n with
    |false=>rw[hx]at q2;exact h y d q2
    |true=>
     rw[hx]at q2;have hyn:y=n:=by simpa using hx
     rw[hyn,z];exact q2
  .exact h y d q
theorem nK(env:Tz):∀(l:List (Str×NameKind))(cs:List (Str×XB))(x:Str)(c:XB),(x,Rk)∈l->env.cells.lookup x=some c->(kG env l cs).lookup x=some c
 | [],_,_,_,h,_=>by simp at h
 |(n,k)::r,cs,x,c,h,e=>by
  rw[kG]
  rcases T8.mp h with h|h
  .have h1:n=x:=(PM Prod.fst h).symm;have h2:k=Rk:=(PM Prod.snd h).symm;subst h1 h2;refine uu env r _ n c ?_ e;rw[e];show List.lookup n (if(Rk == Rk)=true then(n,c)::cs else cs)=some c;rw[PF (by decide),UL];simp
  .exact nK env r _ x c h e
theorem j8(scope:RS)(env:Tz)(x:Str):(TF scope env).names.lookup x=(scope.names.lookup x).map λk=>if(k == .free&&env.scope.kind == .function&&env.kindOf x == some .cell)=true then SE else k:=by
 show(scope.names.map λ(p:Str×NameKind)=>if(p.2 == .free&&env.scope.kind == .function&&env.kindOf p.1 == some .cell)=true then(p.1,SE)else(p.1,p.2)).lookup x=_
 induction scope.names with
 |nil=>rfl
 |cons p r ih=>
  obtain⟨n,k⟩:=p;rw[Uw];show List.lookup x ((if(k == .free&&env.scope.kind == .function&&env.kindOf n == some .cell)=true then(n,SE)else(n,k))::_)=_;cases hx:x == n with
  |false=>
   have e1:List.lookup x ((n,k)::r)=List.lookup x r:=by rw[UL,hx]
   rw[e1];split<;>(rw[UL,hx];exact ih)
  |true=>
   have:x=n:=by simpa using hx
   subst this;have e1:List.lookup x ((x,k)::r)=some k:=by rw[UL,hx]
   rw[e1];show _=some _;split
   .rename_i hc;rw[UL,hx];show some SE=some (if _ then _ else _);rw[PF hc]
   .rename_i hc;rw[UL,hx];show some k=some (if _ then _ else _);rw[PD hc]
structure cp(X:Cx)(N:List Str)(src:List (Option Nat))(scope:RS):Prop where
 kind:scope.kind=.function
 nocell:∀y∈scope.names,y.2≠.cell
 names:∀y∈scope.names,y.2=.local->scope.names.lookup y.1=some .local
 fre:∀y∈scope.names,y.2=.free->X.env.kindOf y.1=some .cell\/X.env.kindOf y.1=some .free
 len:src.length=N.length
 nd:N.Nodup
 src:∀(j i:Nat)(x:Str),N[j]? =some x->src[j]? =some (some i)->X.N[i]? =some x/\scope.names.lookup x=some .free
def v7(dsc:RS)(XN N:List Str)(src:List (Option Nat))(scope:RS):Bool:=
 decide (scope.kind=.function)&&scope.names.all (λy=>decide (y.2≠.cell))&&scope.names.all (λy=> !decide (y.2=.local)||decide (scope.names.lookup y.1=some .local))&&
 scope.names.all (λy=> !decide (y.2=.free)||decide (dsc.names.lookup y.1=some .cell)||decide (dsc.names.lookup y.1=some .free))&&decide (src.length=N.length)&&decide N.Nodup&&
 (N.zip src).all λp=>match p.2 with
  |none=>true
  |some i=>decide (XN[i]? =some p.1)&&decide (scope.names.lookup p.1=some .free)
theorem cp.of{X:Cx}{XN N:List Str}{src:List (Option Nat)}(he:X.env.scope=dsc)(hN:X.N=XN)(h:v7 dsc XN N src scope=true):cp X N src scope:=by
 subst he hN;unfold v7 at h;simp only[Ws,decide_eq_true_eq,UB,Wy,Wz,decide_eq_false_iff_not]at h;obtain⟨⟨⟨⟨⟨⟨h1,h2⟩,h3⟩,h4⟩,h5⟩,h6⟩,h7⟩:=h;refine⟨h1,h2,λy hy e=>?_,λy hy e=>?_,h5,h6,λj i x e1 e2=>?_⟩
 .rcases h3 y hy with q|q
  .exact PK e q
  .exact q
 .rcases h4 y hy with(q|q)|q
  .exact PK e q
  .exact .inl q
  .exact .inr q
 .have hm:(x,some i)∈N.zip src:=by
   have:(N.zip src)[j]? =some (x,some i):=by rw[List.getElem?_zip_eq_some];exact⟨e1,e2⟩
   exact Us this
  have q:=h7 _ hm;simpa using q
def cxC(X:Cx)(scope:RS)(N:List Str)(s:PZ)(H:Hp)(ex:List XB):Cx:=
 {X with
  N:=N
  s₀:=s
  H₀:=H
  env:=compEnvC scope (kG X.env scope.names []) s.heap.objs.size X.env
  Py:=X.stack
  ex:=ex
  fn:=λ_=>false
  pn:=[]
  xe:=λ_ _=>False}
def eW(src:List (Option Nat))(σ:St):St:=src.map λo=>match o with|none=>none|some i=>(σ[i]?).join
section
variable{X:Cx}{Pw:PQ}{σ:St}{H:Hp}{s:PZ}{N:List Str}{src:List (Option Nat)}{scope:RS}{ex:List XB}
theorem cp.cells(S:cp X N src scope)(ok:X.Ok):∀x∈scope.names,x.2=.free->∃c,X.env.cells.lookup x.1=some c:=λx hx e=>ok.has _ (S.fre x hx e)
theorem aJ.enterC(I:aJ X Pw σ H s)(S:cp X N src scope)(hf:∀b∈ex,ix X Pw H b)(hlt:∀b∈ex,b<s.heap.objs.size)(hns:h1.Ns s.heap.objs.size m)(hk:∀b o,s.heap.get? b=some o->h1.get? b=some o):aJ (cxC X scope N s H ex) [] (eW src σ) H {s with heap:=h1,toks:=tk}:=by
 have neC:∀b o,s.heap.get? b=some o->b≠s.heap.objs.size:=λb o e=>VP (PY e);have sub:∀x c,(kG X.env scope.names []).lookup x=some c->X.env.cells.lookup x=some c:=λx c e=>nJ X.env _ _ x c (λy d z=>by simp at z) e;refine⟨⟨I.ok.mod,S.kind,I.ok.glob,I.ok.blt,VO _,λx y c e1 e2=>I.ok.inj x y c (sub x c e1) (sub y c e2),λx hx=>?_,λx c z=>PK z (by simp[cxC]),I.ok.hd,I.ok.frames,.inl rfl,λb hb=>?_,I.bs,VR I.ok.bsz I.sz,λb o e hb=>?_,λb hb hz=>?_,I.stack,I.stkFree⟩,
  rfl,I.bare,Un.kept hk,⟨m,hns,λj x v e1 e2 e3=>?_⟩,λx c e=>?_,I.hok.fresh (VO _),λx c e=>I.freeC x c (sub x c e),λp hp=>PK (show p∈([]:PQ)from hp) (by simp),I.hok.kept hk,?_⟩
 .have hx:(TF scope X.env).names.lookup x=some .cell\/(TF scope X.env).names.lookup x=some .free:=hx;have hm:(x,Rk)∈scope.names:=by
   rw[j8]at hx;cases q:scope.names.lookup x with
   |none=>rw[q]at hx;simp at hx
   |some k=>
    have hm:=PySem.mem_of_lookup q;cases k with
    |free=>exact hm
    |cell=>exact PK rfl (S.nocell _ hm)
    |_=>rw[q]at hx;simp at hx
  obtain⟨c,hc⟩:=S.cells I.ok _ hm rfl;exact⟨c,nK X.env _ _ x c hm hc⟩
 .obtain⟨f0,f1,f2,f3,f4,f5⟩:=hf b hb;exact⟨VP (hlt b hb),λx c e=>f4 x c (sub x c e)⟩
 .obtain⟨f0,f1,f2,f3,f4,f5⟩:=hf b hb
  rcases f3 with z|z
  .exact I.ok.noex b o e z
  .exact PK (VS (PY (I.ok.bs b o e).1) z) (VV _)
 .obtain⟨f0,f1,f2,f3,f4,f5⟩:=hf b hb
  rcases T8.mp (I.stkSub b hz)with z|z
  .exact f1 z
  .exact f2 z
 .have e2:(eW src σ)[j]? =some (some v):=e2;unfold eW at e2;rw[Ub]at e2;cases q:src[j]? with
  |none=>rw[q]at e2;simp at e2
  |some o=>
   rw[q]at e2;cases o with
   |none=>simp at e2
   |some i=>
    have e2:(σ[i]?).join=some v:=by simpa using e2
    have e2:σ[i]? =some (some v):=by
     cases z:σ[i]? with
     |none=>rw[z]at e2;simp at e2
     |some w=>rw[z]at e2;simp at e2;rw[e2]
    obtain⟨hX,hfr⟩:=S.src j i x e1 q;have hm:=PySem.mem_of_lookup hfr;have hk2:=S.fre _ hm rfl;obtain⟨mX,hnX,hl⟩:=I.loc;have hvis:Ob X.env.scope x:=.inr hk2;obtain⟨u,r,l⟩:=hl i x v hX e2 hvis;refine⟨u,r,?_⟩
    rcases l with⟨l1,_⟩|⟨_,c,hc,hcell⟩
    .rcases hk2 with z|z
     .have:X.env.kindOf x=some .cell:=z;rw[l1]at this;cases this
     .have:X.env.kindOf x=some .free:=z;rw[l1]at this;cases this
    .refine .inr ⟨?_,c,nK X.env _ _ x c hm hc,?_⟩
     .show(TF scope X.env).names.lookup x=some .cell\/(TF scope X.env).names.lookup x=some .free;rw[j8,hfr]
      by_cases hcc:(Rk == .free&&X.env.scope.kind == .function&&X.env.kindOf x == some .cell)=true
      .left
       show some (if _ then _ else _)=_;rw[PF hcc]
      .right
       show some (if _ then _ else _)=_;rw[PD hcc]
     .exact hcell.keeps hk
 .obtain⟨v,z⟩:=I.cell x c (sub x c e);exact⟨v,z.keeps hk⟩
 .show(eW src σ).length=N.length;unfold eW;rw[T7];exact S.len
end
def uG(X:Cx)(ifs:List Qx)(t:TT):Prop:=
 ∀(Pw:PQ)(s:PZ)(σ:St)(H:Hp)(Q:Bool->Hp->Prop),aJ X Pw σ H s->t σ H Q->
  P2 (P7 X.prog X.w) X.A (forIn ifs true λc r=>if r=true then do let ok<-T2 c X.env (Qk c X.env);pure (ForInStep.yield ok)else pure (ForInStep.yield r)) (TP X Pw σ Q) X.xe s
def lF:TT:=λ_ H Q=>Q true H
theorem bP:uG X [] lF:=λ_ _ _ H _ I h=>wpAny_tests_nil ⟨H,I,h⟩
theorem iU(h:PT X c t):uG X [c] t:=λPw s σ H Q I hw=>wpAny_tests_one (h Pw s σ H Q I hw)
def dC(g:TG)(tt:TT)(te:TE)(src:List (Option Nat))(σ:St)(Q:VK)(J:It)(H1:Hp):Prop:=
 ∃W:Nat->Nat->List V->St->Hp->Prop,(∃m,W 0 m [] (eW src σ) H1)/\∀i m ys σ' H',W i m ys σ' H'->
  (J.stop i H'/\∀p,H' p=none->Q (.ref p) (upd H' p (.lst ys)))\/
  (J.go i H'/\ys.length<fv/\∀x H2,J.yld i H' x H2->g x σ' H2 λσ3 H3=>tt σ3 H3 λb H4=>
   if b=true then te σ3 H4 λv H5=>∃m',m'<m/\W (i+1) m' (ys++[v]) σ3 H5 else∃m',m'<m/\W (i+1) m' ys σ3 H4)
def tComp(wi:TI)(g:TG)(tt:TT)(te:TE)(src:List (Option Nat)):TE:=λσ H Q=>wi σ H (dC g tt te src σ Q)
def xX(X:Cx)(Pw:PQ)(σ:St)(Q:VK)(acc:h9)(C:XB)(r:Result)(s':PZ):Prop:=
 (∃f,r=.ok f)/\∃D H',acc=.ref D/\aJ X Pw σ H' s'/\(∃m,s'.heap.Ns C m)/\ix X Pw H' C/\Q (.ref D) H'
theorem rD(I:Nat->PZ->Prop)(turn:∀n s,I n s->P2 (P7 prog w) A (Ra it) (λr s₁=>match r with
   |none=>R (.ok .next) s₁
   |some v=>P2 (P7 prog w) A (R0 target it v) (λ_ s₂=>P2 (P7 prog w) A (Th target env v) (λ_ s₃=>
     P2 (P7 prog w) A (forIn ifs true λc r=>if r=true then do let ok<-T2 c env (Qk c env);pure (ForInStep.yield ok)else pure (ForInStep.yield r)) (λok s₄=>
      if ok=true then P2 (P7 prog w) A (Qk elt env) (λx s₅=>P2 (P7 prog w) A (call (.builtin "list.append") [acc,x]) (λ_ s₆=>∃m,m<n/\I m s₆) (λ_ _=>False) s₅) (λ_ _=>False) s₄
      else∃m,m<n/\I m s₄) (λ_ _=>False) s₃) (λ_ _=>False) s₂) (λ_ _=>False) s₁) (λ_ _=>False) s) (n:Nat) (h:I n s):Rr (P7 prog w) A (.compLoop (.ListComp elt [⟨target,iter,ifs,0⟩] scope pos) 0 it acc env) R s:=by
 refine codeAny_loop rfl I (λn s hI=>?_) n h;show P2 _ A ((compTurn (.ListComp elt [⟨target,iter,ifs,0⟩] scope pos) 0 it acc env).onRaise (λx=>do noteFrame x env;theTreesLotGoes x)) _ _ s;refine wpAny_noted ?_;rw[compTurn_list];refine PU (SA (PU (Qz (turn n s hI) (λr s₁ h₁=>?_) λ_ _ f=>f.elim)));cases r with
 |none=>exact PV h₁
 |some v=>
  refine PU (Qz h₁ (λ_ s₂ h₂=>?_) λ_ _ f=>f.elim);refine PU (Qz h₂ (λ_ s₃ h₃=>PU (Qz h₃ (λok s₄ h₄=>?_) λ_ _ f=>f.elim)) λ_ _ f=>f.elim);cases ok with
  |false=>exact PV ⟨rfl,h₄⟩
  |true=>
   exact PU (PU (Qz h₄ (λx s₅ h₅=>PU (Qz h₅ (λ_ s₆ h₆=>PV (PV ⟨rfl,h₆⟩)) λ_ _ f=>f.elim)) λ_ _ f=>f.elim))
abbrev jx(us:List h9)(k:Nat):Obj:={cls:=.type "list",data:=.seq us.toArray k}
section
theorem uo(hc:X.calm=true)(S:cp X N src scope)(hg:∀s H ex,PG (cxC X scope N s H ex) tg g)(ht:∀s H ex,uG (cxC X scope N s H ex) ifs tt)(he:∀s H ex,PE (cxC X scope N s H ex) elt te)(h:Pn X Pw σ tg (dC g tt te src σ Q) itv s2):P2 (P7 X.prog X.w) X.A (newList []) (λacc s₃=>P2 (P7 X.prog X.w) X.A (newFunctionEnv scope X.env.globals (kG X.env scope.names []) [] X.env.qual none .none (some X.env)) (λcenv s₄=>
   Rr (P7 X.prog X.w) X.A (.compStart (.ListComp elt [⟨tg,iter,ifs,0⟩] scope pos) 0 itv acc {cenv with scope:=TF scope X.env}) (xX X Pw σ Q acc cenv.locals) s₄) E s₃) E s2:=by
 obtain⟨it,fp,tn,J,H1,e,I2,T,st2,f2,W,⟨m0,w0⟩,turn⟩:=h;subst e;refine QG (wpAny_newFunctionEnv S.nocell (by intro y hy;simp at hy) (λh₁ hns₁ hsb₁=>?_) S.kind);dsimp only at hns₁ hsb₁ ⊢;generalize hH2:s2.heap.push {cls:=.type "list",dict:=none,data:=.seq ([]:List h9).toArray}=H2 at hns₁ hsb₁ ⊢;have hC:H2.objs.size=s2.heap.objs.size+1:=by rw[<-hH2,QI]
 have push:∀b o,s2.heap.get? b=some o->H2.get? b=some o:=λb o e=>hH2▸PX _ e;have hD2:H2.get? s2.heap.objs.size=some (jx [] 0):=hH2▸P5 _ rfl;have hk:∀b o,H2.get? b=some o->h₁.get? b=some o:=λb o e=>hsb₁.extBut b o (VP (PY e)) (PX _ e);generalize hD:s2.heap.objs.size=D at*;have I3:aJ X Pw σ H1 {s2 with heap:=H2}:=I2.kept (t':=s2.toks) push;have fD:ix X Pw H1 D:=I2.fpOk (VY hD) (I2.hok.fresh (VY hD));have fpl:∀b∈fp,b<D:=λb hb=>by obtain⟨o,e,_⟩:=T.obj _ _ st2 b hb;rw[<-hD];exact PY e
 have fex:∀b∈D::fp,ix X Pw H1 b:=λb hb=>by
  rcases T8.mp hb with z|z
  .rw[z];exact fD
  .exact f2 b z
 have lex:∀b∈D::fp,b<({s2 with heap:=H2}:PZ).heap.objs.size:=λb hb=>by
  show b<H2.objs.size
  rcases T8.mp hb with z|z
  .rw[z,hC];exact V1 _
  .rw[hC];exact VZ (fpl b z)
 have I4:=I3.enterC (N:=N) S fex lex (h1:=h₁) (tk:=s2.toks+([]:List (Str×h9)).length) hns₁ hk;generalize hY:cxC X scope N {s2 with heap:=H2} H1 (D::fp)=Y at*;have yP:Y.prog=X.prog:=by rw[<-hY];rfl
 have yw:Y.w=X.w:=by rw[<-hY];rfl
 have yA:Y.A=X.A:=by rw[<-hY];rfl
 have yC:Y.env.locals=H2.objs.size:=by rw[<-hY];rfl
 have yK:Y.K=X.K:=by rw[<-hY];rfl
 have yc:Y.calm=true:=by rw[<-hY];exact hc
 have yfs:Y.fs=jU X.stack:=by rw[<-hY];rfl
 have yex:Y.ex=D::fp:=by rw[<-hY];rfl
 have ypn:Y.pn=[]:=by rw[<-hY];rfl
 have yxe:Y.xe=λ_ _=>False:=by rw[<-hY];rfl
 have ycl:∀x c,Y.env.cells.lookup x=some c->X.env.cells.lookup x=some c:=by rw[<-hY];exact λx c e=>nJ X.env _ _ x c (λy d z=>by simp at z) e
 have ye:Y.env=compEnvC scope (kG X.env scope.names []) H2.objs.size X.env:=by rw[<-hY];rfl
 have ys0:Y.s₀={s2 with heap:=H2}:=by rw[<-hY];rfl
 have yH0:Y.H₀=H1:=by rw[<-hY];rfl
 have hgY:PG Y tg g:=by rw[<-hY];exact hg _ _ _
 have htY:uG Y ifs tt:=by rw[<-hY];exact ht _ _ _
 have heY:PE Y elt te:=by rw[<-hY];exact he _ _ _
 have nfs:∀b∈D::fp,b∉Y.fs:=λb hb z=>by
  rw[yfs]at z;obtain⟨f0,f1,f2',_⟩:=fex b hb
  rcases T8.mp (I2.stkSub b z)with q|q
  .exact f1 q
  .exact f2' q
 have ncl:∀b∈D::fp,∀x c,Y.env.cells.lookup x=some c->c≠b:=λb hb x c e=>(fex b hb).2.2.2.2.1 x c (ycl x c e);have nC:∀b∈D::fp,b≠Y.env.locals:=λb hb=>by rw[yC];exact VP (lex b hb)
 have stat:∀{H':Hp}{us:List h9}{k:Nat},(∀b∈fp,H' b=none)->∀b∈fp,ix Y [(D,jx us k)] H' b:=λ{H' us k} hn b hb=>
  ⟨hn b hb,nC b (Ue _ hb),nfs b (Ue _ hb),.inl (by rw[yex];exact Ue _ hb),ncl b (Ue _ hb),λp hp=>by
   rw[ypn]at hp;have hp1:p=(D,jx us k):=by simpa using hp
   rw[hp1];exact VU (fpl b hb)⟩
 have pinD:∀{σ':St}{H':Hp}{s':PZ}{pl:PQ}{us:List h9}{k:Nat},aJ Y pl σ' H' s'->s'.heap.get? D=some (jx us k)->H' D=none->aJ Y [(D,jx us k)] σ' H' s':=λ{σ' H' s' pl us k} I' e n=>
  I'.pins_of λp hp=>by
   have hp1:p=(D,jx us k):=by simpa using hp
   subst hp1;exact⟨e,n,nC D Ui,nfs D Ui,λv z=>by cases z⟩
 have I4':aJ Y [(D,jx [] 0)] (eW src σ) H1 {s2 with heap:=h₁,toks:=s2.toks+([]:List (Str×h9)).length}:=pinD I4 (hk _ _ hD2) fD.1;have loop:Rr (P7 X.prog X.w) X.A (.compLoop (.ListComp elt [⟨tg,iter,ifs,0⟩] scope pos) 0 (.ref it) (.ref D) Y.env) (xX X Pw σ Q (.ref D) H2.objs.size) {s2 with heap:=h₁,toks:=s2.toks+([]:List (Str×h9)).length}:=by
  refine rD (λn s'=>∃i ys us k σ' H',aJ Y [(D,jx us k)] σ' H' s'/\tn i s'.heap/\(∀b∈fp,H' b=none)/\aZ ys us/\ys.length<=fv/\W i n ys σ' H') ?_ m0
   ⟨0,[],[],0,_,H1,I4',T.keep _ _ _ st2 λb hb o e=>hk _ _ (push b o e),λb hb=>(f2 b hb).1,.nil,VQ _,w0⟩
  rintro n s3 ⟨i,ys,us,k,σ3,H3,I3',st3,fr3,rv,hz,w3⟩
  rcases turn i n ys σ3 H3 w3 with⟨stop,q⟩|⟨go,hlen,step⟩
  .have hd:=T.done Y yP yw yK yc i _ s3 σ3 H3 (λ_ _=>False) I3' (stat fr3) st3 stop;rw[yA]at hd;refine bL hd λr s4 ⟨hr,I4⟩=>?_;subst hr;obtain⟨eD,nD,_⟩:=I4.pin (D,jx us k) (by simp);have eD:s4.heap.get? D=some (jx us k):=eD;have nD:H3 D=none:=nD;have Px:Un (jU X.stack) (D::fp) H1 H3 H2 s4.heap:=by have b:=I4.Px;rw[yex,yH0,ys0,yfs]at b;exact b
   have hnD:∀b o,s2.heap.get? b=some o->b≠D:=λb o e=>by rw[<-hD];exact VP (PY e)
   have nx:∀b o,s2.heap.get? b=some o->b∉fp->b∉D::fp:=λb o e hb z=>(T8.mp z).elim (hnD b o e) hb;have un:Un (jU X.stack) fp H1 (upd H3 D (.lst ys)) s2.heap s4.heap:=
    ⟨λb o e n hb hx=>Px.keep b o (push b o e) n hb (nx b o e hx),λb o e n hb hx=>Px.slot b o (push b o e) n hb (nx b o e hx),λb o e n hx=>by rw[au (hnD b o e)];exact Px.free b o (push b o e) n (nx b o e hx),
     λb o e hx=>Px.there b o (push b o e) (nx b o e hx),λb xs e=>by rw[au (ay e fD.1)];exact Px.tups b xs e,λb o u e=>by rw[au (ay e fD.1)];exact Px.frzs b o u e,
     λb ps e=>by rw[au (ay e fD.1)];exact Px.tbls b ps e⟩
   have hok:jT X.prog X.w (upd H3 D (.lst ys)) s4.heap:=λb u e=>by
    by_cases hb:b=D
    .subst hb;rw[ah]at e;cases e;exact⟨hz,us,k,rv,eD⟩
    .rw[au hb]at e;have x:=I4.hok b u e;rw[yP,yw]at x;exact x.stay (λc v _ z=>z) (λc z=>by rw[au (ay z nD)];exact z) λc xs z=>by rw[au (ay z nD)];exact z
   have ho:s4.os=s2.os:=by rw[I4.os,ys0]
   have J':aJ X Pw σ (upd H3 D (.lst ys)) s4:=I2.call' (ch:=fp) ho un hok I4.bare λb hb=>⟨(f2 b hb).2.2.2.1,(f2 b hb).2.1,(f2 b hb).2.2.2.2.1,(f2 b hb).2.2.2.2.2⟩;refine⟨⟨_,rfl⟩,D,_,rfl,J',?_,?_,q D nD⟩
   .obtain⟨m,hm,_⟩:=I4.loc;rw[yC]at hm;exact⟨m,hm⟩
   .refine I2.fpOk (by rw[hC,hD];exact VT _) ?_;rw[au (by rw[hC];exact V3 D)];have z:=I4.free;rw[yC]at z;exact z
  .have hd:=T.item Y yP yw yK yc i _ s3 σ3 H3 (λ_ _=>False) I3' (stat fr3) st3 go;rw[yA]at hd;refine bL hd λr s4 ⟨u,hr,h4⟩=>?_;subst hr;refine bL h4 λ_ s5 ⟨x,H5,I5,r5,y5,st5,fr5⟩=>?_;have I5':=I5.pinned (stat fr5) (T.obj _ _ st5);have hg':=hgY _ s5 σ3 H5 x u _ I5' r5 (step x H5 y5);rw[yP,yw,yA,yxe]at hg';refine bL hg' λ_ s6 ⟨σ6,H6,I6,q6⟩=>?_;have ht':=htY _ s6 σ6 H6 _ I6 q6;rw[yP,yw,yA,yxe]at ht';refine bL ht' λok s7 ⟨H7,I7,q7⟩=>?_;have again:∀{σ8:St}{H8:Hp}{s8:PZ}{ys':List V}{us':List h9}{k' m':Nat},aJ Y ([(D,jx us' k')]++iT fp s5.heap) σ8 H8 s8->aZ ys' us'->ys'.length<=fv->m'<n->W (i+1) m' ys' σ8 H8->
     ∃m,m<n/\∃i ys us k σ' H',aJ Y [(D,jx us k)] σ' H' s8/\tn i s8.heap/\(∀b∈fp,H' b=none)/\aZ ys us/\ys.length<=fv/\W i m ys σ' H':=λ{σ8 H8 s8 ys' us' k' m'} I8 rv' hz' hm w8=>by
    refine⟨m',hm,i+1,ys',us',k',σ8,H8,I8.unpinned,T.keep _ _ _ st5 λb hb o e=>(I8.pin (b,o) (Ur _ (Ur _ (gB hb e)))).1,λb hb=>?_,rv',hz',w8⟩;obtain⟨o,e,d⟩:=T.obj _ _ st5 b hb;exact(I8.pin (b,o) (Ur _ (Ur _ (gB hb e)))).2.1
   cases ok with
   |false=>
    obtain⟨m',hm,w8⟩:=q7;exact again I7 rv hz hm w8
   |true=>
    rw[PF rfl];have he':=heY _ s7 σ6 H7 _ I7 q7;rw[yP,yw,yA,yxe]at he';refine bL he' λu8 s8 ⟨v,H8,I8,r8,m',hm,w8⟩=>?_;obtain⟨eD,nD,_⟩:=I8.pin (D,jx us k) (by simp);have eD:s8.heap.get? D=some (jx us k):=eD;have nD:H8 D=none:=nD;have hl:=rv.length;refine SV F.slot_list_append ⟨_,eD,rfl⟩ F.entry_list_append (F.args_list_append_2 _ _) (PySem.list_append D us.toArray k u8 (by rw[Uc];lia)) ⟨eD,?_⟩;have q:=PySem.IsL.update eD (λa=>a.push u8);have eu:us.toArray.push u8=(us++[u8]).toArray:=by simp
    rw[eu]at q;obtain⟨k',q⟩:∃k',(s8.heap.update D (QE λa=>a.push u8)).get? D=some (jx (us++[u8]) k'):=⟨_,q⟩;have I8':aJ Y (iT fp s5.heap) σ6 H8 s8:=I8.pins_of λp hp=>I8.pin p (Ur _ (Ur _ hp));have I9:aJ Y (iT fp s5.heap) σ6 H8 {s8 with heap:=s8.heap.update D (QE λa=>a.push u8)}:=I8'.turned (it:=D) (t':=s8.toks) (λb o hb e=>(Q3 s8.heap _ (Ne.symm hb)).trans e) nD (nC D Ui)
     (.inl (by rw[yex];exact Ui)) (ncl D Ui) λp hp=>by
      rw[ypn]at hp;have hp:p∈iT fp s5.heap:=by simpa using hp
      exact VP (fpl _ (oZ hp).1)
    refine again (us':=us++[u8]) (ys':=ys++[v]) (m':=m') (k':=k') (I9.pins_of λp hp=>?_) (rv.append (.cons r8 .nil)) (by rw[Uj,Vl];lia) hm w8
    rcases Ul.mp hp with z|z
    .have hp1:p=(D,jx (us++[u8]) k'):=by simpa using z
     subst hp1;exact⟨q,nD,nC D Ui,nfs D Ui,λv z=>by cases z⟩
    .exact I9.pin p (Ur _ z)
 rw[ye]at loop;exact codeAny_compStart_list loop (T.self _ 0 _ _ _ (T.keep _ _ _ st2 λb hb o e=>hk _ _ (push b o e)) loop)
theorem CY(hc:X.calm=true)(S:cp X N src scope)(hi:PI X tg iter wi)(hg:∀s H ex,PG (cxC X scope N s H ex) tg g)(ht:∀s H ex,uG (cxC X scope N s H ex) ifs tt)(he:∀s H ex,PE (cxC X scope N s H ex) elt te)(hs:∀x,RJ iter X.env x=pure x:=by intro _;rfl):PE X (.ListComp elt [⟨tg,iter,ifs,0⟩] scope pos) (tComp wi g tt te src):=by intro Pw s σ H Q I h;rw[eval_ListComp];refine SB (use:=none) rfl hs (jG (S.cells I.ok)) S.kind S.names (bL (hi Pw s σ H _ I h) λv s1 h1=>bL h1 λit s2 h2=>?_);refine bL (uo hc S hg ht he h2) λacc s3 h3=>bL h3 λcenv s4 h4=>QP h4 λr s' hr=>?_;obtain⟨⟨f,rfl⟩,D,H',rfl,J,⟨m,hm⟩,hf,q⟩:=hr;refine⟨m,hm,λh' sb=>?_⟩;exact⟨.ref D,H',J.turned (t':=s'.toks) (λb o hb e=>(sb.2 b hb).trans e) hf.1 hf.2.1 hf.2.2.2.1 hf.2.2.2.2.1 hf.2.2.2.2.2,rfl,q⟩
theorem jl(hc:X.calm=true)(S:cp X N src scope)(hi:PI X tg iter wi)(hg:∀s H ex,PG (cxC X scope N s H ex) tg g)(ht:∀s H ex,uG (cxC X scope N s H ex) ifs tt)(he:∀s H ex,PE (cxC X scope N s H ex) elt te)(hN:X.N.Nodup)(hy:X.N[i]? =some y)(hx:Ib X.env.scope y)(hsw:SM (.ListComp elt [⟨tg,iter,ifs,0⟩] scope pos) (some (.Name y py)) spos.line X.env=pure true)(hf:X.fn y=true\/X.env.scope.names.lookup y=some .local)(hs:∀x,RJ iter X.env x=pure x:=by intro _;rfl):PS X (.Assign [.Name y py] (.ListComp elt [⟨tg,iter,ifs,0⟩] scope pos) spos) (tAsg (tComp wi g tt te src) (gName i)):=by
 intro Pw s σ H D I h;rw[exec_Assign_Name_used _ _ _ _ hsw];refine PU (SA (PU ?_));show P2 _ X.A (do let _<-comprehension (.ListComp elt [⟨tg,iter,ifs,0⟩] scope pos) scope X.env _ (newList []) false (Qk iter X.env) (some (Th (.Name y py) X.env))) _ _ s;refine PU (Qz (SB (use:=some (Th (.Name y py) X.env)) (Q:=λ_ s'=>SP X Pw D .next s') rfl hs (jG (S.cells I.ok)) S.kind S.names (bL (hi Pw s σ H _ I h) λv s1 h1=>bL h1 λit s2 h2=>?_)) (λ_ s' hq=>PV (PV hq)) λ_ _ e=>e);refine bL (uo hc S hg ht he h2) λacc s3 h3=>bL h3 λcenv s4 h4=>QP h4 λr s' hr=>?_;obtain⟨⟨f,rfl⟩,D',H',rfl,J,⟨m,hm⟩,hfp,q⟩:=hr;show P2 _ X.A (Th (.Name y py) X.env (.ref D')) _ _ _;refine wpAny_assign_Name (oK J hN hy hx (v:=.ref D') rfl (λs5 I5 ⟨a,sb,ha⟩=>?_) hf);have hne:cenv.locals≠a:=by
  rcases ha with z|z
  .rw[z];exact hfp.2.1
  .exact Ne.symm (hfp.2.2.2.2.1 y a z)
 refine⟨m,hm.sameBut sb hne,λh' sb'=>?_⟩;exact⟨_,H',I5.turned (t':=s5.toks) (λb o hb e=>(sb'.2 b hb).trans e) hfp.1 hfp.2.1 hfp.2.2.2.1 hfp.2.2.2.2.1 hfp.2.2.2.2.2,q⟩
end
section
theorem PE.imp(h:PE X e t)(i:∀σ H Q,t' σ H Q->t σ H Q):PE X e t':=λPw s σ H Q I q=>h Pw s σ H Q I (i σ H Q q)
theorem bx.imp(h:bx X f r)(i:∀xs H Q,r' xs H Q->r xs H Q):bx X f r':=λPw s σ H xs us Q I r q=>h Pw s σ H xs us Q I r (i xs H Q q)
theorem uL.imp{id:String}(h:uL X id r)(i:∀x xs H Q,r' x xs H Q->r x xs H Q):uL X id r':=λPw s σ H x xs v us Q I rx r q=>h Pw s σ H x xs v us Q I rx r (i x xs H Q q)
abbrev Str.tl(x:Str):List Nat:=x.cps.toList
theorem ma{x y:Str}(h:x.cps.toList=y.cps.toList):x=y:=by obtain⟨a⟩:=x;obtain⟨b⟩:=y;have:a=b:=WL.mp h;rw[this]
theorem jg(x:Str):x.length=x.cps.toList.length:=by simp[Str.length]
theorem fS(x y:Str):(x++y).cps.toList=x.cps.toList++y.cps.toList:=by show(x.cps++y.cps).toList=_;simp
theorem yN:iJ X (Qs .LtE) (λx y H Q=>∃i j,x=.str i/\y=.str j/\Q (.bl (!decide (j.cps.toList<i.cps.toList))) H):=by intro Pw s σ H x y v u Q I rx ry h;obtain⟨i,j,rfl,rfl,q⟩:=h;obtain⟨t,rfl⟩:=rx;obtain⟨t',rfl⟩:=ry;exact PySem.P.le_str (fin_bl I q rfl)
theorem AW:uL X "str.upper" (λx vs H Q=>∃a,x=.str a/\vs=[]/\a.length<=fv/\(∀c∈a.cps.toList,c<128)/\Q (.str ⟨a.cps.map up1⟩) H):=by
 intro Pw s σ H x xs v us Q I rx r h;obtain⟨a,rfl,rfl,hz,ha,q⟩:=h;obtain⟨t,rfl⟩:=rx;cases r;have e:placed a (λ_ c=>Unicode.upperOf c)=a.cps.map up1:=placed_single a _ up1 λi c hc=>upperOf_ascii c (ha c (Us hc));have hfit:QS (placed a λ_ c=>Unicode.upperOf c).size=false:=by rw[e,WJ];unfold QS;exact PB (by show¬a.cps.size > fv;have:a.length=a.cps.size:=rfl;lia)
 refine SW F.slot_str_upper (Rw _ _ _) F.entry_str_upper (F.args_str_upper_1 _) (gives_str_upper a t hfit) ?_;rw[e];exact⟨by show(a.cps.map up1).size<=fv;rw[WJ];exact hz,⟨.str _,H,I.tok _,⟨_,rfl⟩,q⟩⟩
def nG(x:Str)(lo hi:Option Int):Str:=⟨((x.cps.toList.drop (HT.sIx x.length 0 lo)).take (HT.sIx x.length x.length hi - HT.sIx x.length 0 lo)).toArray⟩
theorem w4(l:List Nat):∀(k i:Nat),i+k<=l.length->(List.range' i k).filterMap (λm=>l[m]?)=(l.drop i).take k
 |0,i,_=>by simp
 |k+1,i,h=>by have ih:=w4 l k (i+1) (by lia);rw[List.range'_succ,US,Ua (by lia),U0 (by lia),VB];show l[i]::_=_;rw[ih]
theorem AF(x:Str)(i k:Nat)(h:i+k<=x.length):((List.range k).map λ(m:Nat)=>i+m).filterMap (x.cps[·]?)=(x.cps.toList.drop i).take k:=by have hx:x.cps.toList.length=x.length:=(jg x).symm;rw[<-List.range'_eq_map_range,<-w4 _ _ _ (by lia)];congr 1;funext m;rw[WG]
theorem xu(lo hi:Option Int)(n:Nat):Qy lo hi 1 n=(List.range (HT.sIx n n hi - HT.sIx n 0 lo)).map λm=>HT.sIx n 0 lo+m:=by
 have cl:∀(v:Int)(d:Nat),max 0 (min (if v<0 then v+(n:Int)else v) (n:Int))=((HT.sIx n d (some v):Nat):Int):=λv d=>by
  show _=(((if v<0 then(v+(n:Int)).toNat else min v.toNat n):Nat):Int)
  by_cases hv:v<0
  .simp only[PF hv];lia
  .simp only[PD hv];lia
 have main:∀(a b:Nat),Ts (a:Int) (b:Int) 1=(List.range (b - a)).map λm=>a+m:=λa b=>by
  have e:(if(1:Int) > 0 then(if(a:Int)<(b:Int)then((b:Int) - a+1 - 1) / 1 else 0)else(if(a:Int) > b then((a:Int) - b - 1 - 1) / (-1)else 0)).toNat=b - a:=by rw[PF (by decide)];split<;>lia
  show(List.range (if(1:Int) > 0 then(if(a:Int)<(b:Int)then((b:Int) - a+1 - 1) / 1 else 0)else(if(a:Int) > b then((a:Int) - b - 1 - 1) / (-1)else 0)).toNat).map (λ(k:Nat)=>((a:Int)+1*(k:Int)).toNat)=_;rw[e];apply UG;intro m _;lia
 have e1:HT.sIx n 0 none=0:=rfl;have e2:HT.sIx n n none=n:=rfl;unfold Qy;simp only[show(1:Int) > 0 by decide,if_true];cases lo with
 |none=>
  cases hi with
  |none=>exact main 0 n
  |some h=>show Ts ((0:Nat):Int) (max 0 (min (if h<0 then h+(n:Int)else h) (n:Int))) 1=_;rw[cl h n];exact main _ _
 |some l=>
  cases hi with
  |none=>show Ts (max 0 (min (if l<0 then l+(n:Int)else l) (n:Int))) (n:Int) 1=_;rw[cl l 0];exact main _ _
  |some h=>show Ts (max 0 (min (if l<0 then l+(n:Int)else l) (n:Int))) (max 0 (min (if h<0 then h+(n:Int)else h) (n:Int))) 1=_;rw[cl l 0,cl h n];exact main _ _
theorem yh(x:Str)(lo hi:Option Int):(⟨((Qy lo hi 1 x.length).filterMap (x.cps[·]?)).toArray⟩:Str)=nG x lo hi:=by
 unfold nG;rw[xu];have h1:=HT.sIx_le x.length 0 (VQ _) lo;have h2:=HT.sIx_le x.length x.length (VO _) hi
 by_cases h:HT.sIx x.length 0 lo<=HT.sIx x.length x.length hi
 .rw[AF x _ _ (by lia)]
 .have e:HT.sIx x.length x.length hi - HT.sIx x.length 0 lo=0:=by lia
  rw[e];simp
theorem pK(x:Str)(lo hi:Option Int):(nG x lo hi).cps.toList=(x.cps.toList.drop (HT.sIx x.length 0 lo)).take (HT.sIx x.length x.length hi - HT.sIx x.length 0 lo):=by unfold nG;simp
theorem um(x:Str)(lo hi:Option Int):(nG x lo hi).length<=x.length:=by rw[jg,pK,jg x,Uu,U8];lia
theorem v6{x:Str}{lo hi:Option Int}(h:(Qy lo hi 1 x.length).length=x.length):nG x lo hi=x:=by
 rw[xu,T7,UH]at h;have h1:=HT.sIx_le x.length 0 (VQ _) lo;have h2:=HT.sIx_le x.length x.length (VO _) hi;apply ma;rw[pK]
 by_cases z:x.length=0
 .have e:x.cps.toList=[]:=Vn.mp (by rw[<-jg];exact z);rw[e];simp
 .have e1:HT.sIx x.length 0 lo=0:=by lia
  rw[h,e1,U1,U9 (by rw[<-jg];exact VO _)]
def OV:V->Option Int->Option Int->Hp->VK->Prop:=λx lo hi H Q=>∃z,x=.str z/\z.length<=fv/\Q (.str (nG z lo hi)) H
theorem tI(p:T6 v o):∃q:Option (Int×Tok),v=partValue q/\q.map (·.1)=o:=by
 cases p with
 |none=>exact⟨none,rfl,rfl⟩
 |int i t=>exact⟨some (i,t),rfl,rfl⟩
theorem Iy:zC X OV:=by
 intro Pw s σ H x v vl vu lo hi sl Q I rx hs pl pu h;obtain⟨z,rfl,hz,q⟩:=h;obtain⟨t,rfl⟩:=rx;obtain⟨l,rfl,el⟩:=tI pl;obtain⟨u,rfl,eu⟩:=tI pu;refine⟨"str",_,F.slot_str_getitem.lookup,Rw _ _ _,?_⟩;obtain⟨o,ho,hc,hd⟩:=hs;refine wpAny_getItem_str_slice (l:=l) (u:=u) (st:=none) ⟨o,ho,hc,hd⟩ rfl ?_;unfold sliceMade slicePicked;rw[el,eu];split
 .rename_i hw;have hw:(Qy lo hi 1 z.length).length=z.length:=by simpa using hw
  rw[v6 hw]at q;exact⟨.str z,H,I,⟨t,rfl⟩,q⟩
 .have e:=yh z lo hi;have e':(⟨((Qy lo hi ((Option.map (·.1) (none:Option (Int×Tok))).getD 1) z.length).filterMap (z.cps[·]?)).toArray⟩:Str)=nG z lo hi:=e;rw[e'];exact⟨VR (um z lo hi) hz,⟨.str _,H,I.tok _,⟨_,rfl⟩,q⟩⟩
theorem oz:bx X (.type "int") (λxs H Q=>∃x n,xs=[.str x]/\PySem.intText? x=some n/\x.length<=640/\Q (.int n) H):=by intro Pw s σ H xs us Q I r h;obtain⟨x,n,rfl,hn,hl,q⟩:=h;obtain⟨u,rfl,t,rfl⟩:=dQ r;exact PySem.W.KIN.call_text hn hl ⟨.int n,H,I.tok _,⟨_,rfl⟩,q⟩
theorem jK:∀{ys:List Str}{us:List h9},aZ (ys.map V.str) us->StrsAre us ys
 | [],us,r=>by rw[UZ]at r;cases r;exact .nil
 |y::ys,us,r=>by
  rw[Uw]at r;cases r with
  |cons r1 r2=>
   obtain⟨t,e⟩:=r1;subst e;exact .cons y t (jK r2)
theorem Dd:uL X "str.join" (λx vs H Q=>∃sep p ys,x=.str sep/\vs=[.ref p]/\aO X.K H p (ys.map V.str)/\(ys.map (·.length)).sum+ys.length*sep.length<=16777216/\Q (.str (RL sep ys)) H):=by intro Pw s σ H x xs v us Q I rx r h;obtain⟨sep,p,ys,rfl,rfl,hp,hz,q⟩:=h;obtain⟨t,rfl⟩:=rx;obtain⟨u,rfl,ru⟩:=dQ r;cases ru;obtain⟨its,rv,pl,hl⟩:=I.list hp;exact join_list pl.isList (by simpa using jK rv) hz λt' k=>⟨.str _,H,I.tok _,⟨t',rfl⟩,q⟩
theorem sj{its:List h9}{ks:List Bool}(r:aZ (ks.map V.bl) its):TruthOf P w A (λi v=>its.toArray[i]? =some v) (λi=>ks.getD i false):=by
 intro i v s Q E hv hq;have hv:its[i]? =some v:=by simpa using hv
 have hlen:=r.length;rw[T7]at hlen;have hi:i<its.length:=(Um.mp hv).1;have hk:(ks.map V.bl)[i]? =some (V.bl (ks.getD i false)):=by rw[Ub,Ua (by lia),Ug,Ua (by lia)];rfl
 obtain⟨u,hu,ru⟩:=r.get hk;rw[hv]at hu;cases hu;cases ru;exact Qr hq
theorem yy(ks:List Bool):(List.range ks.length).all (λi=>ks.getD i false)=ks.all id:=by
 rw[Wu,UB,UB]
 constructor
 .intro h b hb;obtain⟨i,hi,e⟩:=VC.mp hb;have:=h i (Uh.mpr hi);rw[Ug,Ua hi]at this;rw[<-e];exact this
 .intro h i hi;have hi:=Uh.mp hi;rw[Ug,Ua hi];exact h _ (Uv hi)
theorem BW(hc:X.calm=true):bx X (.builtin "all") (λxs H Q=>∃(p:XB)(ks:List Bool),xs=[.ref p]/\aO X.K H p (ks.map V.bl)/\Q (.bl (ks.all id)) H):=by
 intro Pw s σ H xs us Q I r h;obtain⟨p,ks,rfl,hp,q⟩:=h;obtain⟨u,rfl,ru⟩:=dQ r;cases ru;obtain⟨its,rv,pl,hl⟩:=I.list hp;have hlen:=rv.length;rw[T7]at hlen;refine call_all_walk (Rf pl.isList ?_);have hne:p≠s.heap.objs.size:=by obtain⟨o,ho,_⟩:=pl.isList;exact VP (PY ho)
 have W:=Tu (prog:=X.prog) (w:=X.w) (A:=X.A.in1) (show X.A.in1.handled=none from I.ok.hd hc) s.heap.objs.size p hne its.toArray;have hpush:∀o b ob,s.heap.get? b=some ob->(s.heap.push o).get? b=some ob:=λo b ob e=>PX _ e;refine⟨_,_,_,_,_,_,λi=>ks.getD i false,rfl,W,⟨⟨_,P5 _ rfl,rfl,rfl⟩,pl.isList.at λo e=>hpush _ _ o e⟩,sj rv,λh' tk k=>?_⟩;have e:(List.range its.toArray.size).all (λi=>ks.getD i false)=ks.all id:=by rw[<-yy,Uc,<-hlen]
 rw[e];refine⟨.bl _,H,I.kept (t':=tk) (h':=h') λb ob e=>k b ob ?_ (hpush _ b ob e),rfl,q⟩;intro hb;have:b=s.heap.objs.size:=by simpa using hb
 subst this;exact PK (PY e) (VV _)
end
inductive wv(K:Frag)(H:Hp):Nat->V->V->Bool->Prop
 |flat {n:Nat} {x y:V} (hx:flatV x=true) (hy:flatV y=true):wv K H n x y (eqV x y)
 |same {n:Nat} {a:XB}:wv K H n (.ref a) (.ref a) true
 |len {n:Nat} {a b:XB} {xs ys:List V} (ha:aO K H a xs) (hb:aO K H b ys) (hab:a≠b) (hl:xs.length≠ys.length):wv K H (n+1) (.ref a) (.ref b) false
 |lst {n:Nat} {a b:XB} {xs ys:List V} {es:Nat->Bool} (ha:aO K H a xs) (hb:aO K H b ys) (hab:a≠b) (hl:xs.length=ys.length)
   (he:∀i x y,xs[i]? =some x->ys[i]? =some y->wv K H n x y (es i)):wv K H (n+1) (.ref a) (.ref b) ((List.range xs.length).all es)
 |tup {n:Nat} {a b:XB} {xs ys:List V} {es:Nat->Bool} (ha:da K H a xs) (hb:da K H b ys) (hab:a≠b)
   (he:∀i x y,xs[i]? =some x->ys[i]? =some y->wv K H n x y (es i)):wv K H (n+1) (.ref a) (.ref b) ((List.range (min xs.length ys.length)).all es&&xs.length == ys.length)
 |nref {n:Nat} {x:V} {a:XB} {xs:List V} (hx:flatV x=true) (ha:aO K H a xs\/da K H a xs):wv K H n x (.ref a) false
 |refn {n:Nat} {x:V} {a:XB} {xs:List V} (hx:flatV x=true) (ha:aO K H a xs\/da K H a xs):wv K H n (.ref a) x false
section
variable{X:Cx}{Pw:PQ}{σ:St}{H:Hp}{s:PZ}
theorem fN(r:aZ xs its)(h:j<its.toArray.size):∃x,xs[j]? =some x/\aQ x its.toArray[j]:=by
 have hl:=r.length;have hj:j<its.length:=by simpa using h
 have hx:xs[j]? =some (xs[j]'(by lia)):=Ua (by lia);obtain⟨u,hu,ru⟩:=r.get hx;refine⟨_,hx,?_⟩;have e:its.toArray[j]=u:=by rw[Ua hj]at hu;simpa using PL hu
 rw[e];exact ru
theorem nF(I:aJ X Pw σ H s):∀{n:Nat}{x y:V}{k:Bool},wv X.K H n x y k->∀(A:QD),A.units+n<QT->∀{u v:h9},aQ x u->aQ y v->Tx A s u v k:=by
 intro n x y k h
 induction h with
 |flat hx hy=>exact λA _ u v ru rv=>BI ru rv hx hy
 |same=>
  intro A _ u v ru rv;cases ru;cases rv;exact SeqAt.EqAt.same _
 |len ha hb hab hl=>
  intro A hu u v ru rv;cases ru;cases rv;obtain⟨its,r1,p1,_⟩:=I.list ha;obtain⟨its2,r2,p2,_⟩:=I.list hb;have l1:=r1.length;have l2:=r2.length;refine .of_refs hab (.lists_lengths p1.isList p2.isList (by simp;lia) (by lia))
 | @lst n a b xs ys es ha hb hab hl he ih=>
   intro A hu u v ru rv;cases ru;cases rv;obtain⟨its,r1,p1,_⟩:=I.list ha;obtain⟨its2,r2,p2,_⟩:=I.list hb;have l1:=r1.length;have l2:=r2.length;have e:(List.range xs.length).all es=(List.range its.toArray.size).all es:=by rw[Uc,l1]
   rw[e];refine .of_refs hab (.lists p1.isList p2.isList (by simp;lia) (by lia) λj h1 h2=>?_);obtain⟨x,hx,rx⟩:=fN r1 h1;obtain⟨y,hy,ry⟩:=fN r2 h2;exact ih j x y hx hy A.in1 (by show A.units+1+n<QT;lia) rx ry
 | @tup n a b xs ys es ha hb hab he ih=>
   intro A hu u v ru rv;cases ru;cases rv;obtain⟨its,r1,p1,_⟩:=I.tuple ha;obtain⟨its2,r2,p2,_⟩:=I.tuple hb;have l1:=r1.length;have l2:=r2.length;have e:((List.range (min xs.length ys.length)).all es&&xs.length == ys.length)=((List.range (min its.toArray.size its2.toArray.size)).all es&&its.toArray.size == its2.toArray.size):=by rw[Uc,Uc,l1,l2]
   rw[e];refine .of_refs hab (.tuples (show s.heap.IsTuple a its.toArray from p1) (show s.heap.IsTuple b its2.toArray from p2) (by lia) λj h1 h2=>?_);obtain⟨x,hx,rx⟩:=fN r1 h1;obtain⟨y,hy,ry⟩:=fN r2 h2;exact ih j x y hx hy A.in1 (by show A.units+1+n<QT;lia) rx ry
 | @nref n x a xs hx ha=>
   intro A hu u v ru rv;cases rv
   rcases ha with ha|ha
   .obtain⟨its,r1,p1,_⟩:=I.list ha;have hl:=p1.isList;cases x with
    |non=>cases ru;exact .none_list hl (by lia)
    |bl b=>cases ru;exact .bool_list b hl (by lia)
    |int b=>obtain⟨t,rfl⟩:=ru;exact .int_list b t hl (by lia)
    |str b=>obtain⟨t,rfl⟩:=ru;exact .str_list b t hl (by lia)
    |_=>simp[flatV]at hx
   .obtain⟨its,r1,p1,_⟩:=I.tuple ha;have hl:s.heap.IsTuple a its.toArray:=p1;cases x with
    |non=>cases ru;exact .none_tuple hl (by lia)
    |bl b=>cases ru;exact .bool_tuple b hl (by lia)
    |int b=>obtain⟨t,rfl⟩:=ru;exact .int_tuple b t hl (by lia)
    |str b=>obtain⟨t,rfl⟩:=ru;exact .str_tuple b t hl (by lia)
    |_=>simp[flatV]at hx
 | @refn n x a xs hx ha=>
   intro A hu u v ru rv;cases ru
   rcases ha with ha|ha
   .obtain⟨its,r1,p1,_⟩:=I.list ha;have hl:=p1.isList;cases x with
    |non=>cases rv;exact .list_none hl (by lia)
    |bl b=>cases rv;exact .list_bool b hl (by lia)
    |int b=>obtain⟨t,rfl⟩:=rv;exact .list_int b t hl (by lia)
    |str b=>obtain⟨t,rfl⟩:=rv;exact .list_str b t hl (by lia)
    |_=>simp[flatV]at hx
   .obtain⟨its,r1,p1,_⟩:=I.tuple ha;have hl:s.heap.IsTuple a its.toArray:=p1;cases x with
    |non=>cases rv;exact .tuple_none hl (by lia)
    |bl b=>cases rv;exact .tuple_bool b hl (by lia)
    |int b=>obtain⟨t,rfl⟩:=rv;exact .tuple_int b t hl (by lia)
    |str b=>obtain⟨t,rfl⟩:=rv;exact .tuple_str b t hl (by lia)
    |_=>simp[flatV]at hx
end
inductive wu(K:Frag)(H:Hp):Nat->V->V->Bool->Prop
 |len {n:Nat} {a b:XB} {xs ys:List V} (ha:aO K H a xs) (hb:aO K H b ys) (hl:xs.length≠ys.length):wu K H (n+1) (.ref a) (.ref b) false
 |lst {n:Nat} {a b:XB} {xs ys:List V} {es:Nat->Bool} (ha:aO K H a xs) (hb:aO K H b ys) (hl:xs.length=ys.length)
   (he:∀i x y,xs[i]? =some x->ys[i]? =some y->wv K H n x y (es i)):wu K H (n+1) (.ref a) (.ref b) ((List.range xs.length).all es)
 |tup {n:Nat} {a b:XB} {xs ys:List V} {es:Nat->Bool} (ha:da K H a xs) (hb:da K H b ys)
   (he:∀i x y,xs[i]? =some x->ys[i]? =some y->wv K H n x y (es i)):wu K H (n+1) (.ref a) (.ref b) ((List.range (min xs.length ys.length)).all es&&xs.length == ys.length)
section
theorem Jf(hu:X.A.units+n<QT):iJ X (Qs .Eq) (λx y H Q=>∃k,wu X.K H n x y k/\Q (.bl k) H):=by
 intro Pw s σ H x y v u Q I rx ry h;obtain⟨k,h,q⟩:=h;cases h with
 | @len n a b xs ys ha hb hl=>
   cases rx;cases ry;obtain⟨its,r1,p1,_⟩:=I.list ha;obtain⟨its2,r2,p2,_⟩:=I.list hb;have l1:=r1.length;have l2:=r2.length;exact SeqAt.eq_list_lengthsAt p1.isList p2.isList (by simp;lia) (by lia) (fin_bl I q rfl)
 | @lst n a b xs ys es ha hb hl he=>
   cases rx;cases ry;obtain⟨its,r1,p1,_⟩:=I.list ha;obtain⟨its2,r2,p2,_⟩:=I.list hb;have l1:=r1.length;have l2:=r2.length;refine SeqAt.eq_listAt (e:=es) p1.isList p2.isList (by simp;lia) (by lia) (λj h1 h2=>?_) (fin_bl I q (by rw[Uc,l1]));obtain⟨x,hx,rx⟩:=fN r1 h1;obtain⟨y,hy,ry⟩:=fN r2 h2;exact nF I (he j x y hx hy) X.A.in1 (by show X.A.units+1+n<QT;lia) rx ry
 | @tup n a b xs ys es ha hb he=>
   cases rx;cases ry;obtain⟨its,r1,p1,_⟩:=I.tuple ha;obtain⟨its2,r2,p2,_⟩:=I.tuple hb;have l1:=r1.length;have l2:=r2.length;refine SeqAt.eq_tupleAt (e:=es) (show s.heap.IsTuple a its.toArray from p1) (show s.heap.IsTuple b its2.toArray from p2) (by lia) (λj h1 h2=>?_) (fin_bl I q (by rw[Uc,Uc,l1,l2]));obtain⟨x,hx,rx⟩:=fN r1 h1;obtain⟨y,hy,ry⟩:=fN r2 h2;exact nF I (he j x y hx hy) X.A.in1 (by show X.A.units+1+n<QT;lia) rx ry
theorem IZ(hu:X.A.units+n<QT):iJ X (Qs .NotEq) (λx y H Q=>∃k,wu X.K H n x y k/\Q (.bl (!k)) H):=by
 intro Pw s σ H x y v u Q I rx ry h;obtain⟨k,h,q⟩:=h;cases h with
 | @len n a b xs ys ha hb hl=>
   cases rx;cases ry;obtain⟨its,r1,p1,_⟩:=I.list ha;obtain⟨its2,r2,p2,_⟩:=I.list hb;have l1:=r1.length;have l2:=r2.length;exact QX (SeqAt.RcNeAt.lists_lengths p1.isList p2.isList (by simp;lia) (by lia)) (fin_bl I q rfl)
 | @lst n a b xs ys es ha hb hl he=>
   cases rx;cases ry;obtain⟨its,r1,p1,_⟩:=I.list ha;obtain⟨its2,r2,p2,_⟩:=I.list hb;have l1:=r1.length;have l2:=r2.length;refine QX (SeqAt.RcNeAt.lists (e:=es) p1.isList p2.isList (by simp;lia) (by lia) (λj h1 h2=>?_)) (fin_bl I q (by rw[Uc,l1]));obtain⟨x,hx,rx⟩:=fN r1 h1;obtain⟨y,hy,ry⟩:=fN r2 h2;exact nF I (he j x y hx hy) X.A.in1 (by show X.A.units+1+n<QT;lia) rx ry
 | @tup n a b xs ys es ha hb he=>
   cases rx;cases ry;obtain⟨its,r1,p1,_⟩:=I.tuple ha;obtain⟨its2,r2,p2,_⟩:=I.tuple hb;have l1:=r1.length;have l2:=r2.length;refine QX (SeqAt.RcNeAt.tuples (e:=es) (show s.heap.IsTuple a its.toArray from p1) (show s.heap.IsTuple b its2.toArray from p2) (by lia) (λj h1 h2=>?_)) (fin_bl I q (by rw[Uc,Uc,l1,l2]));obtain⟨x,hx,rx⟩:=fN r1 h1;obtain⟨y,hy,ry⟩:=fN r2 h2;exact nF I (he j x y hx hy) X.A.in1 (by show X.A.units+1+n<QT;lia) rx ry
end
def kL(op:Operator)(x y:V)(H:Hp)(Q:VK):Prop:=match op,x,y with
 | .Add,.int i,.int j=>Q (.int (i+j)) H
 | .Add,.str i,.str j=>i.length+j.length<=fv/\Q (.str (i++j)) H
 | .Add,.ref a,.ref b=>IN (.ref a) (.ref b) H Q
 | .Sub,.int i,.int j=>Q (.int (i - j)) H
 | .Mult,.int i,.int j=>zB i j/\Q (.int (i*j)) H
 | .FloorDiv,.int i,.int j=>DX i j/\Q (.int (i / j)) H
 | .Mod,.int i,.int j=>0<j/\Q (.int (i % j)) H
 | .Pow,.int i,.int j=>Kk i j/\Q (.int (i ^ j.toNat)) H
 |_,_,_=>False
section
variable{X:Cx}{a b c:Qx}{ta tb tc:TE}{pos:So}
theorem Jh(op:Operator):iJ X (RK op) (kL op):=by
 intro Pw s σ H x y v u Q I rx ry h;unfold kL at h;split at h
 .exact Ji Pw s σ H _ _ v u Q I rx ry ⟨_,_,rfl,rfl,h⟩
 .exact vw Pw s σ H _ _ v u Q I rx ry ⟨_,_,rfl,rfl,h.1,h.2⟩
 .exact Jg Pw s σ H _ _ v u Q I rx ry h
 .exact IX Pw s σ H _ _ v u Q I rx ry ⟨_,_,rfl,rfl,h⟩
 .exact Jb Pw s σ H _ _ v u Q I rx ry ⟨_,_,rfl,rfl,h.1,h.2⟩
 .exact C3 Pw s σ H _ _ v u Q I rx ry ⟨_,_,rfl,rfl,h.1,h.2⟩
 .exact Jc Pw s σ H _ _ v u Q I rx ry ⟨_,_,rfl,rfl,h.1,h.2⟩
 .exact IY Pw s σ H _ _ v u Q I rx ry ⟨_,_,rfl,rfl,h.1,h.2⟩
 .exact h.elim
def eqB:V->V->Option Bool
 | .non,.non=>some true
 | .int i,.int j=>some (decide (i=j))
 | .bl i,.bl j=>some (decide (i=j))
 | .str i,.str j=>some (decide (i=j))
 | .non,.int _=>some false| .int _,.non=>some false| .non,.bl _=>some false| .bl _,.non=>some false| .non,.str _=>some false| .str _,.non=>some false
 | .int _,.str _=>some false| .str _,.int _=>some false| .bl _,.str _=>some false| .str _,.bl _=>some false
 |_,_=>none
theorem uj(h:eqB x y=some k):scal x y=true/\decide (x=y)=k:=by
 cases x<;>cases y<;>simp[eqB,scal]at h ⊢ <;>first|exact h|(subst h;rfl)
def a9(K:Frag)(op:S4)(x y:V)(H:Hp)(Q:VK):Prop:=match op,x,y with
 | .Eq,.ref a,.ref b=>∃k,wu K H 20 (.ref a) (.ref b) k/\Q (.bl k) H
 | .NotEq,.ref a,.ref b=>∃k,wu K H 20 (.ref a) (.ref b) k/\Q (.bl (!k)) H
 | .Eq,x,y=>match eqB x y with|some k=>Q (.bl k) H|none=>False
 | .NotEq,x,y=>match eqB x y with|some k=>Q (.bl (!k)) H|none=>False
 | .Lt,.int i,.int j=>Q (.bl (decide (i<j))) H
 | .LtE,.int i,.int j=>Q (.bl (decide (i<=j))) H
 | .Gt,.int i,.int j=>Q (.bl (decide (j<i))) H
 | .GtE,.int i,.int j=>Q (.bl (decide (j<=i))) H
 | .Lt,.str i,.str j=>Q (.bl (decide (i.cps.toList<j.cps.toList))) H
 | .LtE,.str i,.str j=>Q (.bl (!decide (j.cps.toList<i.cps.toList))) H
 | .In,.str i,.str j=>Q (.bl (!(Qd j i 0 j.length 1).isEmpty)) H
 | .NotIn,.str i,.str j=>Q (.bl (!(!(Qd j i 0 j.length 1).isEmpty))) H
 | .In,x,.ref p=>wY K false x (.ref p) H Q
 | .NotIn,x,.ref p=>wY K true x (.ref p) H Q
 | .Is,x,.non=>Q (.bl (decide (x=.non))) H
 | .IsNot,x,.non=>Q (.bl (!decide (x=.non))) H
 |_,_,_=>False
theorem gy(op:S4)(hu:X.A.units+20<QT):iJ X (Qs op) (a9 X.K op):=by
 intro Pw s σ H x y v u Q I rx ry h;unfold a9 at h;split at h
 .exact Jf hu Pw s σ H _ _ v u Q I rx ry h
 .exact IZ hu Pw s σ H _ _ v u Q I rx ry h
 .split at h
  .rename_i k e;obtain⟨h1,h2⟩:=uj e;exact M6 Pw s σ H _ _ v u Q I rx ry ⟨h1,by rw[h2];exact h⟩
  .exact h.elim
 .split at h
  .rename_i k e;obtain⟨h1,h2⟩:=uj e;exact MZ Pw s σ H _ _ v u Q I rx ry ⟨h1,by rw[h2];exact h⟩
  .exact h.elim
 .exact M0 Pw s σ H _ _ v u Q I rx ry ⟨_,_,rfl,rfl,h⟩
 .exact M3 Pw s σ H _ _ v u Q I rx ry ⟨_,_,rfl,rfl,h⟩
 .exact M4 Pw s σ H _ _ v u Q I rx ry ⟨_,_,rfl,rfl,h⟩
 .exact M5 Pw s σ H _ _ v u Q I rx ry ⟨_,_,rfl,rfl,h⟩
 .exact yM Pw s σ H _ _ v u Q I rx ry ⟨_,_,rfl,rfl,h⟩
 .exact yN Pw s σ H _ _ v u Q I rx ry ⟨_,_,rfl,rfl,h⟩
 .exact yO Pw s σ H _ _ v u Q I rx ry ⟨_,_,rfl,rfl,h⟩
 .exact qN Pw s σ H _ _ v u Q I rx ry ⟨_,_,rfl,rfl,h⟩
 .exact yQ Pw s σ H _ _ v u Q I rx ry h
 .exact qO Pw s σ H _ _ v u Q I rx ry h
 .exact Jd Pw s σ H _ _ v u Q I rx ry ⟨rfl,h⟩
 .exact C2 Pw s σ H _ _ v u Q I rx ry ⟨rfl,h⟩
 .exact h.elim
def ci(i:Nat):TE:=λσ H Q=>match σ[i]? with|some (some v)=>Q v H|_=>False
theorem cv(i:Nat)(hN:X.N[i]? =some x:=by rfl)(hv:Ob X.env.scope x:=by first|exact Or.inl rfl|exact Or.inr (Or.inl rfl)|exact Or.inr (Or.inr rfl))(hd:(x == ("__debug__":Str))=false:=by decide)(hcd:(x == ("__classdict__":Str))=false:=by decide):PE X (.Name x pos) (ci i):=(IW hN hv hd hcd).imp λσ H Q h=>by
 unfold ci at h;split at h
 .rename_i v e;exact⟨v,e,h⟩
 .exact h.elim
def kJ(op:Operator)(ta tb:TE):TE:=λσ H Q=>ta σ H λx H1=>tb σ H1 λy H2=>kL op x y H2 Q
theorem ak(ha:PE X a ta)(hb:PE X b tb):PE X (.BinOp a op b pos) (kJ op ta tb):=MX (Jh op) ha hb
def dE(K:Frag)(op:S4)(ta tb:TE):TE:=λσ H Q=>ta σ H λx H1=>tb σ H1 λy H2=>a9 K op x y H2 Q
def eT(Q:Bool->Hp->Prop):VK:=λx H=>match x with| .bl k=>Q k H|_=>False
theorem dF(h:eT Q x H):∃k,x=.bl k/\Q k H:=by
 unfold eT at h;split at h
 .exact⟨_,rfl,h⟩
 .exact h.elim
theorem J3(hu:X.A.units+20<QT)(ha:PE X a ta)(hb:PE X b tb)(hm:behindInMarks op b=false:=by first|exact jN _|with_unfolding_all rfl):PE X (.Compare a [op] [b] pos) (dE X.K op ta tb):=CZ (gy op hu) ha hb hm
def dD(t:TE):TT:=λσ H Q=>t σ H (eT Q)
theorem J0(hu:X.A.units+20<QT)(ha:PE X a ta)(hb:PE X b tb)(hm:behindInMarks op b=false:=by first|exact jN _|with_unfolding_all rfl):PT X (.Compare a [op] [b] pos) (dD (dE X.K op ta tb)):=by
 intro Pw s σ H Q I h;refine RR (bL (ha Pw s σ H _ I h) λv s1 ⟨x,H1,I1,r1,q1⟩=>bL (hb Pw s1 σ H1 _ I1 q1) λu s2 ⟨y,H2,I2,r2,q2⟩=>
  bL (gy op hu Pw s2 σ H2 x y v u _ I2 r1 r2 q2) λc s3 ⟨z,H3,I3,r3,q3⟩=>?_) hm
 obtain⟨k,e,q3⟩:=dF q3;subst e;cases r3;exact Qr ⟨H3,I3,q3⟩
def ly(K:Frag)(op op':S4)(ta tb tc:TE):TE:=λσ H Q=>ta σ H λx H1=>tb σ H1 λy H2=>a9 K op x y H2 (eT λk H3=>if k=true then tc σ H3 λw' H4=>a9 K op' y w' H4 Q else Q (.bl false) H3)
theorem BV(hu:X.A.units+20<QT)(ha:PE X a ta)(hb:PE X b tb)(hc:PE X c tc)(hm:TU [op,op'] [b,c]=false:=by with_unfolding_all rfl):PE X (.Compare a [op,op'] [b,c] pos) (ly X.K op op' ta tb tc):=by
 intro Pw s σ H Q I h;refine Compare_chain (bL (ha Pw s σ H _ I h) λv s1 ⟨x,H1,I1,r1,q1⟩=>chain_link (bL (hb Pw s1 σ H1 _ I1 q1) λu s2 ⟨y,H2,I2,r2,q2⟩=>
  bL (gy op hu Pw s2 σ H2 x y v u _ I2 r1 r2 q2) λd s3 ⟨z,H3,I3,r3,q3⟩=>?_)) hm
 obtain⟨k,e,q3⟩:=dF q3;subst e;cases r3;refine Qr ?_;cases k with
 |false=>exact ite_ff ⟨.bl false,H3,I3,rfl,q3⟩
 |true=>exact ite_tt (chain_last (bL (hc Pw s3 σ H3 _ I3 q3) λw' s4 ⟨z',H4,I4,r4,q4⟩=>gy op' hu Pw s4 σ H4 y z' u w' Q I4 r2 r4 q4))
def kH(K:Frag)(op op':S4)(ta tb tc:TE):TT:=λσ H Q=>ta σ H λx H1=>tb σ H1 λy H2=>a9 K op x y H2 (eT λk H3=>if k=true then tc σ H3 λw' H4=>a9 K op' y w' H4 (eT Q)else Q false H3)
theorem BO(hu:X.A.units+20<QT)(ha:PE X a ta)(hb:PE X b tb)(hc:PE X c tc)(hm:TU [op,op'] [b,c]=false:=by with_unfolding_all rfl):PT X (.Compare a [op,op'] [b,c] pos) (kH X.K op op' ta tb tc):=by
 intro Pw s σ H Q I h;refine isTrue_chain (bL (ha Pw s σ H _ I h) λv s1 ⟨x,H1,I1,r1,q1⟩=>test_link (bL (hb Pw s1 σ H1 _ I1 q1) λu s2 ⟨y,H2,I2,r2,q2⟩=>
  bL (gy op hu Pw s2 σ H2 x y v u _ I2 r1 r2 q2) λd s3 ⟨z,H3,I3,r3,q3⟩=>?_)) hm
 obtain⟨k,e,q3⟩:=dF q3;subst e;cases r3;refine Qr ?_;cases k with
 |false=>exact ite_ff ⟨H3,I3,q3⟩
 |true=>
  refine ite_tt (test_last (bL (hc Pw s3 σ H3 _ I3 q3) λw' s4 ⟨z',H4,I4,r4,q4⟩=>bL (gy op' hu Pw s4 σ H4 y z' u w' _ I4 r2 r4 q4) λd' s5 ⟨z2,H5,I5,r5,q5⟩=>?_));obtain⟨k2,e2,q5⟩:=dF q5;subst e2;cases r5;exact Qr ⟨H5,I5,q5⟩
theorem bM(h:PE X e t)(he:∀whole,T2 e X.env whole=(do let v<-whole;standAt e.pos;Sw [v] (truthy v)):=by intro _;rfl):PT X e (dD t):=by intro Pw s σ H Q I hw;refine isTrue_plain (bL (h Pw s σ H _ I hw) λv s1 ⟨x,H1,I1,r1,q1⟩=>?_) (he _);obtain⟨d,rfl,q⟩:=dF q1;cases r1;exact Qr ⟨H1,I1,q⟩
variable{rest:List Qx}
def uy(ta tb:TE):TE:=λσ H Q=>ta σ H (eT λc H1=>if c=true then tb σ H1 Q else Q (.bl false) H1)
def DG(ta tb:TE):TE:=λσ H Q=>ta σ H (eT λc H1=>if c=true then Q (.bl true) H1 else tb σ H1 Q)
def xN(ta:TE):TE:=λσ H Q=>ta σ H (eT λc H1=>Q (.bl (!c)) H1)
theorem fc(ha:PE X a ta)(hb:PE X (.BoolOp .And (b::rest) pos) tb):PE X (.BoolOp .And (a::b::rest) pos) (uy ta tb):=by
 intro Pw s σ H Q I h;refine BoolOp_and (bL (ha Pw s σ H _ I h) λv s1 ⟨x,H1,I1,r1,q1⟩=>?_);obtain⟨c,rfl,q1⟩:=dF q1;cases r1;refine Qr ?_;cases c with
 |true=>exact hb Pw s1 σ H1 Q I1 q1
 |false=>exact⟨.bl false,H1,I1,rfl,q1⟩
theorem NL(ha:PE X a ta)(hb:PE X (.BoolOp .Or (b::rest) pos) tb):PE X (.BoolOp .Or (a::b::rest) pos) (DG ta tb):=by
 intro Pw s σ H Q I h;refine BoolOp_or (bL (ha Pw s σ H _ I h) λv s1 ⟨x,H1,I1,r1,q1⟩=>?_);obtain⟨c,rfl,q1⟩:=dF q1;cases r1;refine Qr ?_;cases c with
 |false=>exact hb Pw s1 σ H1 Q I1 q1
 |true=>exact⟨.bl true,H1,I1,rfl,q1⟩
theorem BR(ha:PE X a ta):PE X (.UnaryOp .Not a pos) (xN ta):=by intro Pw s σ H Q I h;refine UnaryOp_ (bL (ha Pw s σ H _ I h) λv s1 ⟨x,H1,I1,r1,q1⟩=>?_);obtain⟨c,rfl,q1⟩:=dF q1;cases r1;exact not_of (Qr ⟨.bl (!c),H1,I1,rfl,q1⟩)
def BZ(ta:TE):TE:=λσ H Q=>ta σ H λx H1=>match x with| .int i=>Q (.int (-i)) H1|_=>False
theorem jQ(ha:PE X a ta):PE X (.UnaryOp .USub a pos) (BZ ta):=by
 intro Pw s σ H Q I h;refine UnaryOp_ (bL (ha Pw s σ H _ I h) λv s1 ⟨x,H1,I1,r1,q1⟩=>?_);cases x with
 |int i=>exact Ii Pw s1 σ H1 _ v Q I1 r1 ⟨i,rfl,q1⟩
 |_=>exact q1.elim
end
theorem cb:Qc "len"=some (.builtin "len"):=by decide+kernel
theorem rP:Qc "all"=some (.builtin "all"):=by decide+kernel
theorem J6:Qc "any"=some (.builtin "any"):=by decide+kernel
theorem bu:Qc "isinstance"=some (.builtin "isinstance"):=by decide+kernel
theorem lA:Qc "sorted"=some (.builtin "sorted"):=by decide+kernel
theorem rN:Qc "int"=some (.type "int"):=by decide+kernel
theorem xQ:Qc "bool"=some (.type "bool"):=by decide+kernel
theorem rL:Qc "str"=some (.type "str"):=by decide+kernel
theorem jr:Qc "list"=some (.type "list"):=by decide+kernel
theorem uz:Qc "tuple"=some (.type "tuple"):=by decide+kernel
theorem DK:Qc "dict"=some (.type "dict"):=by decide+kernel
theorem rM:Qc "set"=some (.type "set"):=by decide+kernel
theorem uA:Qc "reversed"=some (.type "reversed"):=by decide+kernel
theorem rO:Qc "enumerate"=some (.type "enumerate"):=by decide+kernel
theorem B3:Qc "zip"=some (.type "zip"):=by decide+kernel
inductive BT|int|bool|str|list|tuple|dict
 deriving DecidableEq
def BT.s:BT->String
 | .int=>"int" | .bool=>"bool" | .str=>"str" | .list=>"list" | .tuple=>"tuple" | .dict=>"dict"
def cW:BT->BT->Bool
 | .bool,.int=>true
 | .int,.int=>true| .bool,.bool=>true| .str,.str=>true| .list,.list=>true| .tuple,.tuple=>true| .dict,.dict=>true
 |_,_=>false
theorem kit_bt(K:Frag)(a T:BT):WX K (.type a.s) (.type T.s)=some (cW a T):=by cases a<;>cases T<;>kernel_rfl
theorem Df(K:Frag)(T:BT):WX K (.type "NoneType") (.type T.s)=some false:=by cases T<;>kernel_rfl
def uJ(T:BT)(x:V)(H:Hp)(Q:VK):Prop:=match x with
 | .non=>Q (.bl false) H
 | .bl _=>Q (.bl (cW .bool T)) H
 | .int _=>Q (.bl (cW .int T)) H
 | .str _=>Q (.bl (cW .str T)) H
 | .ref a=>match H a with
   |some (.lst _)=>Q (.bl (cW .list T)) H
   |some (.frz _ (.lst _))=>Q (.bl (cW .list T)) H
   |some (.tup _)=>Q (.bl (cW .tuple T)) H
   |some (.dK _)=>Q (.bl (cW .dict T)) H
   |_=>False
 |_=>False
section
variable{X:Cx}{a b c e o:Qx}{ta tb tc te to:TE}{p p2 pos:So}{es:List Qx}{t:TA}
theorem Np(T:BT){Pw:PQ}{s:PZ}{σ:St}{H:Hp}{x:V}{u:h9}{Q:VK}(I:aJ X Pw σ H s)(rx:aQ x u)(h:uJ T x H Q):P2 (P7 X.prog X.w) X.A (call (.builtin "isinstance") [u,.type T.s]) (EP X Pw σ Q) X.xe s:=by
 have fin:∀{k:Bool}{tv:h9},lB X.K H x tv->WX X.K tv (.type T.s)=some k->Q (.bl k) H->P2 (P7 X.prog X.w) X.A (call (.builtin "isinstance") [u,.type T.s]) (EP X Pw σ Q) X.xe s:=λty e q=>
  y6 I rx ty e λtk=>⟨.bl _,H,I.tok tk,rfl,q⟩
 unfold uJ at h;cases x with
 |non=>exact fin .non (Df _ T) h
 |bl y=>exact fin (.bl y) (kit_bt _ .bool T) h
 |int y=>exact fin (.int y) (kit_bt _ .int T) h
 |str y=>exact fin (.str y) (kit_bt _ .str T) h
 |ref d=>
  dsimp only at h;split at h
  .rename_i e;exact fin (.lst e) (kit_bt _ .list T) h
  .rename_i e;exact fin (.frz e) (kit_bt _ .list T) h
  .rename_i e;exact fin (.tup e) (kit_bt _ .tuple T) h
  .rename_i e;exact fin (.dK e) (kit_bt _ .dict T) h
  .exact h.elim
 |_=>exact h.elim
def DH(T:BT)(ta:TE):TE:=λσ H Q=>ta σ H λx H1=>uJ T x H1 Q
theorem NN(T:BT)(ha:PE X a ta)(hg:Gl X "isinstance")(hm:X.mg "isinstance"=none)(hgT:Gl X n)(hmT:X.mg n=none)(hv:Qc n=some (.type T.s))(hn:n≠"__name__":=by decide)(hdb:(n == ("__debug__":Str))=false:=by decide)(he:P1 [a,.Name n p2] X.env=(false,Qk a X.env)::P1 [.Name n p2] X.env:=by rfl)(he2:P1 [.Name n p2] X.env=(false,Qk (.Name n p2) X.env)::P1 [] X.env:=by rfl)(hpl:(Qh pos (P1 [.Name n p2] X.env)).any (·.1)=false:=by rfl):PE X (.Call (.Name "isinstance" p) [a,.Name n p2] [] pos) (DH T ta):=by
 intro Pw s σ H Q I h;refine Qt (gP I hg hm bu ?_ (by decide) (by decide));have hA:PA X [a,.Name n p2] (ba ta (ba (tC (.ty T.s)) cE)):=pa_cons ha (pa_cons (xa hgT hmT hv rfl hn hdb) pan he2) he;refine PyProof.Rows.callWith_builtin1 (bL (hA pos Pw s σ H (λvs H1=>∃x,vs=[x,.ty T.s]/\uJ T x H1 Q) I ?_) λus s1 ⟨vs,H1,I1,r1,x,e,q1⟩=>?_) he hpl
 .have mono:(λ(x:V) H1=>uJ T x H1 Q)=λx H1=>(ba (tC (.ty T.s)) cE) σ H1 λxs H2=>∃y,x::xs=[y,.ty T.s]/\uJ T y H2 Q:=by
   funext x H1;apply propext
   constructor
   .intro q;exact⟨x,rfl,q⟩
   .rintro⟨y,e,q⟩;have:x=y:=by injection e
    subst this;exact q
  show ta σ H _;rw[<-mono];exact h
 .subst e;obtain⟨u,w',rfl,ru,rt⟩:=zH r1;cases rt;exact Np T I1 ru q1
theorem xT.imp(h:xT X r)(i:∀x y H Q,r' x y H Q->r x y H Q):xT X r':=λva sl Pw s σ H x y v u Q I rx ry q hs=>h va sl Pw s σ H x y v u Q I rx ry (i x y H Q q) hs
def JE(K:Frag)(x y:V)(H:Hp)(Q:VK):Prop:=match x,y with
 | .str z,.int i=>z.length<=fv/\∃c,jd z.cps.toList i=some c/\Q (.str ⟨#[c]⟩) H
 | .ref q,.int i=>∃xs v,(aO K H q xs\/da K H q xs)/\jd xs i=some v/\Q v H
 |_,_=>False
theorem O5:xT X (JE X.K):=(JD (X:=X)).imp λx y H Q h=>by
 unfold JE at h;split at h
 .obtain⟨h1,c,h2,q⟩:=h;exact .inr (.inr ⟨_,_,c,rfl,rfl,h1,h2,q⟩)
 .obtain⟨xs,v,h1,h2,q⟩:=h
  rcases h1 with h1|h1
  .exact .inl ⟨_,xs,_,v,rfl,rfl,h1,h2,q⟩
  .exact .inr (.inl ⟨_,xs,_,v,rfl,rfl,h1,h2,q⟩)
 .exact h.elim
def xP(K:Frag)(ta tb:TE):TE:=λσ H Q=>ta σ H λx H1=>tb σ H1 λy H2=>JE K x y H2 Q
theorem NM(ha:PE X a ta)(hb:PE X b tb)(hs:mw b:=by exact λ_ _=>rfl):PE X (.Subscript a b pos) (xP X.K ta tb):=MY O5 ha hb hs
def nP(t:TE):TO:=λσ H Q=>t σ H λx H1=>match x with| .int i=>Q (some i) H1|_=>False
theorem cD(h:PE X e te):PO X (some e) (nP te):=by
 intro Pw s σ H Q I hw;rw[evalPart_some];refine bL (h Pw s σ H _ I hw) λu s1 ⟨x,H1,I1,r1,q1⟩=>?_;cases x with
 |int i=>
  obtain⟨t,rfl⟩:=r1;exact⟨some i,H1,I1,.int i t,q1⟩
 |_=>exact q1.elim
theorem zC.imp(h:zC X r)(i:∀x lo hi H Q,r' x lo hi H Q->r x lo hi H Q):zC X r':=λPw s σ H x v vl vu lo hi sl Q I rx hs pl pu q=>h Pw s σ H x v vl vu lo hi sl Q I rx hs pl pu (i x lo hi H Q q)
def Iz(K:Frag)(x:V)(lo hi:Option Int)(H:Hp)(Q:VK):Prop:=match x with
 | .str z=>z.length<=fv/\Q (.str (nG z lo hi)) H
 | .ref d=>∃xs,aO K H d xs/\∀q,H q=none->Q (.ref q) (upd H q (.lst (cutV xs lo hi)))
 |_=>False
theorem OS:zC X (Iz X.K):=((Iy (X:=X)).or Cy).imp λx lo hi H Q h=>by
 unfold Iz at h;split at h
 .exact .inl ⟨_,rfl,h.1,h.2⟩
 .obtain⟨xs,h1,h2⟩:=h;exact .inr ⟨_,xs,rfl,h1,h2⟩
 .exact h.elim
def BY(K:Frag)(te:TE)(tl th:TO):TE:=λσ H Q=>te σ H λx H1=>tl σ H1 λl H2=>th σ H2 λu H3=>Iz K x l u H3 Q
theorem NK{lo hi:Option Qx}(he:PE X e te)(hl:PO X lo tl)(hu:PO X hi th):PE X (.Subscript e (.Slice lo hi none p2) pos) (BY X.K te tl th):=AJ OS he hl hu
def cB(r:List V->Hp->VK->Prop)(t:TA):TE:=λσ H Q=>t σ H λvs H1=>r vs H1 Q
def tW(K:Frag)(xs:List V)(H:Hp)(Q:VK):Prop:=match xs with
 | [.str z]=>z.length<=fv/\Q (.int z.length) H
 | [.ref d]=>∃ys,(aO K H d ys\/da K H d ys)/\Q (.int ys.length) H
 |_=>False
theorem zt:bx X (.builtin "len") (tW X.K):=((rJ (X:=X)).or rH).imp λxs H Q h=>by
 unfold tW at h;split at h
 .exact .inr ⟨_,rfl,h.1,h.2⟩
 .obtain⟨ys,h1,h2⟩:=h;exact .inl ⟨_,ys,rfl,h1,h2⟩
 .exact h.elim
def M9(xs:List V)(H:Hp)(Q:VK):Prop:=match xs with
 | [.int i,.int j]=>Q (.int (if j<i then j else i)) H
 |_=>False
def Ct(xs:List V)(H:Hp)(Q:VK):Prop:=match xs with
 | [.int i]=>i.natAbs.log2<1920/\Q (.str (toString i)) H
 |_=>False
theorem zq:bx X (.type "str") Ct:=(rF (X:=X)).imp λxs H Q h=>by
 unfold Ct at h;split at h
 .exact⟨_,rfl,h.1,h.2⟩
 .exact h.elim
def y7(xs:List V)(H:Hp)(Q:VK):Prop:=match xs with
 | [.str x]=>∃n,PySem.intText? x=some n/\x.length<=640/\Q (.int n) H
 | [.bl k]=>Q (.int (if k then 1 else 0)) H
 |_=>False
theorem pL:bx X (.type "int") y7:=((oz (X:=X)).or zu).imp λxs H Q h=>by
 unfold y7 at h;split at h
 .obtain⟨n,h1,h2,q⟩:=h;exact .inl ⟨_,n,rfl,h1,h2,q⟩
 .exact .inr (.inr ⟨_,rfl,h⟩)
 .exact h.elim
def DQ(K:Frag)(xs:List V)(H:Hp)(Q:VK):Prop:=match xs with
 | [.ref d]=>∃ks:List Bool,aO K H d (ks.map V.bl)/\Q (.bl (ks.all id)) H
 |_=>False
theorem zw(hc:X.calm=true):bx X (.builtin "all") (DQ X.K):=(BW hc).imp λxs H Q h=>by
 unfold DQ at h;split at h
 .obtain⟨ks,h1,q⟩:=h;exact⟨_,ks,rfl,h1,q⟩
 .exact h.elim
theorem Pg{id:String}{x:Str}{r:List V->Hp->VK->Prop}(hc:bx X (.builtin id) r)(hv:Qc x=some (.builtin id))(hm:X.mg x=none)(ha:PA X (e::es) t)(hg:Gl X x:=by rfl)(hn:x≠"__name__":=by decide)(hdb:(x == ("__debug__":Str))=false:=by decide)(he:P1 (e::es) X.env=(false,Qk e X.env)::P1 es X.env:=by rfl)(hpl:(Qh pos (P1 es X.env)).any (·.1)=false:=by rfl):PE X (.Call (.Name x p) (e::es) [] pos) (cB r t):=AN hc hg hm hv ha hn hdb he hpl
theorem HW(hc:bx X (.type T) r)(hv:Qc x=some (.type T))(hm:X.mg x=none)(ha:PA X (e::es) t)(hg:Gl X x:=by rfl)(hn:x≠"__name__":=by decide)(hdb:(x == ("__debug__":Str))=false:=by decide)(he:P1 (e::es) X.env=(false,Qk e X.env)::P1 es X.env:=by rfl)(hpl:(Qh pos (P1 es X.env)).any (·.1)=false:=by rfl):PE X (.Call (.Name x p) (e::es) [] pos) (cB r t):=yJ hc hg hm hv ha hn hdb he hpl
def NP(r:V->List V->Hp->VK->Prop)(to:TE)(t:TA):TE:=λσ H Q=>to σ H λx H1=>match x with| .str z=>t σ H1 λxs H2=>r (.str z) xs H2 Q|_=>False
theorem NJ{name:Str}{apos cpos:So}{id:String}{r:V->List V->Hp->VK->Prop}(slot:Slot "str" name id)(hty:TZ (.builtin id)=pure (.type "method_descriptor"))(hm:uL X id r)(ho:PE X o to)(ha:PA X (e::es) t)(hbase:Qw o name X.env (Qk o X.env)=Qk o X.env:=by rfl)(hfew:((Qh cpos (P1 (e::es) X.env)).all (λx=> !x.1)&&(RB cpos (Q7 [] X.env)).all (λx=>x.1.isSome)
   &&decide ((e::es).length+([]:List Q0).length+(if([]:List Q0).isEmpty then 0 else 1)<30))=true:=by rfl) (hline:(apos.endLine == cpos.line)=true:=by rfl) (hs:P1 (e::es) X.env=(false,Qk e X.env)::P1 es X.env:=by rfl) (hplain:(Qh cpos (P1 es X.env)).any (·.1)=false:=by rfl):PE X (.Call (.Attribute o name apos) (e::es) [] cpos) (NP r to t):=by
 intro Pw s σ H Q I h;refine QO hbase hfew hline rfl (bL (ho Pw s σ H _ I h) λv s1 ⟨x,H1,I1,r1,q1⟩=>?_);cases x with
 |str z=>
  have ty:Hm X.K "str" (.str z) H1:=rfl;obtain⟨h1,h2⟩:=jJ I1 r1 ty;refine⟨"str",id,PySem.F.plainAttrs_str,slot,hty,h1,h2,?_⟩;have hA:=ha cpos Pw s1 σ H1 _ I1 q1;rw[hs]at hA ⊢;refine Qu (by show(false||(Qh cpos (P1 es X.env)).any (·.1))=false;rw[hplain]<;>rfl) (QA ?_)
  exact bL hA λus s2 ⟨vs,H2,I2,r2,q2⟩=>hm Pw s2 σ H2 _ vs v us Q I2 r1 r2 q2
 |_=>exact q1.elim
def wf(r:V->List V->Hp->VK->Prop)(to:TE):TE:=λσ H Q=>to σ H λx H1=>match x with| .str z=>r (.str z) [] H1 Q|_=>False
theorem nN{name:Str}{apos cpos:So}{id:String}{r:V->List V->Hp->VK->Prop}(slot:Slot "str" name id)(hty:TZ (.builtin id)=pure (.type "method_descriptor"))(hm:uL X id r)(ho:PE X o to)(hbase:Qw o name X.env (Qk o X.env)=Qk o X.env:=by rfl)(hline:(apos.endLine == cpos.line)=true:=by rfl):PE X (.Call (.Attribute o name apos) [] [] cpos) (wf r to):=by
 intro Pw s σ H Q I h;refine wpAny_Call_method0_late hbase hline (bL (ho Pw s σ H _ I h) λv s1 ⟨x,H1,I1,r1,q1⟩=>?_);cases x with
 |str z=>
  have ty:Hm X.K "str" (.str z) H1:=rfl;obtain⟨h1,h2⟩:=jJ I1 r1 ty;exact⟨"str",id,PySem.F.plainAttrs_str,slot,hty,h1,h2,Qu rfl (PySem.evalArgs_none (hm Pw s1 σ H1 _ [] v [] Q I1 r1 .nil q1))⟩
 |_=>exact q1.elim
def swA(x:V)(vs:List V)(H:Hp)(Q:VK):Prop:=match x,vs with
 | .str a,[.str b]=>Q (.bl (b.cps.toList.isPrefixOf a.cps.toList)) H
 |_,_=>False
def t7(K:Frag)(x:V)(vs:List V)(H:Hp)(Q:VK):Prop:=match x,vs with
 | .str sep,[.ref d]=>∃ys:List Str,aO K H d (ys.map V.str)/\(ys.map (·.length)).sum+ys.length*sep.length<=16777216/\Q (.str (RL sep ys)) H
 |_,_=>False
theorem A0:uL X "str.join" (t7 X.K):=(Dd (X:=X)).imp λx vs H Q h=>by
 unfold t7 at h;split at h
 .obtain⟨ys,h1,h2,q⟩:=h;exact⟨_,_,ys,rfl,rfl,h1,h2,q⟩
 .exact h.elim
def Hl(x:V)(vs:List V)(H:Hp)(Q:VK):Prop:=match x,vs with
 | .str a,[]=>a.length<=fv/\(∀c∈a.cps.toList,c<128)/\Q (.str ⟨a.cps.map up1⟩) H
 |_,_=>False
theorem AY:uL X "str.upper" Hl:=(AW (X:=X)).imp λx vs H Q h=>by
 unfold Hl at h;split at h
 .exact⟨_,rfl,rfl,h.1,h.2.1,h.2.2⟩
 .exact h.elim
def B2(to te:TE):TE:=λσ H Q=>to σ H λx H1=>match x with
 | .ref l=>(∃xs,H1 l=some (.lst xs))/\te σ H1 λy H2=>∃xs,H2 l=some (.lst xs)/\xs.length<fv/\Q .non (upd H2 l (.lst (xs++[y])))
 |_=>False
theorem gS{apos cpos:So}(ho:PE X o to)(he:PE X e te)(hbase:Qw o "append" X.env (Qk o X.env)=Qk o X.env:=by rfl)(hfew:((Qh cpos (P1 [e] X.env)).all (λx=> !x.1)&&(RB cpos (Q7 [] X.env)).all (λx=>x.1.isSome)
   &&decide ([e].length+([]:List Q0).length+(if([]:List Q0).isEmpty then 0 else 1)<30))=true:=by rfl) (hline:(apos.endLine == cpos.line)=true:=by rfl) (hs:P1 [e] X.env=(false,Qk e X.env)::P1 [] X.env:=by rfl) (hplain:(Qh cpos (P1 [] X.env)).any (·.1)=false:=by rfl):PE X (.Call (.Attribute o "append" apos) [e] [] cpos) (B2 to te):=by
 intro Pw s σ H Q I h;refine QO hbase hfew hline rfl (bL (ho Pw s σ H _ I h) λv s1 ⟨x,H1,I1,r1,q1⟩=>?_);cases x with
 |ref l=>
  obtain⟨⟨xs0,e0⟩,q1⟩:=q1;have ty:Hm X.K "list" (.ref l) H1:=.inl ⟨rfl,xs0,aO.of e0⟩;obtain⟨h1,h2⟩:=jJ I1 r1 ty;refine⟨"list","list.append",PySem.F.plainAttrs_list,PySem.F.slot_list_append,PySem.F.type_list_append,h1,h2,?_⟩;have hA:=(pa_cons he pan hs:PA X [e] (ba te cE)) cpos Pw s1 σ H1 (λvs H2=>∃y,vs=[y]/\∃xs,H2 l=some (.lst xs)/\xs.length<fv/\Q .non (upd H2 l (.lst (xs++[y])))) I1 (by
   show te σ H1 λy H2=>∃y',[y]=[y']/\_;have:(λ(y:V)(H2:Hp)=>∃xs,H2 l=some (.lst xs)/\xs.length<fv/\Q .non (upd H2 l (.lst (xs++[y]))))=λy H2=>∃y',[y]=[y']/\∃xs,H2 l=some (.lst xs)/\xs.length<fv/\Q .non (upd H2 l (.lst (xs++[y']))):=by
    funext y H2;apply propext
    constructor
    .intro z;exact⟨y,rfl,z⟩
    .rintro⟨y',e,z⟩;have:y=y':=by injection e
     subst this;exact z
   rw[<-this];exact q1)
  rw[hs]at hA ⊢;refine Qu (by show(false||(Qh cpos (P1 [] X.env)).any (·.1))=false;rw[hplain]<;>rfl) (QA ?_)
  exact bL hA λus s2 ⟨vs,H2,I2,r2,y,e,xs,q3,q4,q5⟩=>yU Pw s2 σ H2 _ vs v us Q I2 r1 r2 ⟨l,xs,y,rfl,e,q3,q4,q5⟩
 |_=>exact q1.elim
structure dG(P:P6)(w:P9)(K:Frag)(mg:PN)(Px:Qe)(name:Str)(ps:List Str)(k:Nat)(sp:Sp):Prop where
 ex:∃f fd,bh P w K mg Px dm k f fd ps sp/\mg name=some (.ref f)/\W1 K (.ref f)=true/\ig K fd ps []
def cY(sp:Sp)(t:TA):TE:=λσ H Q=>t σ H λvs H1=>sp vs H1 Q E0
theorem DF(C:dG X.prog X.w X.K X.mg X.Px name ps k sp)(hr:cK j X.A)(hkj:k<=j)(ha:PA X (e::es) t)(hg:Gl X name:=by rfl)(hdb:(name == ("__debug__":Str))=false:=by decide)(he:P1 (e::es) X.env=(false,Qk e X.env)::P1 es X.env:=by rfl)(hpl:(Qh pos (P1 es X.env)).any (·.1)=false:=by rfl):PE X (.Call (.Name name p) (e::es) [] pos) (cY sp t):=by obtain⟨f,fd,F,hm,hk,hb⟩:=C.ex;refine(C1 F (hr.mono hkj) hg hm hk hb .nil AO ha hdb he hpl:PE X _ (zP sp [] E0 t)).imp λσ H Q h=>?_;unfold zP;simp only[Uo];exact h
end
end L2
namespace PySem
namespace F
theorem nolen_lriQ:RE (.type "list_reverseiterator") "__len__"=pure none:=by rw[Rc,QH];kernel_rfl
theorem hint_lriQ:RE (.type "list_reverseiterator") "__length_hint__"=pure (some (.builtin "list_reverseiterator.__length_hint__")):=by rw[Rc,QH];kernel_rfl
end F
end PySem
namespace L2
open PySem PySem.Spec PyProof.Rows
section
theorem uN(hh:A.handled=none)(I l:XB)(hne:l≠I)(items:Array h9):WalksS prog w A I [I,l] [I] (λa b=>a=b) items.size (λi v=>items[items.size - 1 - i]? =some v) (λi s=>i<=items.size/\s.heap.IsRevIter I l ((items.size:Int) - 1 - (i:Int))/\s.heap.IsList l items) where
 sub:=λb hb=>by simp at hb;simp[hb]
 grefl:=λ_=>rfl
 gtrans:=λ_ _ _ a b=>a.trans b
 frame:=λ_ _ _ _ x _ hk=>⟨x.1,x.2.1.at λo e=>hk I (by simp) o e,x.2.2.at λo e=>hk l (by simp) o e⟩
 item:=λi s Q E hi x hQ=>by
  have e:(items.size:Int) - 1 - (i:Int)=((items.size - 1 - i:Nat):Int):=by lia
  have hit:=x.2.1;rw[e]at hit;have hx:items[items.size - 1 - i]? =some (items[items.size - 1 - i]'(by lia)):=WF (by lia);refine wpAny_pyNext_rev_item hit x.2.2 hx λh' hit' hs'=>?_;have e2:((items.size - 1 - i:Nat):Int) - 1=(items.size:Int) - 1 - ((i+1:Nat):Int):=by lia
  rw[e2]at hit';exact hQ _ _ hx ⟨hi,hit',x.2.2.at λo eo=>(hs'.2 l hne).trans eo⟩ ⟨λb o hb eo=>hs'.extBut b o (λh=>hb (by simp[h])) eo,rfl,rfl,rfl,VO _⟩
 done:=λs Q E x hQ=>by
   have e:(items.size:Int) - 1 - (items.size:Int)= -1:=by lia
   have hit:=x.2.1;rw[e]at hit;exact wpAny_pyNext_rev_end hh hit λh' he'=>hQ _ ⟨λb o hb eo=>he' b o (λh=>hb (by simp[h])) eo,rfl,rfl,rfl,VO _⟩
 self:=λ_ _ _ _ x hQ=>wpAny_pyIter_revIter x.2.1 hQ
theorem ut{fp wr:List XB}{G:Array RY->Array RY->Prop}{n:Nat}{P:Nat->h9->Prop}{St:Nat->PZ->Prop}{Q:List h9->PZ->Prop}(W:WalksS prog w A.in1 I fp wr G n P St)(hT:∀i s,St i s->s.TypeIs (.ref I) "list_reverseiterator")(hst:St 0 s)(hfp:∀b∈fp,b<s.heap.objs.size)(hI:I∈fp)(hQ:∀s' acc,Moved wr G s s'->ItemsOf P acc n->Q acc.toList s')(hn:n<=fv):P2 (P7 prog w) A (TY (.ref I)) Q E s:=by
 have hSf:s.heap.objs.size∉fp:=λhm=>VV _ (hfp _ hm);have hSI:s.heap.objs.size≠I:=λe=>hSf (e▸hI);unfold TY;refine PU (R8 (Qn Td ?_));rw[Qi Tc _];show P2 _ A.in1 (newList [] >>= λl=>again (.builtin "list.__iadd__" ⟨[l,.ref I],[]⟩)) _ _ s;refine PU (QG ?_);refine PV ⟨Q6 RQ _,Qn F.entry_list_iadd ?_⟩;rw[Qi RQ _];have hst₁:=W.frame 0 s (s.heap.push {cls:=.type "list",data:=.seq ([]:List h9).toArray}) s.toks hst (VO _) λb _ o e=>PX _ e;have hS₁:(s.heap.push {cls:=.type "list",data:=.seq ([]:List h9).toArray}).get? s.heap.objs.size=some {cls:=.type "list",data:=.seq ([]:List h9).toArray}:=P5 _ rfl;have h1:QK (.ref s.heap.objs.size) (.ref I)=false:=by simp[QK,hSI]
 show P2 _ A.in1 (Q4 (.ref s.heap.objs.size) (.ref I) (.ref s.heap.objs.size)) _ _ _;unfold Q4;refine PU (Re (hT 0 _ hst₁) ?_);rw[PD (by rw[h1];decide)];refine PU (W.self 0 _ _ _ hst₁ ?_);refine PU (Qa ?_);unfold Rt;refine PU (Rp (hT 0 _ hst₁) F.nolen_lriQ ?_);show P2 _ A.in1 (specialOf (P8 I) (QC "__length_hint__") >>= _) _ _ _;refine PU (Rp (hT 0 _ hst₁) F.hint_lriQ ?_)
 (generalize hid:("list_reverseiterator.__length_hint__":String)=id0;(fail_if_success (clear hid id0));wp_delta;rw[show splitId id0=some ("list_reverseiterator","__length_hint__")from by subst hid;decide+kernel];subst hid)
 refine PU (Rl (b:=true) (hT 0 _ hst₁) (by rw[Sd];kernel_rfl) ?_);refine PV ?_;rw[PD (by decide)];refine PV ⟨Q6 F.plain_extend_loop _,codeAny_extend_loopS W hn _ hSf _ n 0 _ _ _ rfl (VQ _) hst₁ hS₁ (ItemsOf.nil P) λs' acc' c' hm hS' hacc=>?_⟩;show P2 _ A (load s.heap.objs.size >>= _) _ _ s';refine PU (wpAny_load hS' ?_);exact PV (hQ s' acc' (Moved.drop_new (o:={cls:=.type "list",data:=.seq ([]:List h9).toArray}) (tk:=s.toks) hm (VO _)) hacc)
theorem mC:∀{l:List (Str×Tok)}{ys:List Str},(∀(i:Nat)(v:h9),(R6 l)[i]? =some v->∃y t,ys[i]? =some y/\v=R7 y t)->l.length=ys.length->l.map (·.1)=ys:=by
 intro l ys h hl;apply UM;intro i;rw[Ub]
 by_cases hi:i<l.length
 .have e:(R6 l)[i]? =some (R7 (l[i]).1 (l[i]).2):=by unfold R6;rw[Ub,Ua hi];rfl
  obtain⟨y,t,h1,h2⟩:=h i _ e;injection h2 with h3 h4;rw[Ua hi,h1,<-h3];rfl
 .rw[Uz (by lia),Uz (by lia)];rfl
theorem Be(hh:A.handled=none)(hne:l≠I)(hit:s.heap.IsRevIter I l ((its.length:Int) - 1))(hl:s.heap.IsList l its.toArray)(hi:StrsAre its ys)(hsz:its.length<=fv)(hok:JoinOk x ys.reverse=true)(h:∀s' t' k,Moved [I] (λa b=>a=b) s s'->Q (.str (RL x ys.reverse) t') {s' with toks:=k}):P2 (P7 prog w) A (call (.builtin "str.join") [.str x t,.ref I]) Q E s:=by
 have hlen:its.length=ys.length:=hi.length;have W:=uN (prog:=prog) (w:=w) (A:=A.in1.in1) (show A.in1.in1.handled=none from hh) I l hne its.toArray;have hst:0<=its.toArray.size/\s.heap.IsRevIter I l ((its.toArray.size:Int) - 1 - ((0:Nat):Int))/\s.heap.IsList l its.toArray:=⟨VQ _,by simpa using hit,hl⟩;have hfp:∀b∈[I,l],b<s.heap.objs.size:=λb hb=>by
  rcases T8.mp hb with e|hb
  .obtain⟨o,ho,_⟩:=hit;rw[e];exact PY ho
  .obtain⟨o,ho,_⟩:=hl;rw[Ud.mp hb];exact PY ho
 refine Rv (Rh F.slot_str_join.plain F.entry_str_join (F.slot_str_join.check _ _ _ _ _ _ _ _ (Rw _ _ _) (F.args_str_join_2 _ _) ?_));rw[join_tree_other];refine PU (Re hit.typeIs ?_);show P2 _ A.in1 ((pyIter (.ref I)).tryCatch _ >>= λit=>TY it >>= λitems=>joinTail x items) _ _ s;refine PU (wpAny_tryCatch (W.of_in1.self 0 s _ _ hst ?_));refine PU (ut W (λi s x=>x.2.1.typeIs) hst hfp (by simp) (λs' acc hm hacc=>?_) (by simpa using hsz));obtain⟨l',hl'⟩:=exists_strValues acc.toList λv hv=>by
  obtain⟨j,hj,rfl⟩:=Array.mem_iff_getElem.mp (WN.mp hv);have hP:=hacc.2 j _ (WF hj);have hP:its[its.length - 1 - j]? =some acc[j]:=by simpa using hP
  have hb:its.length - 1 - j<ys.length:=by have:=(Um.mp hP).1;lia
  obtain⟨t',e⟩:=hi.get _ _ (Ua hb);rw[hP]at e;exact⟨_,t',PL e⟩
 have hmap:l'.map (·.1)=ys.reverse:=by
  refine mC (λi v hv=>?_) ?_
  .rw[hl']at hv;have hv:acc[i]? =some v:=by simpa using hv
   have hP:=hacc.2 i v hv;have hP:its[its.length - 1 - i]? =some v:=by simpa using hP
   have hi2:i<its.length:=by have:=(Array.getElem?_eq_some_iff.mp hv).1;have:=hacc.1;simp at this;lia
   have hb:its.length - 1 - i<ys.length:=by lia
   obtain⟨t',e⟩:=hi.get _ _ (Ua hb);rw[hP]at e;refine⟨_,t',?_,PL e⟩;rw[List.getElem?_reverse (by lia)];have e3:ys.length - 1 - i=its.length - 1 - i:=by lia
   rw[e3,Ua hb]
  .have h1:(R6 l').length=acc.toList.length:=by rw[hl']
   have h2:(R6 l').length=l'.length:=by unfold R6;simp
   have h3:=hacc.1;rw[VD];simp at h1 h3;lia
 rw[<-hl'];have hok':=hok;rw[<-hmap]at hok';unfold JoinOk at hok';rw[Wz]at hok';have g:Gives (joinTail x (R6 l')) (joinMade x l'):=by
  have g0:=gives_joinTail x l' hok';cases l' with
  |nil=>exact g0
  |cons p r=>cases r with
   |nil=>exact g0
   |cons q r'=>exact g0
 refine g prog w A (wants Q E) s' (post_join l' ⟨joinFit_length hok',λt' k=>?_⟩);rw[hmap];exact h s' t' k hm
end
section
def Ph(K:Frag)(to te:TE):TE:=λσ H Q=>to σ H λx H1=>match x with
 | .str sep=>te σ H1 λy H2=>match y with
   | .ref d=>∃ys:List Str,aO K H2 d (ys.map V.str)/\(ys.map (·.length)).sum+ys.length*sep.length<=16777216/\Q (.str (RL sep ys.reverse)) H2
   |_=>False
 |_=>False
theorem sk:∀l:List Nat,l.reverse.sum=l.sum:=by
 intro l
 induction l with
 |nil=>rfl
 |cons a l ih=>rw[List.reverse_cons,List.sum_append,ih];simp;lia
theorem v9{p p2 apos cpos:So}(hc:X.calm=true)(ho:PE X o to)(he:PE X e te)(hm:X.mg "reversed"=none)(hg:Gl X "reversed":=by rfl)(hbase:Qw o "join" X.env (Qk o X.env)=Qk o X.env:=by rfl)(hfew:((Qh cpos (P1 [.Call (.Name "reversed" p) [e] [] p2] X.env)).all (λx=> !x.1)&&(RB cpos (Q7 [] X.env)).all (λx=>x.1.isSome)
   &&decide ([Expr.Call (.Name "reversed" p) [e] [] p2].length+([]:List Q0).length+(if([]:List Q0).isEmpty then 0 else 1)<30))=true:=by rfl) (hline:(apos.endLine == cpos.line)=true:=by rfl) (hs:P1 [.Call (.Name "reversed" p) [e] [] p2] X.env=(false,Qk (.Call (.Name "reversed" p) [e] [] p2) X.env)::P1 [] X.env:=by rfl) (hplain:(Qh cpos (P1 [] X.env)).any (·.1)=false:=by rfl) (hs2:P1 [e] X.env=(false,Qk e X.env)::P1 [] X.env:=by rfl) (hpl2:(Qh p2 (P1 [] X.env)).any (·.1)=false:=by rfl):PE X (.Call (.Attribute o "join" apos) [.Call (.Name "reversed" p) [e] [] p2] [] cpos) (Ph X.K to te):=by
 intro Pw s σ H Q I h;refine QO hbase hfew hline rfl (bL (ho Pw s σ H _ I h) λv s1 ⟨x,H1,I1,r1,q1⟩=>?_);cases x with
 |str sep=>
  have ty:Hm X.K "str" (.str sep) H1:=rfl;obtain⟨h1,h2⟩:=jJ I1 r1 ty;obtain⟨tk,rfl⟩:=r1;refine⟨"str","str.join",PySem.F.plainAttrs_str,PySem.F.slot_str_join,PySem.F.type_str_join,h1,h2,?_⟩;rw[hs];refine Qu (by show(false||(Qh cpos (P1 [] X.env)).any (·.1))=false;rw[hplain]<;>rfl) (QA ?_)
  show P2 _ _ (TX ((false,Qk (.Call (.Name "reversed" p) [e] [] p2) X.env)::Qh cpos (P1 [] X.env))) _ _ s1;refine QM ?_;refine Qt (gP I1 hg hm uA ?_ (by decide) (by decide));have hA:PA X [e] (ba te cE):=pa_cons he pan hs2;refine PyProof.Rows.callWith_type1 (bL (hA p2 Pw s1 σ H1 (λvs H2=>∃y,vs=[y]/\(match y with
   | .ref d=>∃ys:List Str,aO X.K H2 d (ys.map V.str)/\(ys.map (·.length)).sum+ys.length*sep.length<=16777216/\Q (.str (RL sep ys.reverse)) H2
   |_=>False)) I1 ?_) λus s2 ⟨vs,H2,I2,r2,y,e2,q2⟩=>?_) hs2 hpl2
  .show te σ H1 _;have q1':=q1;have:(λ(y:V)(H2:Hp)=>match y with
    | .ref d=>∃ys:List Str,aO X.K H2 d (ys.map V.str)/\(ys.map (·.length)).sum+ys.length*sep.length<=16777216/\Q (.str (RL sep ys.reverse)) H2
    |_=>False)=λy H2=>∃y',[y]=[y']/\(match y' with
    | .ref d=>∃ys:List Str,aO X.K H2 d (ys.map V.str)/\(ys.map (·.length)).sum+ys.length*sep.length<=16777216/\Q (.str (RL sep ys.reverse)) H2
    |_=>False):=by
    funext y H2;apply propext
    constructor
    .intro z;exact⟨y,rfl,z⟩
    .rintro⟨y',e,z⟩;have:y=y':=by injection e
     subst this;exact z
   dsimp only at q1';rw[this]at q1';exact q1'
  .subst e2;obtain⟨u,rfl,ru⟩:=dQ r2;cases y with
   |ref d=>
    obtain⟨ys,hd,hz,q⟩:=q2;cases ru;obtain⟨its,rv,pl,hl⟩:=I2.list hd;have hlen:=rv.length;rw[T7]at hlen hl;refine call_reversed_list pl.isList ?_;have I3:aJ X Pw σ H2 {s2 with heap:=s2.heap.push (revObj d ((its.toArray.size:Int) - 1))}:=I2.kept (t':=s2.toks) λb ob q=>PX _ q;refine Ri ?_;have hne:d≠s2.heap.objs.size:=by obtain⟨ob,hob,_⟩:=pl.isList;exact VP (PY hob)
    have hfp:ix X Pw H2 s2.heap.objs.size:=I2.fpOk (VO _) I2.fresh;refine Be (its:=its) (ys:=ys) (I.ok.hd hc) hne ⟨_,P5 _ rfl,rfl,by simp[revObj]⟩ (pl.isList.at λob q=>PX _ q) (jK rv) (by lia) (joinOk_of ?_) λs' t' k hm=>?_
    .rw[List.map_reverse,sk,VD];exact hz
    .refine⟨.str _,H2,?_,⟨t',rfl⟩,q⟩;have J:aJ X Pw σ H2 {s2 with heap:=s'.heap,toks:=k}:=by have z:=I3.turned (it:=s2.heap.objs.size) (h':=s'.heap) (t':=k) (λb ob hb e=>hm.heap b ob (by simpa using hb) e) hfp.1 hfp.2.1 hfp.2.2.2.1 hfp.2.2.2.2.1 hfp.2.2.2.2.2;exact z
     have e1:s'.gens=s2.gens:=hm.gens.symm;have e2:s'.drawn=s2.drawn:=hm.drawn;have e3:s'.os=s2.os:=hm.os;obtain⟨sh,sg,sd,st,so⟩:=s';cases e1;cases e2;cases e3;exact J
   |_=>exact q2.elim
 |_=>exact q1.elim
end
section
theorem AK(hg:Gl X x)(h:∃u,X.mg x=some u/\aQ v u)(hd:(x == ("__debug__":Str))=false:=by decide):PE X (.Name x pos) (tC v):=by obtain⟨u,hm,r⟩:=h;exact CW hg hm r hd
end
theorem bZ(hr:cK k A):A.units+20<QT:=by have:=hr.units;lia
theorem aj.upd(h:aj H H')(hd:H' d=none):aj H (upd H' d o):=λb ob e=>by have e':=h b ob e;rw[au (ay e' hd)];exact e'
section
variable{X:Cx}{a b c e o:Qx}{ta tb tc te to:TE}{p p2 pos:So}{es:List Qx}{t:TA}
theorem ls(K:Frag)(hu:X.A.units+20<QT)(ha:PE X a ta)(hb:PE X b tb)(hm:behindInMarks op b=false:=by first|exact jN _|with_unfolding_all rfl)(hK:X.K=K:=by rfl):PE X (.Compare a [op] [b] pos) (dE K op ta tb):=by subst hK;exact J3 hu ha hb hm
theorem aN(K:Frag)(hu:X.A.units+20<QT)(ha:PE X a ta)(hb:PE X b tb)(hm:behindInMarks op b=false:=by first|exact jN _|with_unfolding_all rfl)(hK:X.K=K:=by rfl):PT X (.Compare a [op] [b] pos) (dD (dE K op ta tb)):=by subst hK;exact J0 hu ha hb hm
theorem vQ(K:Frag)(hu:X.A.units+20<QT)(ha:PE X a ta)(hb:PE X b tb)(hc:PE X c tc)(hm:TU [op,op'] [b,c]=false:=by with_unfolding_all rfl)(hK:X.K=K:=by rfl):PE X (.Compare a [op,op'] [b,c] pos) (ly K op op' ta tb tc):=by subst hK;exact BV hu ha hb hc hm
theorem mn(K:Frag)(hu:X.A.units+20<QT)(ha:PE X a ta)(hb:PE X b tb)(hc:PE X c tc)(hm:TU [op,op'] [b,c]=false:=by with_unfolding_all rfl)(hK:X.K=K:=by rfl):PT X (.Compare a [op,op'] [b,c] pos) (kH K op op' ta tb tc):=by subst hK;exact BO hu ha hb hc hm
theorem cj(K:Frag)(ha:PE X a ta)(hb:PE X b tb)(hs:mw b:=by exact λ_ _=>rfl)(hK:X.K=K:=by rfl):PE X (.Subscript a b pos) (xP K ta tb):=by subst hK;exact NM ha hb hs
theorem xm(K:Frag){lo hi:Option Qx}(he:PE X e te)(hl:PO X lo tl)(hu:PO X hi th)(hK:X.K=K:=by rfl):PE X (.Subscript e (.Slice lo hi none p2) pos) (BY K te tl th):=by subst hK;exact NK he hl hu
theorem ib(K:Frag)(hK:X.K=K:=by rfl):bx X (.builtin "len") (tW K):=by subst hK;exact zt
theorem Dg(K:Frag)(hc:X.calm=true:=by rfl)(hK:X.K=K:=by rfl):bx X (.builtin "all") (DQ K):=by subst hK;exact zw hc
theorem Nk(K:Frag)(hK:X.K=K:=by rfl):uL X "str.join" (t7 K):=by subst hK;exact A0
theorem rS(K:Frag)(hl:PE X l tl)(hK:X.K=K:=by rfl):PI X tg l (pC K tl):=by subst hK;exact CS hl
theorem kpt(K:Frag)(hl:PE X l tl)(hK:X.K=K:=by rfl):PI X tg l (JH K tl):=by subst hK;exact IS hl
theorem Nl(K:Frag){n:Nat}{k:Nat}{t:Cj}(h:Ia X es t)(hc:X.calm=true:=by rfl)(hn:(QQ es X.env).length=n:=by rfl)(hst:List.findIdx? (λx=>x.1) (QQ es X.env)=none:=by rfl)(hK:X.K=K:=by rfl):PG X (.Tuple es k pos) (Bq K n t):=by subst hK;exact IT hc h hn hst
theorem kg(h:∃u,X.mg x=some u/\aQ v u)(hg:Gl X x:=by rfl)(hd:(x == ("__debug__":Str))=false:=by decide):PE X (.Name x pos) (tC v):=AK hg h hd
theorem A9(T:BT)(hm:X.mg "isinstance"=none)(hmT:X.mg n=none)(hv:Qc n=some (.type T.s))(ha:PE X a ta)(hg:Gl X "isinstance":=by rfl)(hgT:Gl X n:=by rfl)(hn:n≠"__name__":=by decide)(hdb:(n == ("__debug__":Str))=false:=by decide)(he:P1 [a,.Name n p2] X.env=(false,Qk a X.env)::P1 [.Name n p2] X.env:=by rfl)(he2:P1 [.Name n p2] X.env=(false,Qk (.Name n p2) X.env)::P1 [] X.env:=by rfl)(hpl:(Qh pos (P1 [.Name n p2] X.env)).any (·.1)=false:=by rfl):PE X (.Call (.Name "isinstance" p) [a,.Name n p2] [] pos) (DH T ta):=NN T ha hg hm hgT hmT hv hn hdb he he2 hpl
theorem Cf{tg:Qx}{ta:TA}(hm:X.mg "range"=none)(ha:PA X [a] ta)(hg:Gl X "range":=by rfl)(hs:P1 [a] X.env=[(false,Qk a X.env)]:=by rfl):PI X tg (.Call (.Name "range" p) [a] [] pos) (nB ta):=yI hg hm ha hs
theorem kjr(K:Frag){apos cpos:So}(hm:X.mg "reversed"=none)(ho:PE X o to)(he:PE X e te)(hc:X.calm=true:=by rfl)(hg:Gl X "reversed":=by rfl)(hbase:Qw o "join" X.env (Qk o X.env)=Qk o X.env:=by rfl)(hfew:((Qh cpos (P1 [.Call (.Name "reversed" p) [e] [] p2] X.env)).all (λx=> !x.1)&&(RB cpos (Q7 [] X.env)).all (λx=>x.1.isSome)
   &&decide ([Expr.Call (.Name "reversed" p) [e] [] p2].length+([]:List Q0).length+(if([]:List Q0).isEmpty then 0 else 1)<30))=true:=by rfl) (hline:(apos.endLine == cpos.line)=true:=by rfl) (hs:P1 [.Call (.Name "reversed" p) [e] [] p2] X.env=(false,Qk (.Call (.Name "reversed" p) [e] [] p2) X.env)::P1 [] X.env:=by rfl) (hplain:(Qh cpos (P1 [] X.env)).any (·.1)=false:=by rfl) (hs2:P1 [e] X.env=(false,Qk e X.env)::P1 [] X.env:=by rfl) (hpl2:(Qh p2 (P1 [] X.env)).any (·.1)=false:=by rfl) (hK:X.K=K:=by rfl):PE X (.Call (.Attribute o "join" apos) [.Call (.Name "reversed" p) [e] [] p2] [] cpos) (Ph K to te):=by
 subst hK;exact v9 hc ho he hm hg hbase hfew hline hs hplain hs2 hpl2
theorem cc(dsc:RS)(XN:List Str)(h:v7 dsc XN N src scope=true:=by decide+kernel)(he:X.env.scope=dsc:=by rfl)(hN:X.N=XN:=by rfl):cp X N src scope:=cp.of he hN h
theorem bo{i:Nat}{x:Str}(N:List Str)(hN:N.Nodup:=by decide+kernel)(hi:X.N[i]? =some x:=by rfl)(hx:Ib X.env.scope x:=by first|exact Or.inl rfl|exact Or.inr rfl)(hf:X.fn x=true\/X.env.scope.names.lookup x=some .local:=by first|exact .inl rfl|exact .inr rfl)(hNX:X.N=N:=by rfl):PG X (.Name x pos) (gName i):=
 w6 (hNX▸hN) hi hx hf
theorem fQ(S:cp X N src scope)(hi:PI X tg iter wi)(hg:∀s H ex,PG (cxC X scope N s H ex) tg g)(ht:∀s H ex,uG (cxC X scope N s H ex) ifs tt)(he:∀s H ex,PE (cxC X scope N s H ex) e te)(hc:X.calm=true:=by rfl)(hs:∀x,RJ iter X.env x=pure x:=by intro _;rfl):PE X (.ListComp e [⟨tg,iter,ifs,0⟩] scope pos) (tComp wi g tt te src):=CY hc S hi hg ht he hs
end
theorem Aw{K:Frag}{i j:Int}{H:Hp}{Q:VK}:(a9 K .Eq (.int i) (.int j) H Q)=(Q (.bl (decide (i=j))) H):=rfl
theorem Ak{K:Frag}{i j:Int}{H:Hp}{Q:VK}:(a9 K .NotEq (.int i) (.int j) H Q)=(Q (.bl (!decide (i=j))) H):=rfl
theorem Au{K:Frag}{i j:Str}{H:Hp}{Q:VK}:(a9 K .Eq (.str i) (.str j) H Q)=(Q (.bl (decide (i=j))) H):=rfl
theorem Aj{K:Frag}{i j:Str}{H:Hp}{Q:VK}:(a9 K .NotEq (.str i) (.str j) H Q)=(Q (.bl (!decide (i=j))) H):=rfl
theorem CN{K:Frag}{i j:Bool}{H:Hp}{Q:VK}:(a9 K .Eq (.bl i) (.bl j) H Q)=(Q (.bl (decide (i=j))) H):=rfl
theorem CI{K:Frag}{i j:Bool}{H:Hp}{Q:VK}:(a9 K .NotEq (.bl i) (.bl j) H Q)=(Q (.bl (!decide (i=j))) H):=rfl
theorem CM{K:Frag}{H:Hp}{Q:VK}:(a9 K .Eq .non .non H Q)=(Q (.bl true) H):=rfl
theorem CH{K:Frag}{H:Hp}{Q:VK}:(a9 K .NotEq .non .non H Q)=(Q (.bl (!true)) H):=rfl
theorem qH{K:Frag}{i:Int}{j:Str}{H:Hp}{Q:VK}:(a9 K .Eq (.int i) (.str j) H Q)=(Q (.bl false) H):=rfl
theorem qz{K:Frag}{i:Int}{j:Str}{H:Hp}{Q:VK}:(a9 K .NotEq (.int i) (.str j) H Q)=(Q (.bl (!false)) H):=rfl
theorem qI{K:Frag}{i:Int}{H:Hp}{Q:VK}:(a9 K .Eq (.int i) .non H Q)=(Q (.bl false) H):=rfl
theorem qA{K:Frag}{i:Int}{H:Hp}{Q:VK}:(a9 K .NotEq (.int i) .non H Q)=(Q (.bl (!false)) H):=rfl
theorem qE{K:Frag}{i:Str}{j:Int}{H:Hp}{Q:VK}:(a9 K .Eq (.str i) (.int j) H Q)=(Q (.bl false) H):=rfl
theorem qw{K:Frag}{i:Str}{j:Int}{H:Hp}{Q:VK}:(a9 K .NotEq (.str i) (.int j) H Q)=(Q (.bl (!false)) H):=rfl
theorem tD{K:Frag}{i:Str}{j:Bool}{H:Hp}{Q:VK}:(a9 K .Eq (.str i) (.bl j) H Q)=(Q (.bl false) H):=rfl
theorem sV{K:Frag}{i:Str}{j:Bool}{H:Hp}{Q:VK}:(a9 K .NotEq (.str i) (.bl j) H Q)=(Q (.bl (!false)) H):=rfl
theorem qD{K:Frag}{i:Str}{H:Hp}{Q:VK}:(a9 K .Eq (.str i) .non H Q)=(Q (.bl false) H):=rfl
theorem qv{K:Frag}{i:Str}{H:Hp}{Q:VK}:(a9 K .NotEq (.str i) .non H Q)=(Q (.bl (!false)) H):=rfl
theorem tF{K:Frag}{i:Bool}{j:Str}{H:Hp}{Q:VK}:(a9 K .Eq (.bl i) (.str j) H Q)=(Q (.bl false) H):=rfl
theorem sX{K:Frag}{i:Bool}{j:Str}{H:Hp}{Q:VK}:(a9 K .NotEq (.bl i) (.str j) H Q)=(Q (.bl (!false)) H):=rfl
theorem tG{K:Frag}{i:Bool}{H:Hp}{Q:VK}:(a9 K .Eq (.bl i) .non H Q)=(Q (.bl false) H):=rfl
theorem sY{K:Frag}{i:Bool}{H:Hp}{Q:VK}:(a9 K .NotEq (.bl i) .non H Q)=(Q (.bl (!false)) H):=rfl
theorem qG{K:Frag}{j:Int}{H:Hp}{Q:VK}:(a9 K .Eq .non (.int j) H Q)=(Q (.bl false) H):=rfl
theorem qy{K:Frag}{j:Int}{H:Hp}{Q:VK}:(a9 K .NotEq .non (.int j) H Q)=(Q (.bl (!false)) H):=rfl
theorem qF{K:Frag}{j:Str}{H:Hp}{Q:VK}:(a9 K .Eq .non (.str j) H Q)=(Q (.bl false) H):=rfl
theorem qx{K:Frag}{j:Str}{H:Hp}{Q:VK}:(a9 K .NotEq .non (.str j) H Q)=(Q (.bl (!false)) H):=rfl
theorem tE{K:Frag}{j:Bool}{H:Hp}{Q:VK}:(a9 K .Eq .non (.bl j) H Q)=(Q (.bl false) H):=rfl
theorem sW{K:Frag}{j:Bool}{H:Hp}{Q:VK}:(a9 K .NotEq .non (.bl j) H Q)=(Q (.bl (!false)) H):=rfl
theorem CK{K:Frag}{a b:XB}{H:Hp}{Q:VK}:(a9 K .Eq (.ref a) (.ref b) H Q)=(∃k,wu K H 20 (.ref a) (.ref b) k/\Q (.bl k) H):=rfl
theorem CG{K:Frag}{a b:XB}{H:Hp}{Q:VK}:(a9 K .NotEq (.ref a) (.ref b) H Q)=(∃k,wu K H 20 (.ref a) (.ref b) k/\Q (.bl (!k)) H):=rfl
theorem Am{K:Frag}{i j:Int}{H:Hp}{Q:VK}:(a9 K .Lt (.int i) (.int j) H Q)=(Q (.bl (decide (i<j))) H):=rfl
theorem lh{K:Frag}{i j:Int}{H:Hp}{Q:VK}:(a9 K .LtE (.int i) (.int j) H Q)=(Q (.bl (decide (i<=j))) H):=rfl
theorem At{K:Frag}{i j:Int}{H:Hp}{Q:VK}:(a9 K .Gt (.int i) (.int j) H Q)=(Q (.bl (decide (j<i))) H):=rfl
theorem yF{K:Frag}{i j:Int}{H:Hp}{Q:VK}:(a9 K .GtE (.int i) (.int j) H Q)=(Q (.bl (decide (j<=i))) H):=rfl
theorem Al{K:Frag}{i j:Str}{H:Hp}{Q:VK}:(a9 K .Lt (.str i) (.str j) H Q)=(Q (.bl (decide (i.cps.toList<j.cps.toList))) H):=rfl
theorem oV{K:Frag}{i j:Str}{H:Hp}{Q:VK}:(a9 K .LtE (.str i) (.str j) H Q)=(Q (.bl (!decide (j.cps.toList<i.cps.toList))) H):=rfl
theorem tu{K:Frag}{i j:Str}{H:Hp}{Q:VK}:(a9 K .In (.str i) (.str j) H Q)=(Q (.bl (!(Qd j i 0 j.length 1).isEmpty)) H):=rfl
theorem sU{K:Frag}{i j:Str}{H:Hp}{Q:VK}:(a9 K .NotIn (.str i) (.str j) H Q)=(Q (.bl (!(!(Qd j i 0 j.length 1).isEmpty))) H):=rfl
theorem j9{K:Frag}{i:Int}{d:XB}{H:Hp}{Q:VK}:(a9 K .In (.int i) (.ref d) H Q)=(wY K false (.int i) (.ref d) H Q):=rfl
theorem iC{K:Frag}{i:Int}{d:XB}{H:Hp}{Q:VK}:(a9 K .NotIn (.int i) (.ref d) H Q)=(wY K true (.int i) (.ref d) H Q):=rfl
theorem As{K:Frag}{i:Int}{H:Hp}{Q:VK}:(a9 K .Is (.int i) .non H Q)=(Q (.bl false) H):=rfl
theorem tm{K:Frag}{i:Int}{H:Hp}{Q:VK}:(a9 K .IsNot (.int i) .non H Q)=(Q (.bl true) H):=rfl
theorem io{K:Frag}{i:Str}{d:XB}{H:Hp}{Q:VK}:(a9 K .In (.str i) (.ref d) H Q)=(wY K false (.str i) (.ref d) H Q):=rfl
theorem lU{K:Frag}{i:Str}{d:XB}{H:Hp}{Q:VK}:(a9 K .NotIn (.str i) (.ref d) H Q)=(wY K true (.str i) (.ref d) H Q):=rfl
theorem Ap{K:Frag}{i:Str}{H:Hp}{Q:VK}:(a9 K .Is (.str i) .non H Q)=(Q (.bl false) H):=rfl
theorem sZ{K:Frag}{i:Str}{H:Hp}{Q:VK}:(a9 K .IsNot (.str i) .non H Q)=(Q (.bl true) H):=rfl
theorem tw{K:Frag}{i:Bool}{d:XB}{H:Hp}{Q:VK}:(a9 K .In (.bl i) (.ref d) H Q)=(wY K false (.bl i) (.ref d) H Q):=rfl
theorem mW{K:Frag}{i:Bool}{d:XB}{H:Hp}{Q:VK}:(a9 K .NotIn (.bl i) (.ref d) H Q)=(wY K true (.bl i) (.ref d) H Q):=rfl
theorem CJ{K:Frag}{i:Bool}{H:Hp}{Q:VK}:(a9 K .Is (.bl i) .non H Q)=(Q (.bl false) H):=rfl
theorem vp{K:Frag}{i:Bool}{H:Hp}{Q:VK}:(a9 K .IsNot (.bl i) .non H Q)=(Q (.bl true) H):=rfl
theorem qC{K:Frag}{d:XB}{H:Hp}{Q:VK}:(a9 K .In .non (.ref d) H Q)=(wY K false .non (.ref d) H Q):=rfl
theorem lW{K:Frag}{d:XB}{H:Hp}{Q:VK}:(a9 K .NotIn .non (.ref d) H Q)=(wY K true .non (.ref d) H Q):=rfl
theorem Ar{K:Frag}{H:Hp}{Q:VK}:(a9 K .Is .non .non H Q)=(Q (.bl true) H):=rfl
theorem tj{K:Frag}{H:Hp}{Q:VK}:(a9 K .IsNot .non .non H Q)=(Q (.bl false) H):=rfl
theorem qB{K:Frag}{i:XB}{d:XB}{H:Hp}{Q:VK}:(a9 K .In (.ref i) (.ref d) H Q)=(wY K false (.ref i) (.ref d) H Q):=rfl
theorem lV{K:Frag}{i:XB}{d:XB}{H:Hp}{Q:VK}:(a9 K .NotIn (.ref i) (.ref d) H Q)=(wY K true (.ref i) (.ref d) H Q):=rfl
theorem Aq{K:Frag}{i:XB}{H:Hp}{Q:VK}:(a9 K .Is (.ref i) .non H Q)=(Q (.bl false) H):=rfl
theorem tf{K:Frag}{i:XB}{H:Hp}{Q:VK}:(a9 K .IsNot (.ref i) .non H Q)=(Q (.bl true) H):=rfl
theorem MS:(kL .Add (.int i) (.int j) H Q)=(Q (.int (i+j)) H):=rfl
theorem IM:(kL .Add (.str i) (.str j) H Q)=(i.length+j.length<=fv/\Q (.str (i++j)) H):=rfl
theorem Ax:(kL .Add (.ref a) (.ref b) H Q)=(IN (.ref a) (.ref b) H Q):=rfl
theorem MG:(kL .Sub (.int i) (.int j) H Q)=(Q (.int (i - j)) H):=rfl
theorem MM:(kL .Mult (.int i) (.int j) H Q)=(zB i j/\Q (.int (i*j)) H):=rfl
theorem IL:(kL .FloorDiv (.int i) (.int j) H Q)=(DX i j/\Q (.int (i / j)) H):=rfl
theorem MN:(kL .Mod (.int i) (.int j) H Q)=(0<j/\Q (.int (i % j)) H):=rfl
theorem ML:(kL .Pow (.int i) (.int j) H Q)=(Kk i j/\Q (.int (i ^ j.toNat)) H):=rfl
theorem MP{K:Frag}{z:Str}{i:Int}{H:Hp}{Q:VK}:(JE K (.str z) (.int i) H Q)=(z.length<=fv/\∃c,jd z.cps.toList i=some c/\Q (.str ⟨#[c]⟩) H):=rfl
theorem MQ{K:Frag}{d:XB}{i:Int}{H:Hp}{Q:VK}:(JE K (.ref d) (.int i) H Q)=(∃xs v,(aO K H d xs\/da K H d xs)/\jd xs i=some v/\Q v H):=rfl
theorem MI{K:Frag}{z:Str}{lo hi:Option Int}{H:Hp}{Q:VK}:(Iz K (.str z) lo hi H Q)=(z.length<=fv/\Q (.str (nG z lo hi)) H):=rfl
theorem MJ{K:Frag}{d:XB}{lo hi:Option Int}{H:Hp}{Q:VK}:(Iz K (.ref d) lo hi H Q)=(∃xs,aO K H d xs/\∀q,H q=none->Q (.ref q) (upd H q (.lst (cutV xs lo hi)))):=rfl
theorem IH{K:Frag}{z:Str}{H:Hp}{Q:VK}:(tW K [.str z] H Q)=(z.length<=fv/\Q (.int z.length) H):=rfl
theorem II{K:Frag}{d:XB}{H:Hp}{Q:VK}:(tW K [.ref d] H Q)=(∃ys,(aO K H d ys\/da K H d ys)/\Q (.int ys.length) H):=rfl
theorem MO:(M9 [.int i,.int j] H Q)=(Q (.int (if j<i then j else i)) H):=rfl
theorem MH:(Ct [.int i] H Q)=(i.natAbs.log2<1920/\Q (.str (toString i)) H):=rfl
theorem IJ:(y7 [.str z] H Q)=(∃n,PySem.intText? z=some n/\z.length<=640/\Q (.int n) H):=rfl
theorem IK:(y7 [.bl k] H Q)=(Q (.int (if k then 1 else 0)) H):=rfl
theorem MR{K:Frag}{d:XB}{H:Hp}{Q:VK}:(DQ K [.ref d] H Q)=(∃ks:List Bool,aO K H d (ks.map V.bl)/\Q (.bl (ks.all id)) H):=rfl
theorem OT:(swA (.str a) [.str b] H Q)=(Q (.bl (b.cps.toList.isPrefixOf a.cps.toList)) H):=rfl
theorem An{K:Frag}{a:Str}{d:XB}{H:Hp}{Q:VK}:(t7 K (.str a) [.ref d] H Q)=(∃ys:List Str,aO K H d (ys.map V.str)/\(ys.map (·.length)).sum+ys.length*a.length<=16777216/\Q (.str (RL a ys)) H):=rfl
theorem IG:(Hl (.str a) [] H Q)=(a.length<=fv/\(∀c∈a.cps.toList,c<128)/\Q (.str ⟨a.cps.map up1⟩) H):=rfl
theorem yD:(uJ T .non H Q)=(Q (.bl false) H):=rfl
theorem Ao:(uJ T (.bl b) H Q)=(Q (.bl (cW .bool T)) H):=rfl
theorem yE:(uJ T (.int b) H Q)=(Q (.bl (cW .int T)) H):=rfl
theorem yB:(uJ T (.str b) H Q)=(Q (.bl (cW .str T)) H):=rfl
theorem r_b:eT Q (.bl k) H=Q k H:=rfl
def eX:Qx->Bool
 | .Starred _ _=>false
 |_=>true
theorem eC(h:eX e=true):P1 (e::es) env=(false,Qk e env)::P1 es env:=by
 cases e<;>first|rfl|cases h
theorem fZ:∀{es:List Qx},es.all eX=true->(Qh pos (P1 es env)).any (·.1)=false
 | [],_=>rfl
 |e::es,h=>by
  rw[Uy,Ws]at h;rw[eC h.1];show(false||(Qh pos (P1 es env)).any (·.1))=false
  rw[fZ h.2];rfl
theorem B9:∀{es:List Qx},es.all eX=true->(Qh pos (P1 es env)).all (λx=> !x.1)=true
 | [],_=>rfl
 |e::es,h=>by rw[Uy,Ws]at h;rw[eC h.1];show(!false&&(Qh pos (P1 es env)).all (λx=> !x.1))=true;rw[B9 h.2];rfl
section
variable{X:Cx}{a b c e o:Qx}{p p2 pos:So}{es:List Qx}{t:TA}
theorem az(ha:PE X e te)(hr:PA X es t)(h:eX e=true:=by rfl):PA X (e::es) (ba te t):=pa_cons ha hr (eC h)
theorem aH(C:dG X.prog X.w X.K X.mg X.Px name ps k sp)(hr:cK j X.A)(ha:PA X (e::es) t)(hkj:k<=j:=by decide)(hp:(e::es).all eX=true:=by rfl)(hg:Gl X name:=by rfl)(hdb:(name == ("__debug__":Str))=false:=by decide):PE X (.Call (.Name name p) (e::es) [] pos) (cY sp t):=by have hp':=hp;rw[Uy,Ws]at hp';exact DF C hr hkj ha hg hdb (eC hp'.1) (fZ hp'.2)
theorem kB{id:String}{x:Str}{r:List V->Hp->VK->Prop}(hc:bx X (.builtin id) r)(hv:Qc x=some (.builtin id))(hm:X.mg x=none)(ha:PA X (e::es) t)(hp:(e::es).all eX=true:=by rfl)(hg:Gl X x:=by rfl)(hn:x≠"__name__":=by decide)(hdb:(x == ("__debug__":Str))=false:=by decide):PE X (.Call (.Name x p) (e::es) [] pos) (cB r t):=by have hp':=hp;rw[Uy,Ws]at hp';exact Pg hc hv hm ha hg hn hdb (eC hp'.1) (fZ hp'.2)
theorem Cg(hc:bx X (.type T) r)(hv:Qc x=some (.type T))(hm:X.mg x=none)(ha:PA X (e::es) t)(hp:(e::es).all eX=true:=by rfl)(hg:Gl X x:=by rfl)(hn:x≠"__name__":=by decide)(hdb:(x == ("__debug__":Str))=false:=by decide):PE X (.Call (.Name x p) (e::es) [] pos) (cB r t):=by have hp':=hp;rw[Uy,Ws]at hp';exact HW hc hv hm ha hg hn hdb (eC hp'.1) (fZ hp'.2)
theorem ksm{name:Str}{apos cpos:So}{id:String}{r:V->List V->Hp->VK->Prop}(slot:Slot "str" name id)(hty:TZ (.builtin id)=pure (.type "method_descriptor"))(hm:uL X id r)(ho:PE X o to)(ha:PA X (e::es) t)(hp:(e::es).all eX=true:=by rfl)(hl:(e::es).length<20:=by decide)(hbase:Qw o name X.env (Qk o X.env)=Qk o X.env:=by rfl)(hline:(apos.endLine == cpos.line)=true:=by rfl):PE X (.Call (.Attribute o name apos) (e::es) [] cpos) (NP r to t):=by have hp':=hp;rw[Uy,Ws]at hp';refine NJ slot hty hm ho ha hbase ?_ hline (eC hp'.1) (fZ hp'.2);rw[B9 hp];show(true&&true&&decide ((e::es).length+0+0<30))=true;rw[Pz (by lia)];rfl
end
end L2
namespace L2
open PySem
theorem cO(P:St->Hp->Prop)(h:∀K:St->Hp->Prop,(∀σ' H',P σ' H'->K σ' H')->t {D with nx:=K} σ H)(h2:∀σ' H',P σ' H'->u D σ' H'):bg t u D σ H:=h (u D) h2
theorem bC(P:V->Hp->Prop)(h:∀Q:VK,(∀v H',P v H'->Q v H')->te σ H Q)(h2:∀v H',P v H'->u D (σ.set i (some v)) H'):bg (tAsg te (gName i)) u D σ H:=h _ h2
theorem gk(P:Bool->Hp->Prop)(hc:∀Q:Bool->Hp->Prop,(∀b H',P b H'->Q b H')->c σ H Q)(h1:∀H',P true H'->t {D with nx:=u D} σ H')(h2:∀H',P false H'->u D σ H'):bg (ju c t mz) u D σ H:=by
 refine hc _ λb H' p=>?_;cases b with
 |true=>exact iG (h1 H' p)
 |false=>exact gF (h2 H' p)
def jq:List Qx->Option (List V)
 | []=>some []
 | .Constant (.int i) _ _::r=>(jq r).map (V.int i:: ·)
 | .Constant (.str x) _ _::r=>(jq r).map (V.str x:: ·)
 | .Constant (.bool b) _ _::r=>(jq r).map (V.bl b:: ·)
 | .Constant .none _ _::r=>(jq r).map (V.non:: ·)
 |_=>none
def Pj(vs:List V):TA:=λ_ H Q=>Q vs H
theorem di:∀{es:List Qx}{vs:List V},jq es=some vs->PA X es (Pj vs):=by
 intro es
 induction es with
 |nil=>intro vs h;cases h;exact pan
 |cons e r ih=>
  intro vs h;unfold jq at h;split at h
  .rename_i e1;cases e1
  .rename_i e1;cases e1;obtain⟨ws,h1,h2⟩:=WQ.mp h;subst h2;exact az ag (ih h1)
  .rename_i e1;cases e1;obtain⟨ws,h1,h2⟩:=WQ.mp h;subst h2;exact az aP (ih h1)
  .rename_i e1;cases e1;obtain⟨ws,h1,h2⟩:=WQ.mp h;subst h2;exact az gw (ih h1)
  .rename_i e1;cases e1;obtain⟨ws,h1,h2⟩:=WQ.mp h;subst h2;exact az dq (ih h1)
  .cases h
theorem nI(n:Nat)(N:Nat->List V->St->Hp->Prop)(hn:n<=fv)(hlen:∀i ys σ H,N i ys σ H->ys.length<=i)(hgo:∀i ys σ H,N i ys σ H->i<n->J.go i H)(hstop:∀ys σ H,N n ys σ H->J.stop n H)(h0:N 0 [] (eW src σ) H1)(hturn:∀i ys σ' H' x H2,i<n->N i ys σ' H'->J.yld i H' x H2->∀(Kt:V->St->Hp->Prop)(Kf:St->Hp->Prop),(∀v σ3 H5,N (i+1) (ys++[v]) σ3 H5->Kt v σ3 H5)->(∀σ3 H4,N (i+1) ys σ3 H4->Kf σ3 H4)->
   g x σ' H2 λσ3 H3=>tt σ3 H3 λb H4=>if b=true then te σ3 H4 λv H5=>Kt v σ3 H5 else Kf σ3 H4) (hQ:∀ys σ' H' d,N n ys σ' H'->H' d=none->Q (.ref d) (upd H' d (.lst ys))):dC g tt te src σ Q J H1:=by
 refine⟨λi m ys σ' H'=>m=n - i/\i<=n/\N i ys σ' H',⟨n,by simp,VQ _,h0⟩,?_⟩;rintro i m ys σ' H' ⟨rfl,hi,hN⟩
 by_cases hlt:i<n
 .refine .inr ⟨hgo i ys σ' H' hN hlt,?_,λx H2 y=>?_⟩
  .have:=hlen i ys σ' H' hN;lia
  .exact hturn i ys σ' H' x H2 hlt hN y _ _ (λv σ3 H5 h=>⟨n - (i+1),by lia,rfl,hlt,h⟩) (λσ3 H4 h=>⟨n - (i+1),by lia,rfl,hlt,h⟩)
 .have e:i=n:=by lia
  subst e;exact .inl ⟨hstop ys σ' H' hN,λd hd=>hQ ys σ' H' d hN hd⟩
theorem Bw(n:Int)(hta:∀Q:List V->Hp->Prop,Q [.int n] H->ta σ H Q)(h0: -(2 ^ 62)<=n)(h1:n<2 ^ 62)(Pv:Nat->St->Hp->Prop)(hp0:Pv 0 σ H)(hs:∀i σ H,i<n.toNat->Pv i σ H->g (.int (0+i)) σ H λσ2 H2=>tb {D with nx:=Pv (i+1),ct:=Pv (i+1),bk:=D.nx} σ2 H2)(hd:∀σ H,Pv n.toNat σ H->D.nx σ H):tFor (nB ta) g tb D σ H:=
 hta _ ⟨n,rfl,h0,h1,pE Pv hp0 hs hd⟩
theorem iX(P:V->Hp->Prop)(htl:∀Q:VK,(∀v H',P v H'->Q v H')->tl σ H Q)(h:∀v H',P v H'->∃d xs,v=.ref d/\aO K H' d xs/\∃Pv:Nat->St->Hp->Prop,Pv 0 σ H'/\(∀i σ H,i<=xs.length->Pv i σ H->aO K H d xs)/\
   (∀(i:Nat) x σ H,xs[i]? =some x->Pv i σ H->g x σ H λσ2 H2=>tb {D with nx:=Pv (i+1),ct:=Pv (i+1),bk:=D.nx} σ2 H2)/\(∀σ H,Pv xs.length σ H->D.nx σ H)):tFor (pC K tl) g tb D σ H:=
 htl _ λv H' p=>by obtain⟨d,xs,rfl,hq,Pv,a,b,c,e⟩:=h v H' p;exact⟨d,rfl,⟨xs,hq⟩,Bx Pv a b c e⟩
theorem pV(P:Bool->Hp->Prop)(hc:∀Q:Bool->Hp->Prop,(∀b H',P b H'->Q b H')->c σ H Q)(h1:∀H',P true H'->t D σ H')(h2:∀H',P false H'->D.nx σ H'):ju c t mz D σ H:=by
 refine hc _ λb H' p=>?_;cases b with
 |true=>exact iG (h1 H' p)
 |false=>exact gF (h2 H' p)
end L2
namespace L2
open PySem PySem.Spec PyProof.Rows
def uniq(ns:List Int):List Int:=firstMet (λi=>ns.getD i 0) ns.length
theorem vo(ns:List Int):(List.range ns.length).map (λi=>ns.getD i 0)=ns:=by
 apply UM;intro i;rw[Ub]
 by_cases h:i<ns.length
 .rw[UI h,Ua h];show some (ns.getD i 0)=_;rw[Ug,Ua h];rfl
 .rw[Uz (by rw[UH];lia),Uz (by lia)];rfl
theorem iY(val:Nat->Int):∀i,(firstMet val i).length=i<->((List.range i).map val).Nodup
 |0=>by simp[firstMet_zero]
 |i+1=>by
  have ih:=iY val i;have hle:=firstMet_length_le val i;have ha:=firstMet_any val i (val i);rw[firstMet_succ,UU,Uq,U2];unfold step_dedup
  by_cases h:(firstMet val i).any (· == val i)=true
  .rw[PF h]
   constructor
   .intro e;lia
   .intro e;rw[ha,UD]at h;obtain⟨x,hx,e2⟩:=h;have:x=val i:=beq_iff_eq.mp e2;exact PK this (e.2.2 x hx (val i) (by simp))
  .rw[PD h,Uj,Vl]
   constructor
   .intro e;refine⟨ih.mp (by lia),by simp,λx hx y hy=>?_⟩;have hy':y=val i:=by simpa using hy
    subst hy';intro e3;apply h;rw[ha,UD];exact⟨x,hx,beq_iff_eq.mpr e3⟩
   .intro e;rw[ih.mpr e.1]
theorem zI(ns:List Int):(uniq ns).length=ns.length<->ns.Nodup:=by unfold uniq;rw[iY,vo]
section
def IA(K:Frag)(xs:List V)(H:Hp)(Q:VK):Prop:=match xs with
 | [.ref d]=>∃ns:List Int,aO K H d (ns.map V.int)/\ns.length+1<scanBound/\∀q,H q=none->Q (.ref q) (upd H q (.set (λk=>(uniq ns).any (· == k)) (uniq ns).length))
 |_=>False
theorem zr(hh:X.A.handled=none):bx X (.type "set") (IA X.K):=by
 intro Pw s σ H xs us Q I r h;unfold IA at h;split at h
 .rename_i d;obtain⟨ns,hq,hb,q⟩:=h;obtain⟨u,rfl,rx⟩:=dQ r;cases rx;obtain⟨its,r',pl,hz⟩:=I.list hq;have hlen:=r'.length;rw[T7]at hlen;have hi:Tk its.toArray.toList ns:=nA r';have hs:its.toArray.size=ns.length:=by rw[Uc,<-hlen]
  refine call_set_list hh pl.isList hi (by rw[hs];exact hb) λh' tk hS kp=>?_;rw[hs]at hS;have k2:∀b u,s.heap.get? b=some u->h'.get? b=some u:=λb u e=>kp b u (PY e) e;exact⟨.ref s.heap.objs.size,_,I.laid (t':=tk) k2 (VO _) (show bE X.prog X.w _ h' _ (.set _ _)from hS),rfl,q _ (I.hok.fresh (VO _))⟩
 .exact h.elim
def HG(xs:List V)(H:Hp)(Q:VK):Prop:=match xs with
 | [.ref d]=>∃S n,H d=some (.set S n)/\Q (.int n) H
 |_=>False
theorem we:bx X (.builtin "len") HG:=by
 intro Pw s σ H xs us Q I r h;unfold HG at h;split at h
 .rename_i d;obtain⟨S,n,hd,q⟩:=h;obtain⟨u,rfl,rx⟩:=dQ r;cases rx;obtain⟨o,es,ep,t,h1,h2,h3,_,_,h6,h7,h8⟩:=(show bE X.prog X.w H s.heap d (.set S n)from I.hok d _ hd);subst h8;have hb:es.size<4096:=h6;exact PySem.call_len_set h1 h2 h3 h7 (by lia) ⟨.int es.size,H,I.tok _,⟨_,rfl⟩,q⟩
 .exact h.elim
def Aa(K:Frag)(xs:List V)(H:Hp)(Q:VK):Prop:=match xs with
 | [.ref d]=>∃ns:List Int,aO K H d (ns.map V.int)/\ns.length<64/\∀(ns':List Int) q,ns'.Perm ns->ns'.Pairwise (·<=·)->H q=none->Q (.ref q) (upd H q (.lst (ns'.map V.int)))
 |_=>False
theorem wa:bx X (.builtin "sorted") (Aa X.K):=by
 intro Pw s σ H xs us Q I r h;unfold Aa at h;split at h
 .rename_i d;obtain⟨ns,hq,hb,q⟩:=h;obtain⟨u,rfl,rx⟩:=dQ r;cases rx;obtain⟨its,r',pl,hz⟩:=I.list hq;have hlen:=r'.length;rw[T7]at hlen;refine sorted_ints pl.isList (nA r') (by lia) λout ns' a1 a2 a3=>?_;obtain⟨e,he⟩:=sortedAll_at s.heap its out;have hl:=a2.length_eq;have hz':(ns'.map V.int).length<=fv:=by rw[T7,hl,P4];lia
  exact⟨.ref (s.heap.objs.size+1),_,I.laid (t':=s.toks) (λ_ _=>sortedAll_old) (VT _) (show bE X.prog X.w _ _ _ (.lst (ns'.map V.int))from⟨hz',out.toList,e,kW a1,by simpa[seqObj]using he⟩),rfl,q ns' _ a2 a3 (I.hok.fresh (VT _))⟩
 .exact h.elim
def xj(K:Frag)(xs:List V)(H:Hp)(Q:VK):Prop:=match xs with
 | [.ref d]=>∃ys,(aO K H d ys\/da K H d ys)/\∀l,H l=none->Q (.ref l) (upd H l (.lst ys))
 |_=>False
theorem wd:bx X (.type "list") (xj X.K):=(rG (X:=X)).imp λxs H Q h=>by
 unfold xj at h;split at h
 .obtain⟨ys,h1,q⟩:=h;exact⟨_,ys,rfl,h1,q⟩
 .exact h.elim
theorem O0(K:Frag)(hr:cK j X.A)(hK:X.K=K:=by rfl):bx X (.type "set") (IA K):=by subst hK;exact zr hr.hd
theorem Ni(K:Frag)(hK:X.K=K:=by rfl):bx X (.builtin "sorted") (Aa K):=by subst hK;exact wa
theorem xn(K:Frag)(hK:X.K=K:=by rfl):bx X (.type "list") (xj K):=by subst hK;exact wd
theorem Dk(h:H a=some (.lst xs))(q:Q (.bl (cW .list T)) H):uJ T (.ref a) H Q:=by simp only[uJ,h];exact q
theorem Dj(h:H a=some (.tup xs))(q:Q (.bl (cW .tuple T)) H):uJ T (.ref a) H Q:=by simp only[uJ,h];exact q
end
theorem BH(h:flatV x=true):eqV x x=true:=by cases x<;>simp_all[flatV,eqV]
theorem pF(zs:List Int):(zs.map V.int).all flatV=true:=UB.mpr λx hx=>by obtain⟨z,_,rfl⟩:=T9.mp hx;rfl
def Fl(K:Frag)(H:Hp)(p:XB)(f:Str)(v:V):Prop:= ∃C dx fs,H p=some (.ins C dx fs)/\uH K C/\cn K C f/\fs.lookup f=some v
def Pb(K:Frag)(x:V)(f:Str)(H:Hp)(Q:VK):Prop:=match x with
 | .ref a=>∃v,Fl K H a f v/\Q v H
 |_=>False
def B0(K:Frag)(to:TE)(f:Str):TE:=λσ H Q=>to σ H λx H1=>Pb K x f H1 Q
def xU(C:XB)(m:Str)(H:Hp)(a:XB):Prop:= ∃dx fs,H a=some (.ins C dx fs)/\fs.lookup m=none
structure Cd(P:P6)(w:P9)(K:Frag)(mg:PN)(Px:Qe)(C:XB)(m:Str)(ps:List Str)(k:Nat)(sp:Sp):Prop where
 ex:∃f fd,bh P w K mg Px dm k f fd ps sp/\N1 K C m f/\ig K fd ps []
 cl:uH K C
structure pR(P:P6)(w:P9)(K:Frag)(mg:PN)(Px:Qe)(name:Str)(C:XB)(ps:List Str)(k:Nat)(sp:Sp):Prop where
 ex:∃f fd,Mk K C f/\bh P w K mg Px dm k f fd ps sp/\mg name=some (.ref C)/\ig K fd ps []
def Na(C:XB)(m:Str)(x:V)(H:Hp)(R:XB->Prop):Prop:=match x with
 | .ref a=>xU C m H a/\R a
 |_=>False
def HX(C:XB)(m:Str)(sp:Sp)(to:TE)(t:TA):TE:=λσ H Q=>to σ H λx H1=>Na C m x H1 λa=>t σ H1 λvs H2=>sp (.ref a::vs) H2 Q E0
def xO(C:XB)(sp:Sp)(t:TA):TE:=λσ H Q=>t σ H λvs H1=>∀x dx,H1 x=none->H1 dx=none->dx≠x->sp (.ref x::vs) (upd (upd H1 dx (.own x)) x (.ins C dx [])) (λv H2=>v=.non/\Q (.ref x) H2) E0
section
variable{X:Cx}{e o value:Qx}{te to tv:TE}{p pos pos' apos:So}{es:List Qx}{t:TA}{f m:Str}
theorem cJ(K:Frag)(ho:PE X o to)(hb:Qw o f X.env (Qk o X.env)=Qk o X.env:=by rfl)(hK:X.K=K:=by rfl):PE X (.Attribute o f pos) (B0 K to f):=by
 subst hK;intro Pw s σ H Q I h;refine DP hb (bL (ho Pw s σ H _ I h) λu s1 ⟨x,H1,I1,rx,q1⟩=>?_);cases x with
 |ref a=>
  obtain⟨v,⟨C,dx,fs,ea,c,n,l⟩,q⟩:=q1;obtain rfl:u=P8 a:=rx;exact vT I1 ea c n l λu' s2 I2 ru=>⟨v,H1,I2,ru,q⟩
 |_=>exact q1.elim
theorem jF(K:Frag)(ho:PE X o to)(hv:PE X value tv)(hs:SM value (some (.Attribute o f pos')) pos.line X.env=pure false:=by rfl)(hK:X.K=K:=by rfl):PS X (.Assign [.Attribute o f pos'] value pos) (yq K to tv f):=by subst hK;exact IR ho hv hs
theorem A8{C:XB}{ps:List Str}{k j:Nat}{sp:Sp}{pl:Sem Bool}(M:Cd X.prog X.w X.K X.mg X.Px C m ps k sp)(hr:cK j X.A)(ho:PE X o to)(ha:PA X (e::es) t)(hkj:k<=j:=by decide)(hp:(e::es).all eX=true:=by rfl)(ht:Qk (.Call (.Attribute o m apos) (e::es) [] pos) X.env=(do
   let ov<-Qk o X.env
   standAt apos.atName
   let (f,first)<-Sw [ov] (getMethod ov m pl)
   callWith pos f first (Qh pos (P1 (e::es) X.env)) (RB pos (Q7 [] X.env))):=by rfl):PE X (.Call (.Attribute o m apos) (e::es) [] pos) (HX C m sp to t):=by
 obtain⟨f,fd,F,hm,hb⟩:=M.ex;have hp':=hp;rw[Uy,Ws]at hp';intro Pw s σ H Q I h;refine PySem.W.methodCall_KW (pl:=pl) (bL (ho Pw s σ H _ I h) λu s1 ⟨x,H1,I1,rx,q⟩=>?_) ht;cases x with
 |ref a=>
  obtain⟨⟨dx,fs,ea,l⟩,q⟩:=q;obtain rfl:u=P8 a:=rx;refine vS I1 ea M.cl hm l ?_;refine Xa (first:=[.ref a]) (h₀:=X.Px) I.ok.mod.kin hm.kp (bL (ha pos Pw s1 σ H1 _ I1 q) λus s2 ⟨vs,H2,I2,r,q2⟩=>⟨I2.kIn,?_⟩) (eC hp'.1) (fZ hp'.2);refine Ah (us:=.ref a::us) (vs:=.ref a::vs) (dvs:=[]) (ds:=[]) F (hr.mono hkj) hb .nil AO I2 (.cons rfl r) ?_;rw[Uo];exact q2
 |_=>exact q.elim
theorem HI(M:pR X.prog X.w X.K X.mg X.Px name C ps k sp)(hr:cK j X.A)(ha:PA X (e::es) t)(hkj:k+1<=j:=by decide)(hp:(e::es).all eX=true:=by rfl)(hg:Gl X name:=by rfl)(hdb:(name == ("__debug__":Str))=false:=by decide):PE X (.Call (.Name name p) (e::es) [] pos) (xO C sp t):=by obtain⟨f,fd,MK,F,hm,hb⟩:=M.ex;have hp':=hp;rw[Uy,Ws]at hp';refine(CV MK F (hr.mono hkj) hg hm hb .nil AO ha hdb (eC hp'.1) (fZ hp'.2):PE X _ (zO C sp [] E0 t)).imp λσ H Q h=>?_;unfold zO;simp only[Uo];exact h
end
def SameBut(k:XB)(H H':Hp):Prop:= ∀b o,H b=some o->b≠k->H' b=some o
theorem SameBut.refl(H:Hp):SameBut k H H:=λ_ _ h _=>h
theorem aj.but(h:aj H H'):SameBut k H H':=λb o e _=>h b o e
theorem SameBut.trans(a:SameBut k H H1)(b:SameBut k H1 H2):SameBut k H H2:=λc o e n=>b c o (a c o e n) n
theorem SameBut.self(a:SameBut k H H'):SameBut k H (upd H' k o):=λc ob e n=>by rw[au n];exact a c ob e n
theorem SameBut.new(a:SameBut k H H')(hd:H d=none):SameBut k H (upd H' d o):=λc ob e n=>by rw[au (ay e hd)];exact a c ob e n
theorem aj.put(a:aj H H')(hd:H d=none):aj H (L2.upd H' d o):=λc ob e=>by rw[au (ay e hd)];exact a c ob e
theorem hV{H:Hp}{a b:XB}{o o':HO}(ha:H a=some o)(hb:H b=some o')(h:o≠o'):a≠b:=λe=>by subst e;rw[ha]at hb;exact h (PL hb)
theorem Cu{to tv:TE}{f:Str}{K:Frag}{u:TS}{D:iI}{σ:St}{H:Hp}(P:V->Hp->Prop)(h:∀Q:VK,(∀v H',P v H'->Q v H')->tv σ H Q)(p C dx:XB)(hto:∀H'(Q:VK),Q (.ref p) H'->to σ H' Q)(hc:uH K C)(hn:cn K C f)(h2:∀v H',P v H'->∃fs,H' p=some (.ins C dx fs)/\fs.length<1000/\u D σ (upd H' p (.ins C dx (putF f v fs)))):bg (yq K to tv f) u D σ H:=
 h _ λv H' q=>by obtain⟨fs,e,l,r⟩:=h2 v H' q;exact hto _ _ ⟨p,C,dx,fs,rfl,e,hc,hn,l,r⟩
theorem wC{to tv:TE}{f:Str}{K:Frag}{D:iI}{σ:St}{H:Hp}(P:V->Hp->Prop)(h:∀Q:VK,(∀v H',P v H'->Q v H')->tv σ H Q)(p C dx:XB)(hto:∀H'(Q:VK),Q (.ref p) H'->to σ H' Q)(hc:uH K C)(hn:cn K C f)(h2:∀v H',P v H'->∃fs,H' p=some (.ins C dx fs)/\fs.length<1000/\D.nx σ (upd H' p (.ins C dx (putF f v fs)))):yq K to tv f D σ H:=
 h _ λv H' q=>by obtain⟨fs,e,l,r⟩:=h2 v H' q;exact hto _ _ ⟨p,C,dx,fs,rfl,e,hc,hn,l,r⟩
def Ev(t:TE)(σ:St)(H:Hp)(v:V):Prop:= ∀Q:VK,Q v H->t σ H Q
def Tv(t:TT)(σ:St)(H:Hp)(b:Bool):Prop:= ∀Q:Bool->Hp->Prop,Q b H->t σ H Q
def Av(t:TA)(σ:St)(H:Hp)(vs:List V):Prop:= ∀Q:List V->Hp->Prop,Q vs H->t σ H Q
section
variable{K:Frag}{σ:St}{H:Hp}{ta tb tc te to:TE}{x y:V}{i j k:Int}{z z':Str}
theorem aq:Ev (tC x) σ H x:=λQ q=>q
theorem aa(h:σ[n]? =some (some x)):Ev (ci n) σ H x:=λQ q=>by unfold ci;rw[h];exact q
theorem bG(ha:Ev ta σ H (.int i))(hb:Ev tb σ H (.int j)):Ev (kJ .Add ta tb) σ H (.int (i+j)):=λQ q=>ha _ (hb _ q)
theorem iZ(ha:Ev ta σ H (.int i))(hb:Ev tb σ H (.int j)):Ev (kJ .Sub ta tb) σ H (.int (i - j)):=λQ q=>ha _ (hb _ q)
theorem eZ(ha:Ev ta σ H (.int i))(hb:Ev tb σ H (.int j))(h:zB i j):Ev (kJ .Mult ta tb) σ H (.int (i*j)):=λQ q=>ha _ (hb _ ⟨h,q⟩)
theorem bF(ha:Ev ta σ H (.int i))(hb:Ev tb σ H (.int j))(h:DX i j):Ev (kJ .FloorDiv ta tb) σ H (.int (i / j)):=λQ q=>ha _ (hb _ ⟨h,q⟩)
theorem aU(ha:Ev ta σ H (.int i))(hb:Ev tb σ H (.int j))(h:0<j):Ev (kJ .Mod ta tb) σ H (.int (i % j)):=λQ q=>ha _ (hb _ ⟨h,q⟩)
theorem ja(ha:Ev ta σ H (.int i)):Ev (BZ ta) σ H (.int (-i)):=λQ q=>ha _ q
theorem cQ(ha:Ev ta σ H (.str z))(hb:Ev tb σ H (.str z'))(h:z.length+z'.length<=fv):Ev (kJ .Add ta tb) σ H (.str (z++z')):=λQ q=>ha _ (hb _ ⟨h,q⟩)
theorem bq(ho:Ev to σ H (.ref p))(h:Fl K H p f x):Ev (B0 K to f) σ H x:=λQ q=>ho _ ⟨x,h,q⟩
theorem bf(ho:Ev to σ H (.ref p))(hi:Ev ta σ H (.int i))(h:aO K H p xs\/da K H p xs)(e:jd xs i=some x):Ev (xP K to ta) σ H x:=λQ q=>ho _ (hi _ ⟨xs,x,h,e,q⟩)
theorem cC(ho:Ev to σ H (.str z))(hi:Ev ta σ H (.int i))(h:z.length<=fv)(e:jd z.cps.toList i=some c):Ev (xP K to ta) σ H (.str ⟨#[c]⟩):=λQ q=>ho _ (hi _ ⟨h,c,e,q⟩)
theorem dt(ho:Ev to σ H (.ref p))(h:aO K H p xs\/da K H p xs):Ev (cB (tW K) (ba to cE)) σ H (.int xs.length):=λQ q=>ho _ ⟨xs,h,q⟩
theorem rB(ho:Ev to σ H (.str z))(h:z.length<=fv):Ev (cB (tW K) (ba to cE)) σ H (.int z.length):=λQ q=>ho _ ⟨h,q⟩
theorem JS(ho:Ev to σ H (.ref p))(h:H p=some (.lst xs)):Ev (DH T to) σ H (.bl (cW .list T)):=λQ q=>ho _ (Dk h q)
theorem BA(ho:Ev to σ H (.int i)):Ev (DH T to) σ H (.bl (cW .int T)):=λQ q=>ho _ q
theorem JR(ho:Ev to σ H (.str z)):Ev (DH T to) σ H (.bl (cW .str T)):=λQ q=>ho _ q
theorem Bz(ha:Ev ta σ H (.bl a)):Ev (xN ta) σ H (.bl (!a)):=λQ q=>ha _ q
theorem cM(ha:Ev ta σ H (.bl a))(hb:a=true->Ev tb σ H (.bl b)):Ev (uy ta tb) σ H (.bl (a&&b)):=λQ q=>ha _ (by
 cases a with
 |true=>exact hb rfl Q q
 |false=>exact q)
theorem NE(ha:Ev ta σ H (.bl a))(hb:a=false->Ev tb σ H (.bl b)):Ev (DG ta tb) σ H (.bl (a||b)):=λQ q=>ha _ (by
 cases a with
 |true=>exact q
 |false=>exact hb rfl Q q)
theorem BE(ht:Tv t σ H b)(h1:b=true->Ev ta σ H x)(h2:b=false->Ev tb σ H y):Ev (Ip t ta tb) σ H (if b=true then x else y):=λQ q=>ht _ (by
 cases b with
 |true=>exact iG (h1 rfl _ q)
 |false=>exact gF (h2 rfl _ q))
theorem dY(ha:Ev ta σ H (.int i))(hb:Ev tb σ H (.int j)):Ev (dE K .Eq ta tb) σ H (.bl (decide (i=j))):=λQ q=>ha _ (hb _ q)
theorem xA(ha:Ev ta σ H (.int i))(hb:Ev tb σ H (.int j)):Ev (dE K .NotEq ta tb) σ H (.bl (!decide (i=j))):=λQ q=>ha _ (hb _ q)
theorem ug(ha:Ev ta σ H (.int i))(hb:Ev tb σ H (.int j)):Ev (dE K .Lt ta tb) σ H (.bl (decide (i<j))):=λQ q=>ha _ (hb _ q)
theorem NG(ha:Ev ta σ H (.int i))(hb:Ev tb σ H (.int j)):Ev (dE K .GtE ta tb) σ H (.bl (decide (j<=i))):=λQ q=>ha _ (hb _ q)
theorem dN(ha:Ev ta σ H (.str z))(hb:Ev tb σ H (.str z')):Ev (dE K .Eq ta tb) σ H (.bl (decide (z=z'))):=λQ q=>ha _ (hb _ q)
theorem jP(ha:Ev ta σ H (.str z))(hb:Ev tb σ H (.str z')):Ev (dE K .NotEq ta tb) σ H (.bl (!decide (z=z'))):=λQ q=>ha _ (hb _ q)
theorem ud(i:Int)(ns:List Int):Dl (.int i) (ns.map V.int)=decide (i∈ns):=by
 unfold Dl;rw[Va]
 by_cases h:i∈ns
 .rw[Pz h];exact UD.mpr ⟨i,h,by simp[eqV]⟩
 .rw[PB h];apply UK.mpr;intro y hy;have:y≠i:=λe=>h (e▸hy);simp[eqV,this]
theorem BD{ns:List Int}(ha:Ev ta σ H (.int i))(hb:Ev tb σ H (.ref p))(h:aO K H p (ns.map V.int)\/da K H p (ns.map V.int)):Ev (dE K .In ta tb) σ H (.bl (decide (i∈ns))):=λQ q=>ha _ (hb _ (by
 rw[j9];refine⟨p,_,rfl,h,rfl,pF ns,?_⟩;rw[ud];exact q))
theorem vX{ns:List Int}(ha:Ev ta σ H (.int i))(hb:Ev tb σ H (.ref p))(h:aO K H p (ns.map V.int)\/da K H p (ns.map V.int)):Ev (dE K .NotIn ta tb) σ H (.bl (!decide (i∈ns))):=λQ q=>ha _ (hb _ (by
 rw[iC];refine⟨p,_,rfl,h,rfl,pF ns,?_⟩;rw[ud];exact q))
theorem ir(ha:Ev ta σ H (.int i))(hb:Ev tb σ H .non):Ev (dE K .IsNot ta tb) σ H (.bl true):=λQ q=>ha _ (hb _ q)
theorem gD(ha:Ev ta σ H .non)(hb:Ev tb σ H .non):Ev (dE K .IsNot ta tb) σ H (.bl false):=λQ q=>ha _ (hb _ q)
theorem Dx(ha:Ev ta σ H (.int i))(hb:Ev tb σ H .non):Ev (dE K .Is ta tb) σ H (.bl false):=λQ q=>ha _ (hb _ q)
theorem Dw(ha:Ev ta σ H .non)(hb:Ev tb σ H .non):Ev (dE K .Is ta tb) σ H (.bl true):=λQ q=>ha _ (hb _ q)
theorem xE(ha:Ev ta σ H (.int i))(hb:Ev tb σ H (.int j))(hc:i<=j->Ev tc σ H (.int k)):Ev (ly K .LtE .LtE ta tb tc) σ H (.bl (decide (i<=j/\j<=k))):=λQ q=>ha _ (hb _ (by
 rw[lh]
 by_cases h:i<=j
 .rw[Pz h];refine hc h _ ?_;have e:decide (i<=j/\j<=k)=decide (j<=k):=by simp[h]
  rw[e]at q;exact q
 .rw[PB h];have e:decide (i<=j/\j<=k)=false:=by simp[h]
  rw[e]at q;exact q))
theorem aL{sp:Sp}{t:TA}{vs:List V}(ht:Av t σ H vs)(h:∀Q:VK,Q x H->sp vs H Q E0):Ev (cY sp t) σ H x:=λQ q=>ht _ (h Q q)
theorem aw:Av cE σ H []:=λQ q=>q
theorem ae{t:TA}{vs:List V}(ha:Ev ta σ H x)(ht:Av t σ H vs):Av (ba ta t) σ H (x::vs):=λQ q=>ha _ (ht _ q)
theorem jH:Av (Pj vs) σ H vs:=λQ q=>q
theorem aX(h:Ev te σ H (.bl b)):Tv (dD te) σ H b:=λQ q=>h _ q
theorem ck(h:Tv t σ H b):Tv (zM t) σ H (!b):=λQ q=>h _ q
theorem ii(ha:Tv t σ H a)(hb:a=true->Tv u σ H b):Tv (zQ t u) σ H (a&&b):=λQ q=>ha _ (by
 cases a with
 |true=>exact iG (hb rfl _ q)
 |false=>exact gF q)
theorem iy(ha:Tv t σ H a)(hb:a=false->Tv u σ H b):Tv (Io t u) σ H (a||b):=λQ q=>ha _ (by
 cases a with
 |true=>exact iG q
 |false=>exact gF (hb rfl _ q))
theorem l9(ha:Ev ta σ H (.int i))(hb:Ev tb σ H (.int j))(hc:i<=j->Ev tc σ H (.int k)):Tv (kH K .LtE .Lt ta tb tc) σ H (decide (i<=j/\j<k)):=λQ q=>ha _ (hb _ (by
 rw[lh]
 by_cases h:i<=j
 .rw[Pz h];refine hc h _ ?_;have e:decide (i<=j/\j<k)=decide (j<k):=by simp[h]
  rw[e]at q;exact q
 .rw[PB h];have e:decide (i<=j/\j<k)=false:=by simp[h]
  rw[e]at q;exact q))
end
section
theorem a8(h:Ev te σ H v)(h2:u D (σ.set i (some v)) H):bg (tAsg te (gName i)) u D σ H:=h _ h2
theorem jW(h:Ev te σ H v)(h2:D.nx (σ.set i (some v)) H):tAsg te (gName i) D σ H:=h _ h2
theorem aK(h:Ev te σ H v)(h2:D.rt v H):cL te D σ H:=h _ h2
theorem aT(hc:Tv c σ H b)(h1:b=true->t {D with nx:=u D} σ H)(h2:b=false->u D σ H):bg (ju c t mz) u D σ H:=hc _ (by
 cases b with
 |true=>exact iG (h1 rfl)
 |false=>exact gF (h2 rfl))
theorem jV(hc:Tv c σ H b)(h1:b=true->t D σ H)(h2:b=false->D.nx σ H):ju c t mz D σ H:=hc _ (by
 cases b with
 |true=>exact iG (h1 rfl)
 |false=>exact gF (h2 rfl))
end
section
variable{K:Frag}{σ rest:St}{H:Hp}{tl te:TE}{tt:TT}{src:List (Option Nat)}{Q:VK}
theorem dH:Tv lF σ H true:=λQ q=>q
theorem jb{xs:List V}(hz:xs.length<=fv)(hs:eW src σ=none::rest)(p:V->Bool)(f:V->V)(hgo:∀i,i<xs.length->J.go i H)(hstop:J.stop xs.length H)(hyld:∀i v H',i<xs.length->J.yld i H v H'->H'=H/\xs[i]? =some v)(ht:∀x∈xs,Tv tt (some x::rest) H (p x))(he:∀x∈xs,p x=true->Ev te (some x::rest) H (f x))(q:∀d',H d'=none->Q (.ref d') (upd H d' (.lst ((xs.filter p).map f)))):dC (gName 0) tt te src σ Q J H:=by
 refine⟨λi m ys σ' H'=>m=xs.length - i/\i<=xs.length/\ys=((xs.take i).filter p).map f/\(∃o,σ'=o::rest)/\H'=H,⟨xs.length,by simp,VQ _,by simp,⟨none,hs⟩,rfl⟩,?_⟩;rintro i m ys σ' H' ⟨rfl,hi,rfl,⟨o,rfl⟩,rfl⟩
 by_cases hlt:i<xs.length
 .refine .inr ⟨hgo i hlt,?_,λx H2 y=>?_⟩
  .rw[T7];have h1:=UN p (xs.take i);rw[Uu]at h1;lia
  .obtain⟨rfl,hx⟩:=hyld i x H2 hlt y;have tk:(xs.take (i+1)).filter p=(xs.take i).filter p++(if p x then [x]else []):=take_succ_filter p xs i x hx;have hm:x∈xs:=Us hx;show tt (some x::rest) H2 _;refine ht x hm _ ?_;cases hp:p x with
   |true=>
    refine iG (he x hm hp _ ?_);refine⟨xs.length - (i+1),by lia,rfl,hlt,?_,⟨_,rfl⟩,rfl⟩;rw[tk,hp,PF rfl,Uq];rfl
   |false=>
    refine gF ?_;refine⟨xs.length - (i+1),by lia,rfl,hlt,?_,⟨_,rfl⟩,rfl⟩;rw[tk,hp,PD (by simp),Uo]
 .have e:i=xs.length:=by lia
  subst e;refine .inl ⟨hstop,λd hd=>?_⟩;rw[U3];exact q d hd
theorem gJ(hl:Ev tl σ H (.ref d))(hx:aO K H d xs)(hz:xs.length<=fv)(hs:eW src σ=none::rest)(p:V->Bool)(f:V->V)(ht:∀x∈xs,Tv tt (some x::rest) H (p x))(he:∀x∈xs,p x=true->Ev te (some x::rest) H (f x))(q:∀d',H d'=none->Q (.ref d') (upd H d' (.lst ((xs.filter p).map f)))):tComp (pC K tl) (gName 0) tt te src σ H Q:=
 hl _ ⟨d,rfl,⟨xs,hx⟩,jb hz hs p f (λi hi=>⟨xs,xs[i],hx,Ua hi⟩) ⟨xs,hx,VO _⟩ (λi v H' _ y=>⟨y.1,y.2 xs hx⟩) ht he q⟩
theorem kF(hl:Av ta σ H [.int n])(h0:0<=n)(hz:n.toNat<=fv)(h1:n<2 ^ 62)(hs:eW src σ=none::rest)(p:V->Bool)(f:V->V)(ht:∀i:Nat,i<n.toNat->Tv tt (some (.int (0+(i:Int)))::rest) H (p (.int (0+(i:Int)))))(he:∀i:Nat,i<n.toNat->p (.int (0+(i:Int)))=true->Ev te (some (.int (0+(i:Int)))::rest) H (f (.int (0+(i:Int)))))(q:∀d',H d'=none->Q (.ref d') (upd H d' (.lst ((((List.range n.toNat).map λ(i:Nat)=>V.int (0+(i:Int))).filter p).map f)))):tComp (nB ta) (gName 0) tt te src σ H Q:=by
 have hin:∀x∈(List.range n.toNat).map λ(i:Nat)=>V.int (0+(i:Int)),∃i:Nat,i<n.toNat/\x=.int (0+(i:Int)):=λx hx=>by obtain⟨i,hi,rfl⟩:=T9.mp hx;exact⟨i,Uh.mp hi,rfl⟩
 have hlen:((List.range n.toNat).map λ(i:Nat)=>V.int (0+(i:Int))).length=n.toNat:=by simp
 refine hl _ ⟨n,rfl,by lia,h1,jb (xs:=(List.range n.toNat).map λ(i:Nat)=>V.int (0+(i:Int))) (by rw[hlen];exact hz) hs p f (λi hi=>by rw[hlen]at hi;exact hi) (by rw[hlen];exact VO _) (λi v H' hi y=>⟨y.1,?_⟩) (λx hx=>?_) (λx hx hp=>?_) q⟩
 .rw[hlen]at hi;rw[Ub,UI hi,y.2];rfl
 .obtain⟨i,hi,rfl⟩:=hin x hx;exact ht i hi
 .obtain⟨i,hi,rfl⟩:=hin x hx;exact he i hi hp
end
section
variable{K:Frag}{te to tv:TE}{u:TS}{D:iI}{σ:St}{H:Hp}{v x y:V}
theorem xB(ho:Ev to σ H (.ref p))(hi:xU C m H p)(ht:Av t σ H vs)(h:∀Q:VK,Q x H->sp (.ref p::vs) H Q E0):Ev (HX C m sp to t) σ H x:=λQ q=>ho _ ⟨hi,ht _ (h Q q)⟩
theorem Ir(ho:Ev to σ H (.ref l))(he:Ev te σ H y)(hl:H l=some (.lst xs))(hz:xs.length<fv)(h2:u D σ (upd H l (.lst (xs++[y])))):bg (jy (B2 to te)) u D σ H:=ho _ ⟨⟨xs,hl⟩,he _ ⟨xs,hl,hz,h2⟩⟩
theorem Cv(ho:Ev to σ H (.ref l))(he:Ev te σ H y)(hl:H l=some (.lst xs))(hz:xs.length<fv)(h2:D.nx σ (upd H l (.lst (xs++[y])))):jy (B2 to te) D σ H:=ho _ ⟨⟨xs,hl⟩,he _ ⟨xs,hl,hz,h2⟩⟩
theorem uX(h:Ev tv σ H v)(ho:Ev to σ H (.ref p))(hp:H p=some (.ins C dx fs))(hc:uH K C)(hn:cn K C f)(hl:fs.length<1000)(h2:u D σ (upd H p (.ins C dx (putF f v fs)))):bg (yq K to tv f) u D σ H:=h _ (ho _ ⟨p,C,dx,fs,rfl,hp,hc,hn,hl,h2⟩)
theorem gM(h2:∀q,H q=none->u D (σ.set i (some (.ref q))) (upd H q (.lst []))):bg (tAsg (uU cE) (gName i)) u D σ H:=⟨VQ _,λq hq=>h2 q hq⟩
end
section
variable{K:Frag}{te to ta tb ti:TE}{t:TA}{σ:St}{H:Hp}{Q:VK}{v x y:V}{vs:List V}
theorem vW(h:Ev te σ H v)(q:Q v H):te σ H Q:=h Q q
theorem dZ(h:Av t σ H vs)(q:sp vs H Q E0):cY sp t σ H Q:=h _ q
theorem lw(h:Av t σ H vs)(q:sp vs H (eT λc H1=>R (!c) H1) E0):zM (dD (cY sp t)) σ H R:=h _ q
theorem Pk(h:Ev to σ H v)(q:r [v] H Q):cB r (ba to cE) σ H Q:=h _ q
theorem iM(ha:Ev ta σ H x)(hb:Ev tb σ H y)(q:∀p,H p=none->Q (.ref p) (upd H p (.tup [x,y]))):zL (ba ta (ba tb cE)) σ H Q:=ha _ (hb _ ⟨by show 2<=fv;decide,q⟩)
theorem kn(h:Av t σ H vs)(hz:vs.length<=1000)(hi:∀H',Ev ti σ H' (.int i))(e:jd vs i=some v)(q:∀H',aj H H'->Q v H'):xP K (uU t) ti σ H Q:=h _ ⟨VR hz (by decide),λp hp=>hi _ _ ⟨vs,v,.inl (aO.of ah),e,q _ ((aj.refl H).upd hp)⟩⟩
end
section
theorem nT(ho:Ev to σ H (.ref l))(hl:∃xs,H l=some (.lst xs))(q:te σ H λy H2=>∃xs,H2 l=some (.lst xs)/\xs.length<fv/\D.nx σ (upd H2 l (.lst (xs++[y])))):jy (B2 to te) D σ H:=ho _ ⟨hl,q⟩
end
def oI:Option Int->V
 |some n=>.int n
 |none=>.non
structure kT(K:Frag)(C:XB):Prop where
 cl:uH K C
 wide:cn K C "wide"
 high:cn K C "high"
 holes:cn K C "holes"
 firm:cn K C "firm"
def jc(wi hi:Int)(ph pf:XB):List (Str×V):=putF "firm" (.ref pf) (putF "holes" (.ref ph) (putF "high" (.int hi) (putF "wide" (.int wi) [])))
theorem DM(wi hi:Int)(ph pf:XB):(jc wi hi ph pf).lookup ("wide":Str)=some (.int wi):=by unfold jc;rw[aB,PD (by decide+kernel),aB,PD (by decide+kernel),aB,PD (by decide+kernel),aB,PF rfl]
theorem DN(wi hi:Int)(ph pf:XB):(jc wi hi ph pf).lookup ("high":Str)=some (.int hi):=by unfold jc;rw[aB,PD (by decide+kernel),aB,PD (by decide+kernel),aB,PF rfl]
theorem B4(wi hi:Int)(ph pf:XB):(jc wi hi ph pf).lookup ("holes":Str)=some (.ref ph):=by unfold jc;rw[aB,PD (by decide+kernel),aB,PF rfl]
theorem DO(wi hi:Int)(ph pf:XB):(jc wi hi ph pf).lookup ("firm":Str)=some (.ref pf):=by unfold jc;rw[aB,PF rfl]
theorem NU(wi hi:Int)(ph pf:XB){m:Str}(h1:¬m="wide")(h2:¬m="high")(h3:¬m="holes")(h4:¬m="firm"):(jc wi hi ph pf).lookup m=none:=by unfold jc;rw[aB,PD h4,aB,PD h3,aB,PD h2,aB,PD h1];rfl
def firmL(wi hi:Int)(hs:List Int):List Bool:=(List.range (wi*hi).toNat).map λ(s:Nat)=> !decide ((s:Int)∈hs)
structure cr(K:Frag)(C:XB)(H:Hp)(p:XB)(wi hi:Int)(hs:List Int):Prop where
 ex:∃dx ph pf,H p=some (.ins C dx (jc wi hi ph pf))/\H ph=some (.lst (hs.map V.int))/\H pf=some (.lst ((firmL wi hi hs).map V.bl))
 w1:1<=wi
 w8:wi<=8
 h1:1<=hi
 h8:hi<=8
 good:∀h∈hs,0<=h/\h<wi*hi
 srt:hs.Pairwise (·<=·)
 nd:hs.Nodup
section
variable{K:Frag}{C:XB}{H H':Hp}{p:XB}{wi hi:Int}{hs:List Int}
theorem cr.same(B:cr K C H p wi hi hs)(s:aj H H'):cr K C H' p wi hi hs:=by obtain⟨⟨dx,ph,pf,a,b,c⟩,w1,w8,h1,h8,g,sr,nd⟩:=B;exact⟨⟨dx,ph,pf,s _ _ a,s _ _ b,s _ _ c⟩,w1,w8,h1,h8,g,sr,nd⟩
theorem cr.wide(B:cr K C H p wi hi hs)(D:kT K C):Fl K H p "wide" (.int wi):=by obtain⟨dx,ph,pf,a,_,_⟩:=B.ex;exact⟨C,dx,_,a,D.cl,D.wide,DM _ _ _ _⟩
theorem cr.high(B:cr K C H p wi hi hs)(D:kT K C):Fl K H p "high" (.int hi):=by obtain⟨dx,ph,pf,a,_,_⟩:=B.ex;exact⟨C,dx,_,a,D.cl,D.high,DN _ _ _ _⟩
theorem cr.firm(B:cr K C H p wi hi hs)(D:kT K C):∃pf,Fl K H p "firm" (.ref pf)/\H pf=some (.lst ((firmL wi hi hs).map V.bl)):=by obtain⟨dx,ph,pf,a,_,c⟩:=B.ex;exact⟨pf,⟨C,dx,_,a,D.cl,D.firm,DO _ _ _ _⟩,c⟩
theorem cr.holes(B:cr K C H p wi hi hs)(D:kT K C):∃ph,Fl K H p "holes" (.ref ph)/\H ph=some (.lst (hs.map V.int)):=by obtain⟨dx,ph,pf,a,b,c⟩:=B.ex;exact⟨ph,⟨C,dx,_,a,D.cl,D.holes,B4 _ _ _ _⟩,b⟩
theorem cr.no(B:cr K C H p wi hi hs){m:Str}(h1:¬m="wide":=by decide+kernel)(h2:¬m="high":=by decide+kernel)(h3:¬m="holes":=by decide+kernel)(h4:¬m="firm":=by decide+kernel):xU C m H p:=by obtain⟨dx,ph,pf,a,b,c⟩:=B.ex;exact⟨dx,_,a,NU _ _ _ _ h1 h2 h3 h4⟩
theorem cr.many(B:cr K C H p wi hi hs):1<=wi*hi/\wi*hi<=64:=by have a:=B.w1;have b:=B.w8;have c:=B.h1;have d:=B.h8;have e1:1*1<=wi*hi:=Wf a c (by lia) (by lia);have e2:wi*hi<=8*8:=Wf b d (by lia) (by lia);lia
theorem Dt(h0:0<=s)(h1:s<wi*hi):jd ((firmL wi hi hs).map V.bl) s=some (.bl (!decide (s∈hs))):=by
 have e:s=((s.toNat:Nat):Int):=by lia
 have hl:s.toNat<(wi*hi).toNat:=by lia
 have:((firmL wi hi hs).map V.bl)[s.toNat]? =some (.bl (!decide (((s.toNat:Nat):Int)∈hs))):=by unfold firmL;rw[Ub,Ub,UI hl];rfl
 have q:=bI this;rw[<-e]at q;exact q
end
def Kl(wi hi:Int)(hs:List Int)(s ax up:Int):Option Int:=
 if 0<=s % wi+ax/\s % wi+ax<wi/\0<=s / wi+up/\s / wi+up<hi then(if(s / wi+up)*wi+(s % wi+ax)∈hs then none else some ((s / wi+up)*wi+(s % wi+ax)))else none
def mF(wi s ax up:Int)(k:Nat):Int:=(s / wi+k*up)*wi+(s % wi+k*ax)
def oY(wi hi:Int)(hs:List Int)(s ax up:Int)(k:Nat):Prop:=0<=s % wi+k*ax/\s % wi+k*ax<wi/\0<=s / wi+k*up/\s / wi+k*up<hi/\¬mF wi s ax up k∈hs
instance {wi hi:Int} {hs:List Int} {s ax up:Int} {k:Nat}:Decidable (oY wi hi hs s ax up k):=by unfold oY;infer_instance
def ie(wi hi:Int)(hs:List Int)(s ax up:Int)(n:Nat):Prop:=(∀j<n,oY wi hi hs s ax up (j+1))/\¬oY wi hi hs s ax up (n+1)
def rayL(wi s ax up:Int)(n:Nat):List Int:=(List.range n).map λj=>mF wi s ax up (j+1)
theorem ie.uniq(h:ie wi hi hs s ax up m)(h':ie wi hi hs' s ax up n)(e:∀x,x∈hs<->x∈hs'):m=n:=by
 have c:∀k,oY wi hi hs s ax up k<->oY wi hi hs' s ax up k:=λk=>by unfold oY;rw[e]
 rcases V4 m n with l|l|l
 .exact PK ((c _).mpr (h'.1 m l)) h.2
 .exact l
 .exact PK ((c _).mp (h.1 n l)) h'.2
theorem hU:(rayL wi s ax up n).length=n:=by unfold rayL;simp
theorem yv:rayL wi s ax up (n+1)=rayL wi s ax up n++[mF wi s ax up (n+1)]:=by unfold rayL;rw[UU,Uq];rfl
theorem vG(w8:wi<=8)(h8:hi<=8)(w1:1<=wi)(s0:0<=s)(s1:s<wi*hi)(n0:¬(ax=0/\up=0))(h:oY wi hi hs s ax up k):k<8:=by
 obtain⟨a,b,c,d,_⟩:=h;have m0:=Wb s (by lia:wi≠0);have m1:=Wc s (by lia:0<wi);have d0:0<=s / wi:=Wg s0 (by lia);have d1:s / wi<hi:=Wo (by lia) (by rw[Wh];exact s1);apply Classical.byContradiction;intro hk;have hk:8<=k:=by lia
 have k8:(8:Int)<=(k:Int):=by lia
 rcases Int.lt_trichotomy ax 0 with l|l|l
 .have:(k:Int)*ax<=(k:Int)*(-1):=Wi (by lia) (by lia);lia
 .rcases Int.lt_trichotomy up 0 with l'|l'|l'
  .have:(k:Int)*up<=(k:Int)*(-1):=Wi (by lia) (by lia);lia
  .exact n0 ⟨l,l'⟩
  .have:(k:Int)*1<=(k:Int)*up:=Wi (by lia) (by lia);lia
 .have:(k:Int)*1<=(k:Int)*ax:=Wi (by lia) (by lia);lia
theorem pW{wi s ax up:Int}{k:Nat}(w1:1<=wi)(a:0<=s % wi+k*ax)(b:s % wi+k*ax<wi):mF wi s ax up k % wi=s % wi+k*ax/\mF wi s ax up k / wi=s / wi+k*up:=by
 unfold mF;rw[Int.add_comm ((s / wi+k*up)*wi)]
 constructor
 .rw[Int.add_mul_emod_self_right];exact Wl a b
 .rw[Int.add_mul_ediv_right _ _ (by lia),Int.ediv_eq_zero_of_lt a b];lia
theorem sA(w1:1<=wi):mF wi s ax up 0=s:=by unfold mF;have e:=Wm s wi;rw[Wh]at e;have z:((0:Nat):Int)=0:=rfl;rw[z,Int.zero_mul,Int.zero_mul,Int.add_zero,Int.add_zero];exact e
theorem mj{wi hi:Int}{hs:List Int}{s ax up:Int}{k:Nat}(w1:1<=wi)(a:0<=s % wi+k*ax)(b:s % wi+k*ax<wi):Kl wi hi hs (mF wi s ax up k) ax up=if oY wi hi hs s ax up (k+1)then some (mF wi s ax up (k+1))else none:=by
 obtain⟨e1,e2⟩:=pW (up:=up) w1 a b;unfold Kl;rw[e1,e2];have ze:((k+1:Nat):Int)=(k:Int)+1:=rfl;have f1:s % wi+(k:Int)*ax+ax=s % wi+((k+1:Nat):Int)*ax:=by rw[ze,Int.add_mul,Wj];lia
 have f2:s / wi+(k:Int)*up+up=s / wi+((k+1:Nat):Int)*up:=by rw[ze,Int.add_mul,Wj];lia
 rw[f1,f2];have f3:(s / wi+((k+1:Nat):Int)*up)*wi+(s % wi+((k+1:Nat):Int)*ax)=mF wi s ax up (k+1):=rfl;rw[f3]
 by_cases c:0<=s % wi+((k+1:Nat):Int)*ax/\s % wi+((k+1:Nat):Int)*ax<wi/\0<=s / wi+((k+1:Nat):Int)*up/\s / wi+((k+1:Nat):Int)*up<hi
 .rw[PF c]
  by_cases m:mF wi s ax up (k+1)∈hs
  .rw[PF m,PD (show¬oY wi hi hs s ax up (k+1)from λz=>z.2.2.2.2 m)]
  .rw[PD m,PF (show oY wi hi hs s ax up (k+1)from⟨c.1,c.2.1,c.2.2.1,c.2.2.2,m⟩)]
 .rw[PD c,PD (show¬oY wi hi hs s ax up (k+1)from λz=>c ⟨z.1,z.2.1,z.2.2.1,z.2.2.2.1⟩)]
def Hq:Sp:=λvs H Q _=>∃t a b:Int,vs=[.int t,.int a,.int b]/\Q (.bl (decide (a<=t/\t<=b))) H
def wR:Sp:=λvs H Q _=>∃w s:Int,vs=[.int w,.int s]/\0<w/\Q (.int (s % w)) H
def wJ:Sp:=λvs H Q _=>∃w s:Int,vs=[.int w,.int s]/\0<w/\w<100/\Q (.int (s / w)) H
def zU:Sp:=λvs H Q _=>∃w c r:Int,vs=[.int w,.int c,.int r]/\-100<w/\w<100/\Q (.int (r*w+c)) H
def sM:Sp:=λvs H Q _=>∃(d:XB)(m:Int)(hs:List Int),vs=[.ref d,.int m]/\H d=some (.lst (hs.map V.int))/\(∀h∈hs,0<=h/\h<m)/\hs.Nodup/\(hs.length:Int)<m/\m<=64/\∀H',aj H H'->Q (.bl true) H'
def qa(K:Frag)(C:XB):Sp:=λvs H Q _=>∃(p d dx:XB)(wi hi:Int)(hs:List Int),vs=[.ref p,.int wi,.int hi,.ref d]/\H p=some (.ins C dx [])/\H d=some (.lst (hs.map V.int))/\1<=wi/\wi<=8/\1<=hi/\hi<=8/\(∀h∈hs,0<=h/\h<wi*hi)/\hs.Nodup/\(hs.length:Int)<wi*hi/\
 ∀(hs':List Int) H',hs'.Perm hs->cr K C H' p wi hi hs'->SameBut p H H'->Q .non H'
def wL(K:Frag)(C:XB):Sp:=λvs H Q _=>∃(p:XB)(wi hi:Int)(hs:List Int)(s ax up:Int),vs=[.ref p,.int s,.int ax,.int up]/\cr K C H p wi hi hs/\Q (oI (Kl wi hi hs s ax up)) H
def Ho(K:Frag)(C:XB):Sp:=λvs H Q _=>∃(p:XB)(wi hi:Int)(hs:List Int)(s ax up:Int),vs=[.ref p,.int s,.int ax,.int up]/\cr K C H p wi hi hs/\0<=s/\s<wi*hi/\¬(ax=0/\up=0)/\
 ∀(n:Nat)(q:XB)(H':Hp),ie wi hi hs s ax up n->n<=8->H q=none->H' q=some (.lst ((rayL wi s ax up n).map V.int))->aj H H'->Q (.ref q) H'
structure CA(P:P6)(w:P9)(K:Frag)(mg:PN)(Px:Qe):Prop where
 is_among:dG P w K mg Px "is_among" ["thing","least","most"] 2 Hq
structure CB(P:P6)(w:P9)(K:Frag)(mg:PN)(Px:Qe):Prop where
 column_of:dG P w K mg Px "column_of" ["wide","square"] 1 wR
 row_of:dG P w K mg Px "row_of" ["wide","square"] 1 wJ
 square_at:dG P w K mg Px "square_at" ["wide","column","row"] 1 zU
structure CB2(P:P6)(w:P9)(K:Frag)(mg:PN)(Px:Qe):Prop extends CA P w K mg Px where
 are_holes:dG P w K mg Px "are_holes" ["thing","many"] 3 sM
structure CB3(P:P6)(w:P9)(K:Frag)(mg:PN)(Px:Qe)(cB:XB):Prop extends CB2 P w K mg Px where
 Board:pR P w K mg Px "Board" cB ["self","wide","high","holes"] 4 (qa K cB)
 Board_moved:Cd P w K mg Px cB "moved" ["self","square","across","up"] 2 (wL K cB)
section
variable{X:Cx}{Pw:PQ}{σ:St}{H:Hp}{s:PZ}{h':Qe}
theorem aJ.turned_laid{t':Nat}{e it a:XB}{o:HO}(I:aJ X Pw σ H s)(k:∀b ob,b≠e->b≠it->s.heap.get? b=some ob->h'.get? b=some ob)(he:ix X Pw H e)(hi:ix X Pw H it)(hp:s.heap.objs.size<=a)(new:bE X.prog X.w (upd H a o) h' a o):aJ X Pw σ (upd H a o) {s with heap:=h',toks:=t'}:=by
 obtain⟨e0,e1,e2,e3,e4,e5⟩:=he;obtain⟨i0,i1,i2,i3,i4,i5⟩:=hi;have hn:H a=none:=I.hok.fresh hp;have ne:∀b u,H b=some u->b≠e:=λb u q z=>by rw[z,e0]at q;cases q
 have nit:∀b u,H b=some u->b≠it:=λb u q z=>by rw[z,i0]at q;cases q
 have kk:∀b ob,b∉[e,it]->s.heap.get? b=some ob->h'.get? b=some ob:=λb ob hc q=>k b ob (λz=>hc (by simp[z])) (λz=>hc (by simp[z])) q;refine I.step (g':=s.gens) (d':=s.drawn) (ch:=[e,it]) (λb hb=>?_) (λb ob _ _ hc q _=>kk b ob hc q) (λb ob _ _ hc q _=>⟨ob.slots,kk b ob hc q⟩)
  (λb ob hc q n=>by rw[au (VP (VS (PY q) hp))];exact n) (λb ob hc q=>⟨ob,kk b ob hc q⟩) (λb xs q=>by rw[au (ay q hn)];exact q) (λb ob u q=>by rw[au (ay q hn)];exact q)
  (λb ps q=>⟨#[],by rw[au (ay q hn),q];simp⟩) (λm hm=>?_) (λb u q=>?_) I.bare
 .rcases T8.mp hb with rfl|hb
  .exact⟨e3,e1,e4,e5⟩
  .rw[Ud.mp hb];exact⟨i3,i1,i4,i5⟩
 .obtain⟨ob,es,ep,ho,r⟩:=hm;exact⟨ob,es,ep,k _ ob (Ne.symm e1) (Ne.symm i1) ho,r⟩
 .by_cases hb:b=a
  .subst hb;rw[ah]at q;cases q;exact new
  .rw[au hb]at q;refine(I.hok b u q).stay (λc v hc z=>k c v ?_ ?_ z) (λc z=>by rw[au (ay z hn)];exact z) λc xs z=>by rw[au (ay z hn)];exact z
   .rcases hc with z|z
    .rw[z];exact ne b u q
    .exact ne c _ z
   .rcases hc with z|z
    .rw[z];exact nit b u q
    .exact nit c _ z
theorem aJ.turned2(I:aJ X Pw σ H s)(k:∀b ob,b≠e->b≠it->s.heap.get? b=some ob->h'.get? b=some ob)(he:ix X Pw H e)(hi:ix X Pw H it):aJ X Pw σ H {s with heap:=h',toks:=t'}:=by
 obtain⟨e0,e1,e2,e3,e4,e5⟩:=he;obtain⟨i0,i1,i2,i3,i4,i5⟩:=hi;have ne:∀b u,H b=some u->b≠e:=λb u q z=>by rw[z,e0]at q;cases q
 have nit:∀b u,H b=some u->b≠it:=λb u q z=>by rw[z,i0]at q;cases q
 have kk:∀b ob,b∉[e,it]->s.heap.get? b=some ob->h'.get? b=some ob:=λb ob hc q=>k b ob (λz=>hc (by simp[z])) (λz=>hc (by simp[z])) q;refine I.step (g':=s.gens) (d':=s.drawn) (ch:=[e,it]) (λb hb=>?_) (λb ob _ _ hc q _=>kk b ob hc q) (λb ob _ _ hc q _=>⟨ob.slots,kk b ob hc q⟩)
  (λ_ _ _ _ n=>n) (λb ob hc q=>⟨ob,kk b ob hc q⟩) (λ_ _ q=>q) (λ_ _ _ q=>q)
  (λb ps q=>⟨#[],by rw[q];simp⟩) (λm hm=>?_) (λb u q=>?_) I.bare
 .rcases T8.mp hb with rfl|hb
  .exact⟨e3,e1,e4,e5⟩
  .rw[Ud.mp hb];exact⟨i3,i1,i4,i5⟩
 .obtain⟨ob,es,ep,ho,r⟩:=hm;exact⟨ob,es,ep,k _ ob (Ne.symm e1) (Ne.symm i1) ho,r⟩
 .refine(I.hok b u q).stay (λc v hc z=>k c v ?_ ?_ z) (λc z=>z) λc xs z=>z
  .rcases hc with z|z
   .rw[z];exact ne b u q
   .exact ne c _ z
  .rcases hc with z|z
   .rw[z];exact nit b u q
   .exact nit c _ z
end
def N3(K:Frag)(a:XB):It:=
 ⟨λi H=>∃xs x,aO K H a xs/\xs[i]? =some x,λi H x H'=>∃t v,x=.ref t/\H t=none/\H'=upd H t (.tup [.int (i:Int),v])/\∀xs,aO K H a xs->xs[i]? =some v,λi H=>∃xs,aO K H a xs/\xs.length<=i⟩
theorem uR{P:P6}{w:P9}{K:Frag}{elts:List Qx}{k0:Nat}{pos:So}(a e it:XB)(hne:e≠it):wn P w K (.Tuple elts k0 pos) (N3 K a) [e,it] e (λi h=>(∃old,IsEnum h e it (i:Int) old)/\h.IsListIter it a i) where
 mem:=by simp
 obj:=λi h st b hb=>by
  obtain⟨⟨old,he⟩,o,ho,c,d⟩:=st
  rcases T8.mp hb with rfl|hb
  .exact⟨_,he,λv z=>by cases z⟩
  .rw[Ud.mp hb];exact⟨o,ho,λv z=>by rw[d]at z;cases z⟩
 keep:=λi h h' st k=>by obtain⟨⟨old,he⟩,hi⟩:=st;exact⟨⟨old,k e (by simp) _ he⟩,hi.at λo x=>k it (by simp) o x⟩
 item:=by
  intro X hP hw hK hc i Pw s σ H E I hf st hg;subst hP hw hK;obtain⟨xs,x,hq,hx⟩:=hg;obtain⟨its,rv,p,hz⟩:=I.list hq;obtain⟨u,hu,ru⟩:=rv.get hx;obtain⟨⟨old,he⟩,hit⟩:=st;have fe:=hf e (by simp);have fi:=hf it (by simp);obtain⟨oL,hoL,hcL,nL,hdL⟩:=p.isList;have hai:a≠it:=λz=>by subst z;obtain⟨o',ho',hc',_⟩:=hit;rw[hoL]at ho';cases ho';rw[hcL]at hc';injection hc' with hz';exact PK hz' (by decide)
  have hae:a≠e:=λz=>by subst z;have he':s.heap.get? a=_:=he;rw[hoL]at he';cases he';injection hcL with hz';exact PK hz' (by decide)
  have D:=Draws.list (prog:=X.prog) (w:=X.w) (A:=X.A.in1) (by show X.A.handled=none;exact I.ok.hd hc) it a hai its.toArray;have hlt:i<its.toArray.size:=by have:=(Um.mp hu).1;simpa using this
  refine SH D he ⟨hit,p.isList⟩ hlt hne (by simp[hne,hae.symm]) λx' h1 tk hP' ho hs' hT hsz hk=>?_;have ex:x'=u:=by have:its.toArray[i]? =some x':=hP';rw[Vo,hu]at this;exact(PL this).symm
  subst ex;refine⟨_,rfl,Sa ho λh2 he2 sb=>?_⟩;have hlt2:e<s.heap.objs.size:=PY he;have kk:∀b ob,b≠e->b≠it->s.heap.get? b=some ob->h2.get? b=some ob:=λb ob b1 b2 q=>(sb.2 b b1).trans (hk b ob b1 b2 q);have hT2:h2.get? s.heap.objs.size=some {cls:=.type "tuple",data:=.seq #[.int i tk,x']}:=(sb.2 _ (VU hlt2)).trans hT;have new:bE X.prog X.w (upd H s.heap.objs.size (.tup [.int (i:Int),x])) h2 s.heap.objs.size (.tup [.int (i:Int),x]):=
   ⟨by show 2<=fv;decide,[.int i tk,x'],.cons ⟨tk,rfl⟩ (.cons ru .nil),⟨_,hT2,rfl,_,rfl⟩⟩
  have I2:=I.turned_laid (t':=tk+1) kk fe fi (VO _) new;refine⟨.ref s.heap.objs.size,_,I2,rfl,⟨_,x,rfl,I.hok.fresh (VO _),rfl,λys hy=>by rw[I.list_inj hy hq];exact hx⟩,⟨⟨_,by simpa using he2⟩,hs'.1.at λo z=>(sb.2 it (Ne.symm hne)).trans z⟩,λb hb=>?_⟩
  rcases T8.mp hb with rfl|hb
  .rw[au (VP hlt2)];exact fe.1
  .rw[Ud.mp hb];obtain⟨o',ho',_⟩:=hit;rw[au (VP (PY ho'))];exact fi.1
 done:=by
   intro X hP hw hK hc i Pw s σ H E I hf st hg;subst hP hw hK;obtain⟨xs,hq,hx⟩:=hg;obtain⟨its,rv,p,hz⟩:=I.list hq;obtain⟨⟨old,he⟩,hit⟩:=st;have fe:=hf e (by simp);have fi:=hf it (by simp);have hl:=rv.length;obtain⟨oL,hoL,hcL,nL,hdL⟩:=p.isList;have hai:a≠it:=λz=>by subst z;obtain⟨o',ho',hc',_⟩:=hit;rw[hoL]at ho';cases ho';rw[hcL]at hc';injection hc' with hz';exact PK hz' (by decide)
   have hT:s.TypeIs (.ref e) "enumerate":=⟨_,he,rfl⟩;unfold Ra;refine PU (Q5 (Qq (name:=QC "__next__") hT Tb
    (Qp Tb hT F.entry_enumerate_next ?_ (F.args_enumerate_next_1 _))))
   show P2 _ _ (field (.ref e) 2 >>= _) _ _ _;refine PU (Rg he rfl (x:=.ref it) rfl ?_);refine PU (S7 (by show X.A.handled=none;exact I.ok.hd hc) hit p.isList (by simp;lia) λh' x he' hx'=>?_);obtain⟨o,ho,hcx⟩:=hx';refine PU (Rl (T:="StopIteration") (b:=true) ⟨o,ho,hcx⟩ Se ?_);exact PV ⟨rfl,I.turned2 (t':=s.toks) (λb ob _ b2 q=>he' b ob b2 q) fe fi⟩
 self:=λA i s Q E st h=>by obtain⟨⟨old,he⟩,_⟩:=st;exact RI he h
def zy(x:Str):It:=
 ⟨λi _=>i<x.cps.size,λi H v H'=>∃t c,v=.ref t/\H t=none/\x.cps.toList[i]? =some c/\H'=upd H t (.tup [.int (i:Int),.str ⟨#[c]⟩]),λi _=>i=x.cps.size⟩
theorem pI(hh:A.handled=none)(it:XB)(x:Str)(t:Tok):Draws prog w A it [it] x.cps.size (λi v=>∃c u,x.cps[i]? =some c/\v=.str ⟨#[c]⟩ u) (λi h=>h.IsStrIter it (Tf x) x t i):=by
 unfold Tf;split
 .exact Draws.strAscii hh it x t
 .exact Draws.strWide hh it x t
theorem uQ{P:P6}{w:P9}{K:Frag}{elts:List Qx}{k0:Nat}{pos:So}(e it:XB)(x:Str)(t:Tok)(hne:e≠it):wn P w K (.Tuple elts k0 pos) (zy x) [e,it] e (λi h=>(∃old,IsEnum h e it (i:Int) old)/\h.IsStrIter it (Tf x) x t i) where
 mem:=by simp
 obj:=λi h st b hb=>by
  obtain⟨⟨old,he⟩,o,ho,c,d⟩:=st
  rcases T8.mp hb with rfl|hb
  .exact⟨_,he,λv z=>by cases z⟩
  .rw[Ud.mp hb];exact⟨o,ho,λv z=>by rw[d]at z;cases z⟩
 keep:=λi h h' st k=>by obtain⟨⟨old,he⟩,o,ho,r⟩:=st;exact⟨⟨old,k e (by simp) _ he⟩,o,k it (by simp) o ho,r⟩
 item:=by
  intro X hP hw hK hc i Pw s σ H E I hf st hg;subst hP hw hK;obtain⟨⟨old,he⟩,hit⟩:=st;have fe:=hf e (by simp);have fi:=hf it (by simp);have D:=pI (prog:=X.prog) (w:=X.w) (A:=X.A.in1) (by show X.A.handled=none;exact I.ok.hd hc) it x t;refine SH D he hit hg hne (by simp[hne]) λx' h1 tk hP' ho hs' hT hsz hk=>?_;obtain⟨c,u,hcx,rfl⟩:=hP';refine⟨_,rfl,Sa ho λh2 he2 sb=>?_⟩;have hlt2:e<s.heap.objs.size:=PY he;have kk:∀b ob,b≠e->b≠it->s.heap.get? b=some ob->h2.get? b=some ob:=λb ob b1 b2 q=>(sb.2 b b1).trans (hk b ob b1 b2 q);have hT2:h2.get? s.heap.objs.size=some {cls:=.type "tuple",data:=.seq #[.int i tk,.str ⟨#[c]⟩ u]}:=(sb.2 _ (VU hlt2)).trans hT;have new:bE X.prog X.w (upd H s.heap.objs.size (.tup [.int (i:Int),.str ⟨#[c]⟩])) h2 s.heap.objs.size (.tup [.int (i:Int),.str ⟨#[c]⟩]):=
   ⟨by show 2<=fv;decide,[.int i tk,.str ⟨#[c]⟩ u],.cons ⟨tk,rfl⟩ (.cons ⟨u,rfl⟩ .nil),⟨_,hT2,rfl,_,rfl⟩⟩
  have I2:=I.turned_laid (t':=tk+1) kk fe fi (VO _) new;have hs2:h2.IsStrIter it (Tf x) x t (i+1):=by obtain⟨o',ho',r⟩:=hs';exact⟨o',(sb.2 it (Ne.symm hne)).trans ho',r⟩
  refine⟨.ref s.heap.objs.size,_,I2,rfl,⟨_,c,rfl,I.hok.fresh (VO _),by rw[WG];exact hcx,rfl⟩,⟨⟨_,by simpa using he2⟩,hs2⟩,λb hb=>?_⟩
  rcases T8.mp hb with rfl|hb
  .rw[au (VP hlt2)];exact fe.1
  .rw[Ud.mp hb];obtain⟨o',ho',_⟩:=hit;rw[au (VP (PY ho'))];exact fi.1
 done:=by intro X hP hw hK hc i Pw s σ H E I hf st hg;subst hP hw hK;obtain⟨⟨old,he⟩,hit⟩:=st;have hg:i=x.cps.size:=hg;subst hg;have fe:=hf e (by simp);have fi:=hf it (by simp);have D:=pI (prog:=X.prog) (w:=X.w) (A:=X.A.in1) (by show X.A.handled=none;exact I.ok.hd hc) it x t;exact wpAny_pyNext_enum_endD D he hit λh' hx=>⟨rfl,I.turned2 (t':=s.toks) (λb ob _ b2 q=>hx b ob b2 q) fe fi⟩
 self:=λA i s Q E st h=>by obtain⟨⟨old,he⟩,_⟩:=st;exact RI he h
section
variable{X:Cx}{p pos pos2:So}{a:Qx}{elts:List Qx}{k0:Nat}{ta:TE}
def xw(K:Frag)(ta:TE):TI:=λσ H R=>ta σ H λx H1=>match x with
 | .ref d=>(∃xs,aO K H1 d xs)/\R (N3 K d) H1
 | .str z=>R (zy z) H1
 |_=>False
theorem CT(hm:X.mg "enumerate"=none)(ha:PE X a ta)(hg:Gl X "enumerate":=by rfl)(hs:P1 [a] X.env=[(false,Qk a X.env)]:=by rfl):PI X (.Tuple elts k0 pos2) (.Call (.Name "enumerate" p) [a] [] pos) (xw X.K ta):=by
 intro Pw s σ H R I h;have hA:PA X [a] (ba ta cE):=pa_cons ha pan (by rw[hs];rfl);refine Call_ (gP I hg hm rO (PyProof.Rows.callWith_type1 (bL (hA pos Pw s σ H (λvs H1=>∃x,vs=[x]/\(match x with| .ref d=>(∃xs,aO X.K H1 d xs)/\R (N3 X.K d) H1| .str z=>R (zy z) H1|_=>False)) I ?_) λus s1 ⟨vs,H1,I1,r1,x,e1,q1⟩=>?_) (by rw[hs];rfl) rfl) (by decide) (by decide))
 .show ta σ H _;have e:(λ(x:V)(H1:Hp)=>match x with| .ref d=>(∃xs,aO X.K H1 d xs)/\R (N3 X.K d) H1| .str z=>R (zy z) H1|_=>False)=λx H1=>cE σ H1 λxs H2=>∃y,x::xs=[y]/\(match y with| .ref d=>(∃xs,aO X.K H2 d xs)/\R (N3 X.K d) H2| .str z=>R (zy z) H2|_=>False):=by
   funext x H1;apply propext
   constructor
   .intro q;exact⟨x,rfl,q⟩
   .rintro⟨y,e,q⟩;have:x=y:=by injection e
    subst this;exact q
  rw[<-e];exact h
 .subst e1;obtain⟨u,rfl,ru⟩:=dQ r1;cases x with
  |ref d=>
   obtain⟨⟨xs,hq⟩,q⟩:=q1;cases ru;obtain⟨its,rv,pl,hz⟩:=I1.list hq;refine call_enumerate_list pl.isList λh' he hit hsz hk=>?_;have I2:aJ X Pw σ H1 {s1 with heap:=h'}:=I1.kept (t':=s1.toks) hk;refine RI he ⟨s1.heap.objs.size+1,[s1.heap.objs.size+1,s1.heap.objs.size],_,_,H1,rfl,I2,uR d _ _ (V3 _),⟨⟨_,he⟩,hit⟩,λb hb=>?_,q⟩
   rcases T8.mp hb with rfl|hb
   .exact I1.fpOk (VT _) (I1.hok.fresh (VT _))
   .rw[Ud.mp hb];exact I1.fpOk (VO _) (I1.hok.fresh (VO _))
  |str z=>
   obtain⟨t,rfl⟩:=ru;refine call_enumerate_str λh' he hit hsz hk=>?_;have I2:aJ X Pw σ H1 {s1 with heap:=h'}:=I1.kept (t':=s1.toks) hk;refine RI he ⟨s1.heap.objs.size+1,[s1.heap.objs.size+1,s1.heap.objs.size],_,_,H1,rfl,I2,uQ _ _ z t (V3 _),⟨⟨_,he⟩,hit⟩,λb hb=>?_,q1⟩
   rcases T8.mp hb with rfl|hb
   .exact I1.fpOk (VT _) (I1.hok.fresh (VT _))
   .rw[Ud.mp hb];exact I1.fpOk (VO _) (I1.hok.fresh (VO _))
  |_=>exact q1.elim
theorem Bb(K:Frag)(hm:X.mg "enumerate"=none)(ha:PE X a ta)(hg:Gl X "enumerate":=by rfl)(hs:P1 [a] X.env=[(false,Qk a X.env)]:=by rfl)(hK:X.K=K:=by rfl):PI X (.Tuple elts k0 pos2) (.Call (.Name "enumerate" p) [a] [] pos) (xw K ta):=by subst hK;exact CT hm ha hg hs
end
section
def Nc(x:V)(vs:List V)(H:Hp)(Q:VK):Prop:=match x,vs with
 | .str a,[]=>a.length<=fv/\(∀c∈a.cps.toList,c<128)/\Q (.str ⟨a.cps.map lo1⟩) H
 |_,_=>False
theorem AZ:uL X "str.lower" Nc:=by
 unfold uL;intro Pw s σ H x xs v us Q I rx r h;unfold Nc at h;split at h
 .rename_i a;obtain⟨hz,ha,q⟩:=h;obtain⟨t,rfl⟩:=rx;cases r;have e:placed a (λi _=>S3 a.cps i)=a.cps.map lo1:=placed_single a _ lo1 λi c hc=>by
   have hc':a.cps[i]? =some c:=by simpa using hc
   have hlt:=ha c (Us hc);unfold S3;rw[hc'];have hne:(c == 0x3A3)=false:=by rw[beq_eq_false_iff_ne];lia
   simp only[hne,Bool.false_and,Wt,if_false];exact lowerOf_ascii c hlt
  have hfit:QS (placed a λi _=>S3 a.cps i).size=false:=by rw[e,WJ];unfold QS;exact PB (by show¬a.cps.size > fv;have:a.length=a.cps.size:=rfl;lia)
  refine SW F.slot_str_lower (Rw _ _ _) F.entry_str_lower (F.args_str_lower_1 _) (gives_str_lower a t hfit) ?_;rw[e];exact⟨by show(a.cps.map lo1).size<=fv;rw[WJ];exact hz,⟨.str _,H,I.tok _,⟨_,rfl⟩,q⟩⟩
 .exact h.elim
theorem vR:∀c,c<128->(Unicode.isUpper c&& !(Unicode.isLower c||Unicode.isTitle c))=decide (65<=c/\c<=90):=by decide+kernel
def Oa(x:V)(vs:List V)(H:Hp)(Q:VK):Prop:=match x,vs with
 | .str a,[]=>∃c,a=⟨#[c]⟩/\c<128/\Q (.bl (decide (65<=c/\c<=90))) H
 |_,_=>False
theorem Jn:uL X "str.isupper" Oa:=by
 unfold uL;intro Pw s σ H x xs v us Q I rx r h;unfold Oa at h;split at h
 .rename_i a;obtain⟨c,rfl,hc,q⟩:=h;obtain⟨t,rfl⟩:=rx;cases r;refine SW F.slot_str_isupper (Rw _ _ _) F.entry_str_isupper (F.args_str_isupper_1 _) (gives_str_isupper _ t) ?_;refine fin_bl I q ?_;rw[<-vR c hc];simp
 .exact h.elim
theorem OU:(Nc (.str a) [] H Q)=(a.length<=fv/\(∀c∈a.cps.toList,c<128)/\Q (.str ⟨a.cps.map lo1⟩) H):=rfl
end
abbrev one(c:Nat):Str:=⟨#[c]⟩
def rT(c:Nat):Prop:=97<=c/\c<=122
def Sg(c:Nat):Prop:=c=46\/c=35\/(97<=c/\c<=122)\/(65<=c/\c<=90)
theorem Sg.lt(h:Sg c):c<128:=by unfold Sg at h;lia
def lN(c:Nat):V:=if c=46\/c=35 then .non else .str (one (lo1 c))
def bX(c:Nat):V:=if c=46\/c=35 then .non else .int (if 65<=c/\c<=90 then 0 else 1)
theorem Ca:("abcdefghijklmnopqrstuvwxyz":Str).cps.toList=[97,98,99,100,101,102,103,104,105,106,107,108,109,110,111,112,113,114,115,116,117,118,119,120,121,122]:=by decide+kernel
theorem dh_in(c:Nat):decide (c∈(".#":Str).cps.toList)=decide (c=46\/c=35):=by
 have e:(".#":Str).cps.toList=[46,35]:=by decide+kernel
 rw[e,Wu];simp only[decide_eq_true_eq,T8,Uk,or_false]
theorem Kg(h0:0<=i)(h1:i<26):jd ("abcdefghijklmnopqrstuvwxyz":Str).cps.toList i=some (97+i.toNat):=by
 have e:i=((i.toNat:Nat):Int):=by lia
 have hx:∀k<26,("abcdefghijklmnopqrstuvwxyz":Str).cps.toList[k]? =some (97+k):=by rw[Ca];decide
 have q:=bI (hx i.toNat (by lia));rw[<-e]at q;exact q
theorem NH(b:Bool):jd (".#":Str).cps.toList (if b=true then 1 else 0)=some (if b=true then 35 else 46):=by
 have e:(".#":Str).cps.toList=[46,35]:=by decide+kernel
 rw[e];cases b<;>decide
theorem Cs:(".":Str)=one 46:=by decide+kernel
theorem zT:("#":Str)=one 35:=by decide+kernel
section
variable{K:Frag}{σ rest:St}{H:Hp}{te ta tb tl:TE}{tt:TT}{R:Bool->Hp->Prop}{Q:VK}{c:Nat}{z:Str}{src:List (Option Nat)}
theorem HJ(h:Ev te σ H (.str (one c)))(ha:Ev ta σ H (.str (one 46)))(hb:Ev tb σ H (.str (one 35)))(q:∀H',aj H H'->R (decide (c=46\/c=35)) H'):dD (dE K .In te (zL (ba ta (ba tb cE)))) σ H R:=
 h _ (ha _ (hb _ ⟨by show 2<=fv;decide,λt ht=>by
  show a9 K .In (.str (one c)) (.ref t) _ (eT R);rw[io];refine⟨t,_,rfl,.inr (da.of ah),rfl,rfl,?_⟩;have e:Dl (.str (one c)) [.str (one 46),.str (one 35)]=decide (c=46\/c=35):=by
   unfold Dl;have e1:eqV (.str (one 46)) (.str (one c))=decide (c=46):=by
    show((one 46) == (one c))=_
    by_cases h:c=46
    .subst h;simp
    .rw[PB h];exact beq_eq_false_iff_ne.mpr (λe=>h (by have:=PM (λx:Str=>x.cps.toList) e;simp[one]at this;lia))
   have e2:eqV (.str (one 35)) (.str (one c))=decide (c=35):=by
    show((one 35) == (one c))=_
    by_cases h:c=35
    .subst h;simp
    .rw[PB h];exact beq_eq_false_iff_ne.mpr (λe=>h (by have:=PM (λx:Str=>x.cps.toList) e;simp[one]at this;lia))
   show(eqV (.str (one 46)) (.str (one c))||(eqV (.str (one 35)) (.str (one c))||false))=_
   rw[e1,e2]
   by_cases h1:c=46<;>by_cases h2:c=35<;>simp[h1,h2]
  show eT R (.bl (if false then _ else Dl (.str (one c)) [.str (one 46),.str (one 35)])) _;rw[e];exact q _ ((aj.refl H).upd ht)⟩))
theorem JU(ha:Ev ta σ H (.str (one c)))(hb:Ev tb σ H (.str z)):Ev (dE K .In ta tb) σ H (.bl (decide (c∈z.cps.toList))):=λQ q=>ha _ (hb _ (by
 show a9 K .In _ _ _ _;rw[tu,StrLaws.found_one];exact q))
theorem NC(ha:Ev ta σ H (.str (one c)))(hc:rT c):Ev (wf Hl ta) σ H (.str (one (c - 32))):=λQ q=>ha _ (by
 show Hl (.str (one c)) [] H Q;rw[IG];refine⟨by show 1<=fv;decide,λd hd=>?_,?_⟩
 .have e:d=c:=by simpa[one]using hd
  have:=hc.2;lia
 have e:(⟨(one c).cps.map up1⟩:Str)=one (c - 32):=by
  show(⟨#[c].map up1⟩:Str)=_;have:up1 c=c - 32:=by unfold up1;exact PF hc
  simp[one,this]
 rw[e];exact q)
theorem HQ(ha:Ev ta σ H (.str (one c)))(hc:c<128):Ev (wf Nc ta) σ H (.str (one (lo1 c))):=λQ q=>ha _ (by
 show Nc (.str (one c)) [] H Q;rw[OU];refine⟨by show 1<=fv;decide,λd hd=>?_,?_⟩
 .have e:d=c:=by simpa[one]using hd
  lia
 have e:(⟨(one c).cps.map lo1⟩:Str)=one (lo1 c):=by show(⟨#[c].map lo1⟩:Str)=_;simp[one]
 rw[e];exact q)
theorem NF(ha:Ev ta σ H (.str (one c)))(hc:c<128):Ev (wf Oa ta) σ H (.bl (decide (65<=c/\c<=90))):=λQ q=>ha _ (by
 show Oa (.str (one c)) [] H Q;exact⟨c,rfl,hc,q⟩)
theorem ND{lo hi:Option Int}(ha:Ev ta σ H (.str z))(hl:∀Q:Option Int->Hp->Prop,Q lo H->tl' σ H Q)(hh:∀Q:Option Int->Hp->Prop,Q hi H->th σ H Q)(hz:z.length<=fv):Ev (BY K ta tl' th) σ H (.str (nG z lo hi)):=λQ q=>ha _ (hl _ (hh _ ⟨hz,q⟩))
theorem lJ:∀Q:Option Int->Hp->Prop,Q none H->ik σ H Q:=λQ q=>q
theorem jC(h:Ev te σ H (.int i)):∀Q:Option Int->Hp->Prop,Q (some i) H->nP te σ H Q:=λQ q=>h _ q
theorem qd:a9 K .Eq (bX c) (.int sd) H Q=Q (.bl (decide (bX c=.int sd))) H:=by
 unfold bX
 by_cases h:c=46\/c=35
 .rw[PF h];show Q (.bl false) H=Q (.bl (decide (V.non=V.int sd))) H;rw[PB (by intro z;cases z)]
 .rw[PD h];show Q (.bl (decide (_=sd))) H=Q (.bl (decide (V.int _=V.int sd))) H;have:∀i:Int,decide (i=sd)=decide (V.int i=V.int sd):=λi=>by
   by_cases e:i=sd
   .rw[Pz e,Pz (PM V.int e)]
   .rw[PB e,PB (λz=>e (by injection z))]
  rw[this]
def DC(l:List Nat)(p:Nat->Nat->Bool)(f:Nat->Nat->V)(n:Nat):List V:=((List.range n).filter λi=>p i (l.getD i 0)).map λi=>f i (l.getD i 0)
theorem ul:DC l p f (n+1)=DC l p f n++(if p n (l.getD n 0)=true then [f n (l.getD n 0)]else []):=by
 unfold DC;rw[UU,Vp,Uq];congr 1
 by_cases h:p n (l.getD n 0)=true
 .rw[PF h];have e:(List.filter (λi=>p i (l.getD i 0)) [n])=[n]:=by rw[UV];exact PF h
  rw[e];rfl
 .rw[PD h];have e:(List.filter (λi=>p i (l.getD i 0)) [n])=[]:=by rw[UV];exact PD h
  rw[e];rfl
theorem DB:(DC l p f n).length<=n:=by unfold DC;rw[T7];exact VR (UN _ _) (by rw[UH];exact VO _)
theorem BP(hl:Ev tl σ H (.str z))(hz:z.length<=1000)(hs:eW src σ=none::none::rest)(p:Nat->Nat->Bool)(f:Nat->Nat->V)(ht:∀(i c:Nat)(H':Hp),z.cps.toList[i]? =some c->aj H H'->∀R:Bool->Hp->Prop,(∀H'',aj H' H''->R (p i c) H'')->tt (some (.int (i:Int))::some (.str (one c))::rest) H' R)(he:∀(i c:Nat)(H':Hp),z.cps.toList[i]? =some c->p i c=true->aj H H'->Ev te (some (.int (i:Int))::some (.str (one c))::rest) H' (f i c))(q:∀H' d,aj H H'->H' d=none->Q (.ref d) (upd H' d (.lst (DC z.cps.toList p f z.length)))):tComp (xw K tl) (Bq K 2 (iW (gName 0) (iW (gName 1) Br))) tt te src σ H Q:=by
 refine hl _ ?_;show dC _ tt te src σ Q (zy z) H;refine nI z.length (λi ys σ' H'=>aj H H'/\(∃o0 o1,σ'=o0::o1::rest)/\ys=DC z.cps.toList p f i) (VR hz (by decide)) (λi ys σ H h=>by rw[h.2.2];exact DB) (λi ys σ H h hi=>hi) (λys σ H h=>rfl) ⟨aj.refl H,⟨_,_,hs⟩,rfl⟩ ?_ ?_
 .rintro i ys _ H1 x H2 hi ⟨s1,⟨o0,o1,rfl⟩,rfl⟩ ⟨t,c,rfl,ht0,hc,rfl⟩ Kt Kf kt kf;have s2:aj H (upd H1 t (.tup [.int (i:Int),.str ⟨#[c]⟩])):=s1.upd ht0;refine⟨t,_,rfl,da.of ah,rfl,_,_,rfl,_,_,rfl,rfl,?_⟩;have eg:z.cps.toList.getD i 0=c:=by rw[Ug,hc];rfl
  show tt (some (.int (i:Int))::some (.str (one c))::rest) _ _;refine ht i c _ hc s2 _ (λH3 s3=>?_);cases hp:p i c with
  |true=>
   refine iG (he i c _ hc hp (s2.trans s3) _ (kt _ _ _ ⟨s2.trans s3,⟨_,_,rfl⟩,?_⟩));rw[ul,eg,hp,PF rfl]
  |false=>
   refine gF (kf _ _ ⟨s2.trans s3,⟨_,_,rfl⟩,?_⟩);rw[ul,eg,hp,PD (by simp),Uo]
 .rintro ys σ' H' d ⟨s1,_,rfl⟩ hd;exact q H' d s1 hd
end
theorem y4(cs:List Nat):RL ("":Str) (cs.map one)=⟨cs.toArray⟩:=by
 have key:∀(r:List Nat)(acc:Array Nat),(r.map one).foldl (λacc p=>acc++("":Str).cps++p.cps) acc=acc++r.toArray:=by
  intro r
  induction r with
  |nil=>intro acc;simp
  |cons a r ih=>
   intro acc;rw[Uw,List.foldl_cons,ih];have e:("":Str).cps= #[]:=by decide+kernel
   rw[e];apply WL.mp;simp[one]
 unfold RL Builtin.Str.glued;cases cs with
 |nil=>rfl
 |cons a r=>
  show(⟨((r.map one).foldl (λacc p=>acc++("":Str).cps++p.cps) (one a).cps)⟩:Str)=_;rw[key];apply ma;simp[one]
def sqsOf(row:Str)(sd:Int):List Int:=((List.range row.length).filter λi=>decide (bX (row.cps.toList.getD i 0)=.int sd)).map λ(i:Nat)=>(i:Int)
def zY:Sp:=λvs H Q _=>∃c:Nat,vs=[.str (one c)]/\c<128/\∀H',aj H H'->Q (lN c) H'
def mH:Sp:=λvs H Q _=>∃c:Nat,vs=[.str (one c)]/\c<128/\∀H',aj H H'->Q (bX c) H'
def oO:Sp:=λvs H Q _=>∃(row:Str)(sd:Int),vs=[.str row,.int sd]/\row.length<=100/\(∀c∈row.cps.toList,c<128)/\∀(q:XB)(H':Hp),H q=none->H' q=some (.lst ((sqsOf row sd).map V.int))->aj H H'->Q (.ref q) H'
section
variable{K:Frag}{σ:St}{H:Hp}{tb:TE}{t:TA}{op:S4}{R:Bool->Hp->Prop}{vs:List V}{sp:Sp}
theorem BF:Ev (tC (.str ".")) σ H (.str (one 46)):=by rw[<-Cs];exact aq
theorem xD:Ev (tC (.str "#")) σ H (.str (one 35)):=by rw[<-zT];exact aq
theorem BG(h:Av t σ H vs)(q:sp vs H (λx H1=>tb σ H1 λy H2=>a9 K op x y H2 (eT R)) E0):dD (dE K op (cY sp t) tb) σ H R:=h _ q
end
theorem ME(ho:Ev to σ H (.str z))(q:te σ H λx H2=>r (.str z) [x] H2 Q):NP r to (ba te cE) σ H Q:=ho _ q
structure CP1(P:P6)(w:P9)(K:Frag)(mg:PN)(Px:Qe):Prop where
 side_of:dG P w K mg Px "side_of" ["sign"] 1 mH
section
variable{K:Frag}{σ rest:St}{H:Hp}{te to ta tb tl:TE}{t:TA}{tt u:TT}{src:List (Option Nat)}{Q:VK}{R:Bool->Hp->Prop}{D:iI}{g:TG}{tB:TS}{v x y:V}{vs:List V}
theorem xC(h:Ev te σ H (.bl b)):Ev (cB y7 (ba te cE)) σ H (.int (if b then 1 else 0)):=λQ q=>h _ q
theorem zk{ta:TA}{n:Int}(hl:∀Q:List V->Hp->Prop,(∀H',aj H H'->Q [.int n] H')->ta σ H Q)(h0:0<=n)(hz:n.toNat<=fv)(h1:n<2 ^ 62)(hs:eW src σ=none::rest)(p:V->Bool)(f:V->V)(ht:∀(i:Nat) H',aj H H'->i<n.toNat->Tv tt (some (.int (0+(i:Int)))::rest) H' (p (.int (0+(i:Int)))))(he:∀(i:Nat) H',aj H H'->i<n.toNat->p (.int (0+(i:Int)))=true->Ev te (some (.int (0+(i:Int)))::rest) H' (f (.int (0+(i:Int)))))(q:∀H' d',aj H H'->H' d'=none->Q (.ref d') (upd H' d' (.lst ((((List.range n.toNat).map λ(i:Nat)=>V.int (0+(i:Int))).filter p).map f)))):tComp (nB ta) (gName 0) tt te src σ H Q:=by
 have hin:∀x∈(List.range n.toNat).map λ(i:Nat)=>V.int (0+(i:Int)),∃i:Nat,i<n.toNat/\x=.int (0+(i:Int)):=λx hx=>by obtain⟨i,hi,rfl⟩:=T9.mp hx;exact⟨i,Uh.mp hi,rfl⟩
 have hlen:((List.range n.toNat).map λ(i:Nat)=>V.int (0+(i:Int))).length=n.toNat:=by simp
 refine hl _ λH' s=>⟨n,rfl,by lia,h1,jb (xs:=(List.range n.toNat).map λ(i:Nat)=>V.int (0+(i:Int))) (by rw[hlen];exact hz) hs p f (λi hi=>by rw[hlen]at hi;exact hi) (by rw[hlen];exact VO _) (λi v H2 hi y=>⟨y.1,?_⟩) (λx hx=>?_) (λx hx hp=>?_) (λd' hd'=>q H' d' s hd')⟩
 .rw[hlen]at hi;rw[Ub,UI hi,y.2];rfl
 .obtain⟨i,hi,rfl⟩:=hin x hx;exact ht i H' s hi
 .obtain⟨i,hi,rfl⟩:=hin x hx;exact he i H' s hi hp
theorem lv{ta:TA}(n:Int)(hta:∀Q:List V->Hp->Prop,(∀H',aj H H'->Q [.int n] H')->ta σ H Q)(h0: -(2 ^ 62)<=n)(h1:n<2 ^ 62)(Pv:Nat->St->Hp->Prop)(hp0:∀H',aj H H'->Pv 0 σ H')(hs:∀i σ H,i<n.toNat->Pv i σ H->g (.int (0+i)) σ H λσ2 H2=>tB {D with nx:=Pv (i+1),ct:=Pv (i+1),bk:=D.nx} σ2 H2)(hd:∀σ H,Pv n.toNat σ H->D.nx σ H):tFor (nB ta) g tB D σ H:=
 hta _ λH' s=>⟨n,rfl,h0,h1,pE Pv (hp0 H' s) hs hd⟩
theorem wW{i:Int}{Q:List V->Hp->Prop}(h:Av t σ H vs)(hz:vs.length<=1000)(hi:∀H',Ev te σ H' (.int i))(e:jd vs i=some v)(q:∀H',aj H H'->Q [v] H'):ba (xP K (uU t) te) cE σ H Q:=kn (K:=K) (Q:=λx H1=>Q [x] H1) h hz hi e q
theorem uS(ha:Ev ta σ H x)(hb:Ev tb σ H y)(hc:Ev tc σ H z)(q:∀p,H p=none->Q (.ref p) (upd H p (.tup [x,y,z]))):zL (ba ta (ba tb (ba tc cE))) σ H Q:=ha _ (hb _ (hc _ ⟨by show 3<=fv;decide,q⟩))
theorem MA(h:Tv tt σ H false)(q:u σ H R):Io tt u σ H R:=h _ (gF q)
theorem ue(P0:XB->Hp->Prop)(htl:∀Q:VK,(∀d H',P0 d H'->Q (.ref d) H')->tl σ H Q)(h:∀d H',P0 d H'->∃xs,aO K H' d xs/\∃Pv:Nat->St->Hp->Prop,Pv 0 σ H'/\(∀i σ' H',Pv i σ' H'->aO K H' d xs)/\
   (∀(i:Nat) x σ' H' t,xs[i]? =some x->Pv i σ' H'->H' t=none->g (.ref t) σ' (upd H' t (.tup [.int (i:Int),x])) λσ2 H2=>tB {D with nx:=Pv (i+1),ct:=Pv (i+1),bk:=D.nx} σ2 H2)/\(∀σ' H',Pv xs.length σ' H'->D.nx σ' H')):tFor (xw K tl) g tB D σ H:=by
 refine htl _ λd H1 p1=>?_;obtain⟨xs,hq,Pv,hp0,hl,hs,hd⟩:=h d H1 p1;refine⟨⟨xs,hq⟩,λi m σ' H'=>m=xs.length - i/\i<=xs.length/\Pv i σ' H',⟨_,rfl,VQ _,hp0⟩,?_⟩;rintro i m σ' H' ⟨rfl,hi,pv⟩;have hS:=hl i σ' H' pv
 by_cases hlt:i<xs.length
 .refine .inr ⟨⟨xs,xs[i],hS,Ua hlt⟩,Pv (i+1),λσ2 H2 p2=>⟨xs.length - (i+1),by lia,rfl,hlt,p2⟩,?_⟩;rintro x H2 ⟨t,w,rfl,ht,rfl,hx⟩;exact hs i w σ' H' t (hx xs hS) pv ht
 .have e:i=xs.length:=by lia
  subst e;exact .inl ⟨⟨xs,hS,VO _⟩,hd σ' H' pv⟩
theorem oU{xs:List V}{lo hi:Option Int}(ha:Ev ta σ H (.ref d))(hl:∀Q:Option Int->Hp->Prop,Q lo H->tl' σ H Q)(hh:∀Q:Option Int->Hp->Prop,Q hi H->th σ H Q)(hx:aO K H d xs)(q:∀p,H p=none->Q (.ref p) (upd H p (.lst (cutV xs lo hi)))):BY K ta tl' th σ H Q:=ha _ (hl _ (hh _ ⟨xs,hx,q⟩))
theorem m5{ns:List Int}{i:Int}(h0:0<=i)(h1:i<ns.length):∃n:Int,jd (ns.map V.int) i=some (.int n)/\n∈ns:=by
 have hlt:i.toNat<ns.length:=by lia
 have e:(ns.map V.int)[i.toNat]? =some (.int ns[i.toNat]):=by rw[Ub,Ua hlt];rfl
 have q:=bI e;have ei:((i.toNat:Nat):Int)=i:=by lia
 rw[ei]at q;exact⟨_,q,Uv hlt⟩
theorem AG{xs:List V}{i:Int}(h0:0<=i)(h1:i<xs.length):∃v,jd xs i=some v/\v∈xs:=by
 have hlt:i.toNat<xs.length:=by lia
 have q:=bI (Ua hlt);have ei:((i.toNat:Nat):Int)=i:=by lia
 rw[ei]at q;exact⟨_,q,Uv hlt⟩
theorem Bk{i j:Nat}{d:XB}{a b:V}{R:St->Hp->Prop}(h:H d=some (.tup [a,b]))(q:R ((σ.set i (some a)).set j (some b)) H):Bq K 2 (iW (gName i) (iW (gName j) Br)) (.ref d) σ H R:=⟨d,_,rfl,da.of h,rfl,_,_,rfl,_,_,rfl,rfl,q⟩
theorem Nw{i j l:Nat}{d:XB}{a b c:V}{R:St->Hp->Prop}(h:H d=some (.tup [a,b,c]))(q:R (((σ.set i (some a)).set j (some b)).set l (some c)) H):Bq K 3 (iW (gName i) (iW (gName j) (iW (gName l) Br))) (.ref d) σ H R:=⟨d,_,rfl,da.of h,rfl,_,_,rfl,_,_,rfl,_,_,rfl,rfl,q⟩
theorem J9(h:Av t σ H vs)(q:sp vs H (λx H1=>g x σ H1 D.nx) E0):tAsg (cY sp t) g D σ H:=h _ q
theorem BM{xs:List V}{lo hi:Option Int}(h:v∈cutV xs lo hi):v∈xs:=VE (UO h)
end
theorem AE:∀(n:Nat)(l:List Int),l.length<n->∃s:Nat,s<n/\¬((s:Int)∈l)
 |0,l,h=>by lia
 |n+1,l,h=>by
  by_cases m:((n:Nat):Int)∈l
  .have hl:=Vq m;have hp:=Vb m;obtain⟨s,h1,h2⟩:=AE n (l.erase ((n:Nat):Int)) (by lia);refine⟨s,by lia,λz=>h2 ?_⟩;exact(Vr (by lia)).mpr z
  .exact⟨n,by lia,m⟩
def fR(wi hi:Int)(hs:List Int):List Int:=((List.range (wi*hi).toNat).map λ(i:Nat)=>(i:Int)).filter λi=> !decide (i∈hs)
theorem Bu(h:s∈fR wi hi hs):0<=s/\s<wi*hi/\¬s∈hs:=by unfold fR at h;rw[UA]at h;obtain⟨h1,h2⟩:=h;obtain⟨i,hi,rfl⟩:=T9.mp h1;have hi:=Uh.mp hi;refine⟨by lia,by lia,?_⟩;intro z;rw[Pz z]at h2;cases h2
theorem zd(h:(hs.length:Int)<wi*hi):0<(fR wi hi hs).length:=by obtain⟨s,h1,h2⟩:=AE (wi*hi).toNat hs (by lia);refine Vb (a:=(s:Int)) ?_;unfold fR;rw[UA];refine⟨T9.mpr ⟨s,Uh.mpr h1,rfl⟩,?_⟩;rw[PB h2];rfl
def Bt(hs:List Int):V->Bool
 | .int i=> !decide (i∈hs)
 |_=>false
theorem vV:(((List.range (wi*hi).toNat).map λ(i:Nat)=>V.int (0+(i:Int))).filter (Bt hs)).map (λv=>v)=(fR wi hi hs).map V.int:=by
 unfold fR;rw[List.map_id',UW,UW,Uf];have e:(Bt hs∘λ(i:Nat)=>V.int (0+(i:Int)))=((λi=> !decide (i∈hs))∘λ(i:Nat)=>(i:Int)):=by funext i;show(!decide (0+(i:Int)∈hs))= !decide ((i:Int)∈hs);rw[We]
 rw[e];refine UG λi _=>?_;show V.int (0+(i:Int))=V.int (i:Int);rw[We]
def cellAt(ns:List Int)(k:Int):Int:=ns.getD k.toNat 0
def mixed(c k:Int):Int:=(c+7919*k+3)*48271 % 2147483647
def jO(b s:Int)(n:Nat):List Nat:=(List.range n).map λ(k:Nat)=>97+((b+s*(k:Int)) % 26).toNat
theorem vO:∀c∈jO b s n,rT c:=by intro c hc;obtain⟨k,_,rfl⟩:=T9.mp hc;unfold rT;lia
theorem yY(hn:n<=6)(hs:s∈([1,3,5,7,9,11]:List Int)):(jO b s n).Nodup:=by
 unfold jO;rw[UC,Ux];refine List.Pairwise.imp_of_mem ?_ (UC.mp Vc);intro i j hi hj ne e;have hi:=Uh.mp hi;have hj:=Uh.mp hj;apply ne;simp only[T8,Uk,or_false]at hs
 rcases hs with rfl|rfl|rfl|rfl|rfl|rfl
 all_goals omega
def strV(c:Nat):V:=.str (one c)
def jZ(K:Frag):Sp:=λvs H Q _=>∃(a:XB)(ns:List Int)(k:Int),vs=[.ref a,.int k]/\aO K H a (ns.map V.int)/\0<=k/\Q (.int (cellAt ns k)) H
def pX:Sp:=λvs H Q _=>∃c k:Int,vs=[.int c,.int k]/\Q (.int (mixed c k)) H
def sK(K:Frag):Sp:=λvs H Q _=>∃(a:XB)(ns:List Int),vs=[.ref a]/\aO K H a (ns.map V.int)/\∀(t q:XB)(wi hi:Int)(hs:List Int)(H':Hp),1<=wi->wi<=8->1<=hi->hi<=8->H' t=some (.tup [.int wi,.int hi,.ref q])->H' q=some (.lst (hs.map V.int))->(∀h∈hs,0<=h/\h<wi*hi)->hs.Nodup->(hs.length:Int)<wi*hi->hs.length<=2->H q=none->H t=none->aj H H'->Q (.ref t) H'
def sJ:Sp:=λvs H Q _=>∃c:Int,vs=[.int c]/\∀(q:XB)(ks:List Nat)(H':Hp),H q=none->H' q=some (.lst (ks.map strV))->(∀k∈ks,rT k)->ks.Nodup->1<=ks.length->ks.length<=6->aj H H'->Q (.ref q) H'
structure LG1(P:P6)(w:P9)(K:Frag)(mg:PN)(Px:Qe):Prop where
 _law_cell_at:dG P w K mg Px "_law_cell_at" ["_law_script","_law_k"] 1 (jZ K)
 _law_mixed:dG P w K mg Px "_law_mixed" ["_law_cell","_law_k"] 1 pX
section
variable{κ:Type}[DecidableEq κ]
def v5(l:List κ)(x:κ):List κ:=if x∈l then l else l++[x]
def bW(val:Nat->κ):Nat->List κ
 |0=>[]
 |i+1=>v5 (bW val i) (val i)
theorem kj(val:Nat->κ):∀i,(bW val i).length<=i
 |0=>VO 0
 |i+1=>by
  have ih:=kj val i;show(v5 (bW val i) (val i)).length<=i+1;unfold v5
  by_cases h:val i∈bW val i
  .rw[PF h];lia
  .rw[PD h,Uj];show _+1<=_;lia
theorem nv(val:Nat->κ)(x:κ):∀i,x∈bW val i<->x∈(List.range i).map val
 |0=>by simp[bW]
 |i+1=>by
  have ih:=nv val x i;show x∈v5 (bW val i) (val i)<->_;rw[UU,Uq,Ul,<-ih];unfold v5
  by_cases h:val i∈bW val i
  .rw[PF h]
   constructor
   .exact λz=>.inl z
   .rintro(z|z)
    .exact z
    .have:x=val i:=by simpa using z
     rw[this];exact h
  .rw[PD h,Ul];simp
theorem nu(val:Nat->κ):∀i,(bW val i).length=i<->((List.range i).map val).Nodup
 |0=>by simp[bW]
 |i+1=>by
  have ih:=nu val i;have hle:=kj val i;have hm:=nv val (val i) i;show(v5 (bW val i) (val i)).length=i+1<->_;rw[UU,Uq,U2];unfold v5
  by_cases h:val i∈bW val i
  .rw[PF h]
   constructor
   .intro z;lia
   .intro z;exact PK rfl (z.2.2 (val i) (hm.mp h) (val i) (by simp))
  .rw[PD h,Uj]
   constructor
   .intro z;have z:(bW val i).length+1=i+1:=z;refine⟨ih.mp (by lia),by simp,λa ha b hb e=>h (hm.mpr ?_)⟩;have:b=val i:=by simpa using hb
    rw[<-this,<-e];exact ha
   .intro z;rw[ih.mpr z.1];rfl
end
section
variable{prog:P6}{w:P9}{A:QD}{R:Result->PZ->Prop}{I:XB}{fp wr:List XB}{G:Array RY->Array RY->Prop}{n:Nat}{Pt:Nat->h9->Prop}{St:Nat->PZ->Prop}{κ:Type}[DecidableEq κ]{knd:KeyKind prog w κ}
theorem Ae(W:WalksS prog w A.in1 I fp wr G n Pt St)(D:XB)(hD:D∉fp)(val:Nat->κ)(hv:∀i v,Pt i v->knd.is (val i) v=true/\v.scannable=true)(hb:n+1<scanBound):∀(k i:Nat)(s:PZ),n - i=k->i<=n->St i s->s.heap.SetOf knd D (λx=>decide (x∈bW val i)) (bW val i).length->(∀s2,Moved (D::wr) G s s2->s2.heap.SetOf knd D (λx=>decide (x∈bW val n)) (bW val n).length->R (.ok (.ret .none)) s2)->Rr (P7 prog w) A (.builtin "set.update.loop" ⟨[.ref D,.ref I],[]⟩) R s:=by
 have nW:D∉wr:=λz=>hD (W.sub _ z);have up:∀b∈wr,b∈D::wr:=λb z=>Ue _ z;have mv:∀{s s2:PZ}{S:κ->Bool}{m:Nat},Moved wr G s s2->s.heap.SetOf knd D S m->s2.heap.SetOf knd D S m:=λ{s s2 S m} hm ⟨o,es,ep,t,ho,r⟩=>⟨o,es,ep,t,hm.heap D _ nW ho,r⟩;intro k
 induction k with
 |zero=>
  intro i s e1 e2 st hS hR;have e3:i=n:=by lia
  subst e3;refine Qn Rn ?_;rw[Qi QN _];show P2 _ A.in1 (Ra (.ref I) >>= _) _ _ s;refine PU (W.done s _ _ st λs2 hm=>?_);show P2 _ A.in1 (ret QZ) _ _ s2;exact PV (hR s2 (hm.mono up) (mv hm hS))
 |succ k ih=>
  intro i s e1 e2 st hS hR;have e3:i<n:=by lia
  refine Qn Rn ?_;rw[Qi QN _];show P2 _ A.in1 (Ra (.ref I) >>= _) _ _ s;refine PU (W.item i s _ _ e3 st λv s2 hp st2 hm=>?_);obtain⟨kv,sv⟩:=hv i v hp;have hS2:=mv hm hS;show P2 _ A.in1 (Sw [v] (setAdd D v) >>= _) _ _ s2;refine PU (Qa ?_);unfold setAdd;refine Qa (PU (knd.pyHash (k:=val i) kv ?_));have room:(bW val i).length+1<scanBound:=by have:=kj val i;lia
  refine wpAny_setAddHashed_of (knd:=knd) (s:={s2 with toks:=s2.toks+1}) kv sv hS2 room λh2 sb hS3=>?_;have hS4:h2.SetOf knd D (λx=>decide (x∈bW val (i+1))) (bW val (i+1)).length:=by
   refine SetOf_congr hS3 (λx=>?_) ?_
   .show(decide (x∈bW val i)||decide (x=val i))=decide (x∈v5 (bW val i) (val i))
    unfold v5
    by_cases m:val i∈bW val i
    .rw[PF m]
     by_cases e:x=val i
     .subst e;rw[Pz m];simp
     .rw[PB e,Wx]
    .rw[PD m,Wu];simp
   .show(if decide (val i∈bW val i)=true then _ else _)=(v5 (bW val i) (val i)).length;unfold v5
    by_cases m:val i∈bW val i
    .rw[PF (Pz m),PF m]
    .rw[PD (by rw[PB m];decide),PD m,Uj];rfl
  refine PV ⟨Q6 QN _,ih (i+1) _ (by lia) e3 (W.frame _ s2 _ _ st2 (VT _) λb hb o e=>?_) hS4 λs3 hm3 hS5=>?_⟩
  .exact(sb.2 b (λz:b=D=>hD (z▸hb))).trans e
  .refine hR s3 (Moved.trans W.gtrans ((hm.mono up).then_heap (VT _) λb o hb e=>?_) hm3) hS5;exact(sb.2 b (λz:b=D=>hb (by rw[z];exact Ui))).trans e
end
section
variable{prog:P6}{w:P9}{A:QD}{E:PP}{s:PZ}{κ:Type}[DecidableEq κ]{knd:KeyKind prog w κ}
abbrev cu(led:Bool):Obj:={cls:=.type "set",dict:=none,data:=.set #[] 0 (.fresh 0 0 led)}
theorem Ac{l:XB}{its:Array h9}{Q:PP}(val:Nat->κ)(hh:A.handled=none)(hl:s.heap.IsList l its)(hv:∀i v,its[i]? =some v->knd.is (val i) v=true/\v.scannable=true)(hb:its.size+1<scanBound)(k:∀(h2:Qe)(tk:Nat),h2.SetOf knd s.heap.objs.size (λx=>decide (x∈bW val its.size)) (bW val its.size).length->(∀b o,b<s.heap.objs.size->s.heap.get? b=some o->h2.get? b=some o)->Q (.ref s.heap.objs.size) {s with heap:=h2,toks:=tk}):P2 (P7 prog w) A (call (.type "set") [.ref l]) Q E s:=by
 obtain⟨c0,tl0,hmro⟩:=F.called_set.mro;have hmade:=F.called_set.made;have hsub:=F.called_set.sub;have n1:=F.called_set.notType;have n2:=F.called_set.canCreate;have n3:=F.typeCall_set_1 (.ref l);refine Rv (S0 ?_);show P2 _ _ (callAny (.type "set") _) _ _ _;refine PV ⟨Sl _ (by decide+kernel),Qn F.entry_type_call ?_⟩;rw[Around.under_plain (S9 "set" [.ref l] []) rfl]
 repeat (any_goals (first|assumption|wp_step))
 refine QP (code_set_new_1 (.ref l) (E:=E) (Q₁:=λo s1=>∃led:Bool,o=.ref s.heap.objs.size/\s1={s with heap:=s.heap.push (cu led)}) λled=>⟨led,rfl,rfl⟩) λr s1 hr=>?_;cases r with
 |error e=>exact hr
 |ok fl=>
  cases fl with
  |ret ob=>
   obtain⟨led,rfl,rfl⟩:=hr;have g0:(s.heap.push (cu led)).get? s.heap.objs.size=some (cu led):=P5 _ rfl;have ty:RV {s with heap:=s.heap.push (cu led)} (.ref s.heap.objs.size) "set":=⟨_,g0,rfl⟩;have m1:=F.called_set.init.lookup;have m2:=F.called_set.init.bind (.ref s.heap.objs.size)
   repeat (any_goals (first|assumption|wp_step))
   refine QP (Rh (R:=wants (λr s2=>r=.none/\∃h2 tk,s2={s with heap:=h2,toks:=tk}/\h2.SetOf knd s.heap.objs.size (λx=>decide (x∈bW val its.size)) (bW val its.size).length/\
     (∀b o,b<s.heap.objs.size->s.heap.get? b=some o->h2.get? b=some o)) E) F.called_set.init.plain F.entry_set_init (check_set_init_1 ty ?_)) λr2 s2 hr2=>?_
   .obtain⟨⟨oc,od,oda,osl⟩,ho,hc,nl,hd⟩:=hl;simp only at hc hd;subst hc;subst hd;have hol:(s.heap.push (cu led)).get? l=some {cls:=.type "list",dict:=od,data:=.seq its nl,slots:=osl}:=PX _ ho;have b1:=F.sub_list_set;have b2:=F.sub_list_frozenset;have b3:(Si "list" == Si "dict")=false:=by decide
    have hl1:(s.heap.push (cu led)).IsList l its:=⟨_,hol,rfl,nl,rfl⟩;unfold Builtin.«set.__init__» noKeywords R4;generalize hPI:pyIter=PI
    wp_walk
    subst hPI;refine Rf hl1 (PU (R8 ?_));have hlt:l<s.heap.objs.size:=PY ho;have h3:A.in1.in1.in1.handled=none:=by simp[hh]
    have sz:(s.heap.push (cu led)).objs.size=s.heap.objs.size+1:=QI ..;have ne1:l≠(s.heap.push (cu led)).objs.size:=by rw[sz];exact VP (VZ hlt)
    have ne2:s.heap.objs.size∉[(s.heap.push (cu led)).objs.size,l]:=by
     rw[sz];intro z
     rcases T8.mp z with z|z
     .exact V3 _ z.symm
     .exact VU hlt (Ud.mp z)
    refine Ae (knd:=knd) ((Tu h3 _ l ne1 its).toS) s.heap.objs.size ne2 val hv hb (its.size - 0) 0 _ (by lia) (VQ _) ⟨⟨_,P5 _ rfl,rfl,rfl⟩,(hl1.push _)⟩ ?_ (λs3 hm hS3=>?_)
    .refine SetOf_congr ((setObjOf_fresh (knd:=knd) led).setOf (PX _ g0) (by unfold scanBound;lia)) (λx=>?_) rfl;show false=decide (x∈([]:List κ));simp
    .obtain⟨hh3,gg3,dd3,tk3,os3⟩:=s3;obtain rfl:gg3=s.gens:=hm.gens;obtain rfl:dd3=s.drawn:=hm.drawn;obtain rfl:os3=s.os:=hm.os;show P2 _ _ _ _ _ _;refine PV ?_;show P2 _ _ (ret QZ) _ _ _;refine PV ⟨rfl,hh3,tk3,rfl,hS3,λb o hb2 e=>?_⟩;refine hm.heap b o ?_ (PX _ (PX _ e));rw[sz];intro z
     rcases T8.mp z with z|z
     .exact VP hb2 z
     .exact VP (VZ hb2) (Ud.mp z)
   .cases r2 with
    |error e=>exact hr2
    |ok fl2=>
     cases fl2 with
     |ret r3=>
      obtain⟨rfl,h2,tk,rfl,hS2,kp⟩:=hr2
      repeat (any_goals (first|assumption|wp_step))
      exact k _ _ hS2 kp
     |_=>exact hr2.elim
  |_=>exact hr.elim
end
def lE(ss:List Str):List Str:=bW (λi=>ss.getD i Rq) ss.length
theorem jf(ss:List Str):(lE ss).length=ss.length<->ss.Nodup:=by
 unfold lE;rw[nu];have e:(List.range ss.length).map (λi=>ss.getD i Rq)=ss:=by
  apply UM;intro i;rw[Ub]
  by_cases h:i<ss.length
  .rw[UI h,Ua h];show some (ss.getD i Rq)=_;rw[Ug,Ua h];rfl
  .rw[Uz (by rw[UH];lia),Uz (by lia)];rfl
 rw[e]
section
def wT(K:Frag)(xs:List V)(H:Hp)(Q:VK):Prop:=match xs with
 | [.ref d]=>∃ss:List Str,aO K H d (ss.map V.str)/\ss.length+1<scanBound/\∀q φ,H q=none->(∀h:Qe,φ h->∃(o:Obj)(es:Array (Int×h9))(ep:Nat)(t:SetTable),h.get? q=some o/\o.ExactSet/\o.data=.set es ep t/\t.fits es.size=true/\es.size=(lE ss).length)->Q (.ref q) (upd H q (.ext φ))
 |_=>False
theorem wb(hh:X.A.handled=none):bx X (.type "set") (wT X.K):=by
 intro Pw s σ H xs us Q I r h;unfold wT at h;split at h
 .rename_i d;obtain⟨ss,hq,hb,q⟩:=h;obtain⟨u,rfl,rx⟩:=dQ r;cases rx;obtain⟨its,r',pl,hz⟩:=I.list hq;have hlen:=r'.length;rw[T7]at hlen;have hs:its.toArray.size=ss.length:=by rw[Uc,<-hlen]
  refine Ac (knd:=PySem.strKind X.prog X.w) (λi=>ss.getD i Rq) hh pl.isList (λi v hv=>?_) (by rw[hs];exact hb) λh2 tk hS kp=>?_
  .rw[Vo]at hv;have hi:i<its.length:=(Um.mp hv).1;have hx:(ss.map V.str)[i]? =some (.str (ss.getD i Rq)):=by rw[Ub,Ug,Ua (by lia)];rfl
   obtain⟨u,hu,ru⟩:=r'.get hx;rw[hv]at hu;cases hu;obtain⟨t,rfl⟩:=ru;exact⟨by simp[PySem.strKind,Tp],rfl⟩
  .rw[hs]at hS;have k2:∀b u,s.heap.get? b=some u->h2.get? b=some u:=λb u e=>kp b u (PY e) e;obtain⟨o,es,ep,t,h1,h2',h3,_,_,h6,h7,h8⟩:=hS;refine⟨.ref s.heap.objs.size,upd H s.heap.objs.size (.ext λh=>h.get? s.heap.objs.size=some o),I.laid (t':=tk) k2 (VO _) ?_,rfl,q _ _ (I.hok.fresh (VO _)) λh e=>⟨o,es,ep,t,e,h2',h3,h7,h8⟩⟩;exact⟨h1,⟨o,h1⟩,λh1 h2 e k=>k o e⟩
 .exact h.elim
def A6(xs:List V)(H:Hp)(Q:VK):Prop:=match xs with
 | [.ref d]=>∃(φ:Qe->Prop)(n:Nat),H d=some (.ext φ)/\n<=1000/\(∀h:Qe,φ h->∃(o:Obj)(es:Array (Int×h9))(ep:Nat)(t:SetTable),h.get? d=some o/\o.ExactSet/\o.data=.set es ep t/\t.fits es.size=true/\es.size=n)/\Q (.int n) H
 |_=>False
theorem nO:bx X (.builtin "len") A6:=by
 intro Pw s σ H xs us Q I r h;unfold A6 at h;split at h
 .rename_i d;obtain⟨φ,n,hd,hn,hφ,q⟩:=h;obtain⟨u,rfl,rx⟩:=dQ r;cases rx;obtain⟨p,_,_⟩:=(show bE X.prog X.w H s.heap d (.ext φ)from I.hok d _ hd);obtain⟨o,es,ep,t,h1,h2,h3,h4,h5⟩:=hφ _ p;subst h5;exact PySem.call_len_set h1 h2 h3 h4 (by lia) ⟨.int es.size,H,I.tok _,⟨_,rfl⟩,q⟩
 .exact h.elim
theorem HH(K:Frag)(hr:cK j X.A)(hK:X.K=K:=by rfl):bx X (.type "set") (wT K):=by subst hK;exact wb hr.hd
end
theorem tU{K:Frag}{σ:St}{H:Hp}{Q:VK}{te:TE}{d:XB}{ss:List Str}(h:Ev te σ H (.ref d))(hd:aO K H d (ss.map V.str))(hl:ss.length<=1000)(q:∀H',aj H H'->Q (.int (lE ss).length) H'):cB A6 (ba (cB (wT K) (ba te cE)) cE) σ H Q:=
 h _ ⟨ss,hd,by show ss.length+1<4096;lia,λp φ hp hφ=>⟨φ,_,ah,VR (kj _ _) hl,hφ,q _ ((aj.refl H).upd hp)⟩⟩
section
variable{X:Cx}
theorem yx(ks:List Bool):(List.range ks.length).any (λi=>ks.getD i false)=ks.any id:=by
 rw[Wu,UD,UD]
 constructor
 .rintro⟨i,hi,e⟩;have hi:=Uh.mp hi;rw[Ug,Ua hi]at e;exact⟨_,Uv hi,e⟩
 .rintro⟨b,hb,e⟩;obtain⟨i,hi,e2⟩:=VC.mp hb;refine⟨i,Uh.mpr hi,?_⟩;rw[Ug,Ua hi,e2];exact e
def Ka(K:Frag)(xs:List V)(H:Hp)(Q:VK):Prop:=match xs with
 | [.ref d]=>∃ks:List Bool,aO K H d (ks.map V.bl)/\Q (.bl (ks.any id)) H
 |_=>False
theorem zv(hc:X.calm=true):bx X (.builtin "any") (Ka X.K):=by
 intro Pw s σ H xs us Q I r h;unfold Ka at h;split at h
 .rename_i p;obtain⟨ks,hp,q⟩:=h;obtain⟨u,rfl,ru⟩:=dQ r;cases ru;obtain⟨its,rv,pl,hl⟩:=I.list hp;have hlen:=rv.length;rw[T7]at hlen;refine call_any_walk (Rf pl.isList ?_);have hne:p≠s.heap.objs.size:=by obtain⟨o,ho,_⟩:=pl.isList;exact VP (PY ho)
  have W:=Tu (prog:=X.prog) (w:=X.w) (A:=X.A.in1) (show X.A.in1.handled=none from I.ok.hd hc) s.heap.objs.size p hne its.toArray;have hpush:∀o b ob,s.heap.get? b=some ob->(s.heap.push o).get? b=some ob:=λo b ob e=>PX _ e;refine⟨_,_,_,_,_,_,λi=>ks.getD i false,rfl,W,⟨⟨_,P5 _ rfl,rfl,rfl⟩,pl.isList.at λo e=>hpush _ _ o e⟩,sj rv,λh' tk k=>?_⟩;have e:(List.range its.toArray.size).any (λi=>ks.getD i false)=ks.any id:=by rw[<-yx,Uc,<-hlen]
  rw[e];refine⟨.bl _,H,I.kept (t':=tk) (h':=h') λb ob e=>k b ob ?_ (hpush _ b ob e),rfl,q⟩;intro hb;have:b=s.heap.objs.size:=by simpa using hb
  subst this;exact PK (PY e) (VV _)
 .exact h.elim
theorem O4(K:Frag)(hc:X.calm=true:=by rfl)(hK:X.K=K:=by rfl):bx X (.builtin "any") (Ka K):=by subst hK;exact zv hc
end
def Thg(H:Hp):V->Prop
 | .non=>True
 | .bl _=>True
 | .int _=>True
 | .str z=>z.length<=1000
 | .ref a=>(∃xs,H a=some (.lst xs))\/(∃xs,H a=some (.tup xs))\/(∃kvs,H a=some (.dK kvs))
 |_=>False
def nz(T:BT)(H:Hp):V->Bool
 | .bl _=>cW .bool T
 | .int _=>cW .int T
 | .str _=>cW .str T
 | .ref a=>match H a with
   |some (.lst _)=>cW .list T
   |some (.tup _)=>cW .tuple T
   |some (.dK _)=>cW .dict T
   |_=>false
 |_=>false
def tupOf(H:Hp):V->Option (List V)
 | .ref a=>match H a with
   |some (.tup xs)=>some xs
   |_=>none
 |_=>none
def lstOf(H:Hp):V->Option (List V)
 | .ref a=>match H a with
   |some (.lst xs)=>some xs
   |_=>none
 |_=>none
def gb(H:Hp):Nat->V->Prop
 |0,v=>Thg H v
 |n+1,v=>Thg H v/\∀xs,(tupOf H v=some xs\/lstOf H v=some xs)->∀x∈xs,gb H n x
theorem gb.thg(h:gb H n v):Thg H v:=by
 cases n with
 |zero=>exact h
 |succ n=>exact h.1
def zF:V->Bool
 | .int _=>true
 |_=>false
def amongB(v:V)(a b:Int):Bool:=match v with
 | .int i=>decide (a<=i/\i<=b)
 |_=>false
def wordB(v:V)(ws:List Str):Bool:=match v with
 | .str z=>decide (z∈ws)
 |_=>false
section
variable{K:Frag}{σ:St}{H H':Hp}{te ta tb:TE}{ws:List Str}
theorem Thg.same(h:Thg H v)(s:aj H H'):Thg H' v:=by
 cases v with
 |ref a=>
  rcases h with⟨xs,e⟩|⟨xs,e⟩|⟨xs,e⟩
  .exact .inl ⟨xs,s _ _ e⟩
  .exact .inr (.inl ⟨xs,s _ _ e⟩)
  .exact .inr (.inr ⟨xs,s _ _ e⟩)
 |_=>exact h
theorem gf(h:Thg H v)(s:aj H H'):tupOf H' v=tupOf H v:=by
 cases v with
 |ref a=>
  rcases h with⟨xs,e⟩|⟨xs,e⟩|⟨xs,e⟩<;>simp only[tupOf,e,s _ _ e]
 |_=>rfl
theorem ip(h:Thg H v)(s:aj H H'):lstOf H' v=lstOf H v:=by
 cases v with
 |ref a=>
  rcases h with⟨xs,e⟩|⟨xs,e⟩|⟨xs,e⟩<;>simp only[lstOf,e,s _ _ e]
 |_=>rfl
theorem gb.same:∀{v:V},gb H n v->aj H H'->gb H' n v:=by
 induction n with
 |zero=>intro v h s;exact Thg.same h s
 |succ n ih=>
  intro v h s;refine⟨h.1.same s,λxs hx x hm=>ih (h.2 xs ?_ x hm) s⟩;rw[gf h.1 s,ip h.1 s]at hx;exact hx
theorem ij(h:tupOf H v=some xs):∃a,v=.ref a/\H a=some (.tup xs):=by
 cases v with
 |ref a=>
  simp only[tupOf]at h;split at h
  .rename_i e;cases h;exact⟨a,rfl,e⟩
  .cases h
 |_=>cases h
theorem gC(h:lstOf H v=some xs):∃a,v=.ref a/\H a=some (.lst xs):=by
 cases v with
 |ref a=>
  simp only[lstOf]at h;split at h
  .rename_i e;cases h;exact⟨a,rfl,e⟩
  .cases h
 |_=>cases h
theorem pG(h:Ev te σ H v)(t:Thg H v):Ev (DH T te) σ H (.bl (nz T H v)):=λQ q=>h _ (by
 cases v with
 |ref a=>
  rcases t with⟨xs,e⟩|⟨xs,e⟩|⟨xs,e⟩<;>(simp only[uJ,e];simp only[nz,e]at q;exact q)
 |non=>exact q
 |bl b=>exact q
 |int b=>exact q
 |str b=>exact q
 |_=>exact t.elim)
theorem zE(t:Thg H v):(nz .int H v&& !nz .bool H v)=zF v:=by
 cases v with
 |ref a=>rcases t with⟨xs,e⟩|⟨xs,e⟩|⟨xs,e⟩<;>(simp only[nz,e];rfl)
 |non=>rfl
 |bl b=>rfl
 |int b=>rfl
 |str b=>rfl
 |_=>exact t.elim
theorem zS(t:Thg H v):nz .str H v=(match v with| .str _=>true|_=>false):=by
 cases v with
 |ref a=>rcases t with⟨xs,e⟩|⟨xs,e⟩|⟨xs,e⟩<;>(simp only[nz,e];rfl)
 |non=>rfl
 |bl b=>rfl
 |int b=>rfl
 |str b=>rfl
 |_=>exact t.elim
theorem Ij(t:Thg H v):nz .tuple H v=(tupOf H v).isSome:=by
 cases v with
 |ref a=>rcases t with⟨xs,e⟩|⟨xs,e⟩|⟨xs,e⟩<;>(simp only[nz,tupOf,e];rfl)
 |non=>rfl
 |bl b=>rfl
 |int b=>rfl
 |str b=>rfl
 |_=>exact t.elim
theorem Jq(t:Thg H v):nz .list H v=(lstOf H v).isSome:=by
 cases v with
 |ref a=>rcases t with⟨xs,e⟩|⟨xs,e⟩|⟨xs,e⟩<;>(simp only[nz,lstOf,e];rfl)
 |non=>rfl
 |bl b=>rfl
 |int b=>rfl
 |str b=>rfl
 |_=>exact t.elim
theorem Bg(z:Str)(ws:List Str):Dl (.str z) (ws.map V.str)=decide (z∈ws):=by
 unfold Dl;rw[Va]
 by_cases h:z∈ws
 .rw[Pz h];exact UD.mpr ⟨z,h,by simp[eqV]⟩
 .rw[PB h];apply UK.mpr;intro y hy;have:y≠z:=λe=>h (e▸hy);simp[eqV,this]
theorem zf(ss:List Str):(ss.map V.str).all flatV=true:=UB.mpr λx hx=>by obtain⟨z,_,rfl⟩:=T9.mp hx;rfl
theorem BB(ha:Ev ta σ H (.str z))(hb:Ev tb σ H (.ref p))(h:aO K H p (ws.map V.str)\/da K H p (ws.map V.str)):Ev (dE K .In ta tb) σ H (.bl (decide (z∈ws))):=λQ q=>ha _ (hb _ (by
 show a9 K .In (.str z) (.ref p) H Q;rw[io];refine⟨p,_,rfl,h,rfl,zf ws,?_⟩;rw[Bg];exact q))
end
def sortsL:List Str:=["leap","slide","jump"]
def aimsL:List Str:=["go","hit","any"]
def iD:List Str:=["without","home"]
def iN:List Str:=["lost","even","won"]
def tupB(H:Hp)(v:V)(n:Int):Bool:=match tupOf H v with
 |some xs=>decide ((xs.length:Int)=n)
 |none=>false
def lj(H:Hp)(v:V)(a b:Int):Bool:=match lstOf H v with
 |some xs=>decide (a<=(xs.length:Int)/\(xs.length:Int)<=b)
 |none=>false
def limS(so:Str):Int:=if so="leap"then 3 else 1
def lG(so:Str)(x y:V):Bool:=amongB x (-limS so) (limS so)&&amongB y (-limS so) (limS so)&& !(decide (x=.int 0)&&decide (y=.int 0))
def jA(xs:List V)(ws:List Str):Bool:=match xs with
 | [k,.str so,.str ai,x,y]=>wordB k ws&&decide (so∈sortsL)&&decide (ai∈aimsL)&& !(decide (so="jump")&& !decide (ai="hit"))&&lG so x y
 |_=>false
def eO(H:Hp)(v:V)(ws:List Str):Bool:=match tupOf H v with
 |some xs=>jA xs ws
 |none=>false
def tJ(xs:List V)(A B:List Str):Bool:=match xs with
 | [a,b]=>wordB a A&&wordB b B
 |_=>false
def eS(H:Hp)(v:V)(A B:List Str):Bool:=match tupOf H v with
 |some xs=>tJ xs A B
 |none=>false
def pairsB(H:Hp)(v:V)(A B:List Str):Bool:=match lstOf H v with
 |some vs=>decide (vs.length<=6)&&vs.all (λx=>eS H x A B)
 |none=>false
def cA(H:Hp)(v:V):Str:=match tupOf H v with
 |some (.str a::_)=>a
 |_=>Rq
def gW(H:Hp)(v:V):Str:=match tupOf H v with
 |some (_:: .str b::_)=>b
 |_=>Rq
def gc(H:Hp)(v:V)(ws:List Str):Bool:=pairsB H v ws ws&&match lstOf H v with
 |some vs=> !(vs.any λx=>decide (gW H x∈vs.map (cA H)))&&decide ((vs.map (cA H)).Nodup)
 |none=>false
def mG:Sp:=λvs H Q _=>∃v,vs=[v]/\Thg H v/\Q (.bl (zF v)) H
def mJ:Sp:=λvs H Q _=>∃v a b,vs=[v,.int a,.int b]/\Thg H v/\Q (.bl (amongB v a b)) H
def iH(K:Frag)(H:Hp)(d:XB)(ws:List Str):Prop:=aO K H d (ws.map V.str)\/da K H d (ws.map V.str)
def ji(K:Frag):Sp:=λvs H Q _=>∃v d ws,vs=[v,.ref d]/\Thg H v/\iH K H d ws/\Q (.bl (wordB v ws)) H
def kY:Sp:=λvs H Q _=>∃v n,vs=[v,.int n]/\Thg H v/\Q (.bl (tupB H v n)) H
def pY:Sp:=λvs H Q _=>∃v a b,vs=[v,.int a,.int b]/\Thg H v/\Q (.bl (lj H v a b)) H
def wH:Sp:=λvs H Q _=>∃so x y,vs=[.str so,x,y]/\Thg H x/\Thg H y/\Q (.bl (lG so x y)) H
def wI(K:Frag):Sp:=λvs H Q _=>∃v d ws,vs=[v,.ref d]/\gb H 1 v/\iH K H d ws/\Q (.bl (eO H v ws)) H
def wK(K:Frag):Sp:=λvs H Q _=>∃v d e A B,vs=[v,.ref d,.ref e]/\gb H 1 v/\iH K H d A/\iH K H e B/\Q (.bl (eS H v A B)) H
def sG(K:Frag):Sp:=λvs H Q _=>∃v d e A B,vs=[v,.ref d,.ref e]/\gb H 2 v/\iH K H d A/\iH K H e B/\∀H',aj H H'->Q (.bl (pairsB H v A B)) H'
def sC(K:Frag):Sp:=λvs H Q _=>∃v d ws,vs=[v,.ref d]/\gb H 2 v/\iH K H d ws/\∀H',aj H H'->Q (.bl (gc H v ws)) H'
def wQ(K:Frag):Sp:=λvs H Q _=>∃v d ws,vs=[v,.ref d]/\gb H 2 v/\iH K H d ws/\∀H',aj H H'->Q (.bl (pairsB H v iD ws)) H'
theorem B8(ha:Ev ta σ H (.bl a))(h1:a=true->tb σ H Q)(h2:a=false->Q (.bl false) H):uy ta tb σ H Q:=ha _ (by
 cases a with
 |true=>exact h1 rfl
 |false=>exact h2 rfl)
theorem BQ{K:Frag}{σ:St}{H:Hp}{Q:VK}{ta tb:TE}{op:S4}(h:ta σ H λx H1=>tb σ H1 λy H2=>a9 K op x y H2 Q):dE K op ta tb σ H Q:=h
theorem yL(h:pairsB H v A B=true):∃xs,lstOf H v=some xs/\xs.length<=6/\∀x∈xs,∃c f1 f2,x=.ref c/\H c=some (.tup [.str f1,.str f2]):=by
 unfold pairsB at h;cases e1:lstOf H v with
 |none=>rw[e1]at h;cases h
 |some xs=>
  rw[e1]at h;have h:(decide (xs.length<=6)&&xs.all (λx=>eS H x A B))=true:=h;rw[Ws]at h;refine⟨xs,rfl,PH h.1,λx hx=>?_⟩;have hp:=UB.mp h.2 x hx;unfold eS at hp;cases e2:tupOf H x with
  |none=>rw[e2]at hp;cases hp
  |some ys=>
   rw[e2]at hp;obtain⟨c,rfl,hc⟩:=ij e2;have hp:tJ ys A B=true:=hp
   match ys,hp,hc with
   | [a,b],hp,hc=>
     have hp:(wordB a A&&wordB b B)=true:=hp;rw[Ws]at hp;cases a with
     |str f1=>
      cases b with
      |str f2=>exact⟨c,f1,f2,rfl,hc⟩
      |_=>cases hp.2
     |_=>cases hp.1
   | [],hp,_=>cases hp
   | [_],hp,_=>cases hp
   |_::_::_::_,hp,_=>cases hp
structure RG0(P:P6)(w:P9)(K:Frag)(mg:PN)(Px:Qe):Prop where
 is_whole:dG P w K mg Px "is_whole" ["thing"] 1 mG
structure RG1(P:P6)(w:P9)(K:Frag)(mg:PN)(Px:Qe):Prop where
 is_among:dG P w K mg Px "is_among" ["thing","least","most"] 2 mJ
structure RG2(P:P6)(w:P9)(K:Frag)(mg:PN)(Px:Qe):Prop where
 is_word:dG P w K mg Px "is_word" ["thing","words"] 1 (ji K)
 is_tuple_of:dG P w K mg Px "is_tuple_of" ["thing","many"] 1 kY
structure RG3(P:P6)(w:P9)(K:Frag)(mg:PN)(Px:Qe):Prop extends RG2 P w K mg Px where
 is_step:dG P w K mg Px "is_step" ["sort","across","up"] 3 wH
structure RG4(P:P6)(w:P9)(K:Frag)(mg:PN)(Px:Qe):Prop where
 is_list_of:dG P w K mg Px "is_list_of" ["thing","least","most"] 1 pY
 is_pair:dG P w K mg Px "is_pair" ["thing","firsts","seconds"] 2 (wK K)
structure RG5(P:P6)(w:P9)(K:Frag)(mg:PN)(Px:Qe):Prop where
 are_pairs:dG P w K mg Px "are_pairs" ["thing","firsts","seconds"] 3 (sG K)
def letB:V->Bool
 | .str z=>match z.cps.toList with
   | [c]=>decide (97<=c/\c<=122)
   |_=>false
 |_=>false
def iO:V->Str
 | .str z=>z
 |_=>Rq
def ny(H:Hp)(v:V):Bool:=match lstOf H v with
 |some xs=>decide (1<=xs.length/\xs.length<=6)&&xs.all letB&&decide ((xs.map iO).Nodup)
 |none=>false
def fK(H:Hp)(v:V)(ws:List Str):Bool:=match lstOf H v with
 |some xs=>decide (xs.length<=24)&&xs.all (λx=>eO H x ws)
 |none=>false
theorem MD:("a":Str).cps.toList=[97]:=by decide+kernel
theorem MC:("z":Str).cps.toList=[122]:=by decide+kernel
theorem Jp{c d:Nat}:([c]<[d])<->c<d:=by
 constructor
 .intro h;cases h with
  |rel h=>exact h
  |cons h=>cases h
 .intro h;exact List.Lex.rel h
theorem Dy{K:Frag}{σ:St}{H:Hp}{ta tb tc:TE}{x y z:Str}(ha:Ev ta σ H (.str x))(hb:Ev tb σ H (.str y))(hc:Ev tc σ H (.str z)):Ev (ly K .LtE .LtE ta tb tc) σ H (.bl (!decide (y.cps.toList<x.cps.toList)&& !decide (z.cps.toList<y.cps.toList))):=λQ q=>ha _ (hb _ (by
 show a9 K .LtE (.str x) (.str y) H _;rw[oV,r_b];cases h: !decide (y.cps.toList<x.cps.toList)with
 |true=>
  rw[h]at q;exact hc _ q
 |false=>
  rw[h]at q;exact q))
def oQ:Sp:=λvs H Q _=>∃v,vs=[v]/\Thg H v/\Q (.bl (letB v)) H
def sL:Sp:=λvs H Q _=>∃v,vs=[v]/\gb H 1 v/\∀H',aj H H'->Q (.bl (ny H v)) H'
def sE(K:Frag):Sp:=λvs H Q _=>∃v d ws,vs=[v,.ref d]/\gb H 2 v/\iH K H d ws/\∀H',aj H H'->Q (.bl (fK H v ws)) H'
theorem A5(h:letB v=true):∃c,v=.str (one c)/\rT c:=by
 cases v with
 |str z=>
  match e:z.cps.toList with
  | [c]=>
    simp only[letB,e]at h;exact⟨c,by rw[ma (x:=z) (y:=one c) (by rw[e])],PH (p:=97<=c/\c<=122) h⟩
  | []=>simp only[letB,e]at h;cases h
  |_::_::_=>simp only[letB,e]at h;cases h
 |_=>cases h
structure xW(K:Frag)(C:XB):Prop where
 cl:uH K C
 board:cn K C "board"
 kinds:cn K C "kinds"
 rules:cn K C "rules"
 turns:cn K C "turns"
 ends:cn K C "ends"
 stuck:cn K C "stuck"
def gf1(b:XB):List (Str×V):=putF "board" (.ref b) []
def gf2(b k:XB):List (Str×V):=putF "kinds" (.ref k) (gf1 b)
def gf3(b k r:XB):List (Str×V):=putF "rules" (.ref r) (gf2 b k)
def gf4(b k r t:XB):List (Str×V):=putF "turns" (.ref t) (gf3 b k r)
def HL(b k r t e:XB):List (Str×V):=putF "ends" (.ref e) (gf4 b k r t)
def kD(b k r t e:XB)(st:Str):List (Str×V):=putF "stuck" (.str st) (HL b k r t e)
section
variable{b k r t e:XB}{st:Str}
theorem Bo:(kD b k r t e st).lookup ("board":Str)=some (.ref b):=by unfold kD HL gf4 gf3 gf2 gf1;rw[aB,PD (by decide+kernel),aB,PD (by decide+kernel),aB,PD (by decide+kernel),aB,PD (by decide+kernel),aB,PD (by decide+kernel),aB,PF rfl]
theorem Bn:(kD b k r t e st).lookup ("kinds":Str)=some (.ref k):=by unfold kD HL gf4 gf3 gf2;rw[aB,PD (by decide+kernel),aB,PD (by decide+kernel),aB,PD (by decide+kernel),aB,PD (by decide+kernel),aB,PF rfl]
theorem Bm:(kD b k r t e st).lookup ("rules":Str)=some (.ref r):=by unfold kD HL gf4 gf3;rw[aB,PD (by decide+kernel),aB,PD (by decide+kernel),aB,PD (by decide+kernel),aB,PF rfl]
theorem Nx{m:Str}(h1:¬m="board")(h2:¬m="kinds")(h3:¬m="rules")(h4:¬m="turns")(h5:¬m="ends")(h6:¬m="stuck"):(kD b k r t e st).lookup m=none:=by unfold kD HL gf4 gf3 gf2 gf1;rw[aB,PD h6,aB,PD h5,aB,PD h4,aB,PD h3,aB,PD h2,aB,PD h1];rfl
theorem JM:(gf1 b).length<=1/\(gf2 b k).length<=2/\(gf3 b k r).length<=3/\(gf4 b k r t).length<=4/\(HL b k r t e).length<=5:=by have a1:(gf1 b).length<=1:=bU "board" (.ref b) [];have a2:(gf2 b k).length<=(gf1 b).length+1:=bU "kinds" (.ref k) (gf1 b);have a3:(gf3 b k r).length<=(gf2 b k).length+1:=bU "rules" (.ref r) (gf2 b k);have a4:(gf4 b k r t).length<=(gf3 b k r).length+1:=bU "turns" (.ref t) (gf3 b k r);have a5:(HL b k r t e).length<=(gf4 b k r t).length+1:=bU "ends" (.ref e) (gf4 b k r t);lia
end
structure gT(C:XB)(H:Hp)(p b:XB)(ks rs ts es:List V)(st:Str):Prop where
 ex:∃dx kq rq tq eq,H p=some (.ins C dx (kD b kq rq tq eq st))/\H kq=some (.lst ks)/\H rq=some (.lst rs)/\H tq=some (.lst ts)/\H eq=some (.lst es)
section
variable{K:Frag}{C:XB}{H H':Hp}{p b:XB}{ks rs ts es:List V}{st:Str}
theorem gT.same(G:gT C H p b ks rs ts es st)(s:aj H H'):gT C H' p b ks rs ts es st:=by obtain⟨dx,kq,rq,tq,eq,a,c,d,e,f⟩:=G.ex;exact⟨dx,kq,rq,tq,eq,s _ _ a,s _ _ c,s _ _ d,s _ _ e,s _ _ f⟩
theorem gT.board(G:gT C H p b ks rs ts es st)(D:xW K C):Fl K H p "board" (.ref b):=by obtain⟨dx,kq,rq,tq,eq,a,_⟩:=G.ex;exact⟨C,dx,_,a,D.cl,D.board,Bo⟩
theorem gT.kinds(G:gT C H p b ks rs ts es st)(D:xW K C):∃q,Fl K H p "kinds" (.ref q)/\H q=some (.lst ks):=by obtain⟨dx,kq,rq,tq,eq,a,c,d,e,f⟩:=G.ex;exact⟨kq,⟨C,dx,_,a,D.cl,D.kinds,Bn⟩,c⟩
theorem gT.rules(G:gT C H p b ks rs ts es st)(D:xW K C):∃q,Fl K H p "rules" (.ref q)/\H q=some (.lst rs):=by obtain⟨dx,kq,rq,tq,eq,a,c,d,e,f⟩:=G.ex;exact⟨rq,⟨C,dx,_,a,D.cl,D.rules,Bm⟩,d⟩
theorem gT.no(G:gT C H p b ks rs ts es st){m:Str}(h1:¬m="board":=by decide+kernel)(h2:¬m="kinds":=by decide+kernel)(h3:¬m="rules":=by decide+kernel)(h4:¬m="turns":=by decide+kernel)(h5:¬m="ends":=by decide+kernel)(h6:¬m="stuck":=by decide+kernel):xU C m H p:=by obtain⟨dx,kq,rq,tq,eq,a,_⟩:=G.ex;exact⟨dx,_,a,Nx h1 h2 h3 h4 h5 h6⟩
end
section
theorem vt(t:Thg H v)(s:aj H H'):eS H' v A B=eS H v A B:=by unfold eS;rw[gf t s]
theorem vk(t:Thg H v)(s:aj H H'):eO H' v ws=eO H v ws:=by unfold eO;rw[gf t s]
theorem zc(t:Thg H v)(s:aj H H'):cA H' v=cA H v:=by unfold cA;rw[gf t s]
theorem yf(t:Thg H v)(s:aj H H'):gW H' v=gW H v:=by unfold gW;rw[gf t s]
theorem uC{xs:List V}(h:∀x∈xs,f x=g x):xs.all f=xs.all g:=by
 induction xs with
 |nil=>rfl
 |cons a r ih=>rw[Uy,Uy,h a (by simp),ih λx hx=>h x (by simp[hx])]
theorem B7{xs:List V}(h:∀x∈xs,f x=g x):xs.any f=xs.any g:=by
 induction xs with
 |nil=>rfl
 |cons a r ih=>rw[UQ,UQ,h a (by simp),ih λx hx=>h x (by simp[hx])]
theorem lK(t:gb H 2 v)(s:aj H H'):pairsB H' v A B=pairsB H v A B:=by
 unfold pairsB;rw[ip t.1 s];cases e:lstOf H v with
 |none=>rfl
 |some xs=>
  show(_&&xs.all _)=(_&&xs.all _);rw[uC (g:=λx=>eS H x A B) λx hx=>vt (t.2 xs (.inr e) x hx).thg s]
theorem sT(t:gb H 2 v)(s:aj H H'):fK H' v ws=fK H v ws:=by
 unfold fK;rw[ip t.1 s];cases e:lstOf H v with
 |none=>rfl
 |some xs=>
  show(_&&xs.all _)=(_&&xs.all _);rw[uC (g:=λx=>eO H x ws) λx hx=>vk (t.2 xs (.inr e) x hx).thg s]
theorem si(t:gb H 2 v)(s:aj H H'):gc H' v ws=gc H v ws:=by
 unfold gc;rw[lK t s,ip t.1 s];cases e:lstOf H v with
 |none=>rfl
 |some xs=>
  have tx:∀x∈xs,Thg H x:=λx hx=>(t.2 xs (.inr e) x hx).thg;have em:xs.map (cA H')=xs.map (cA H):=UG λx hx=>zc (tx x hx) s;show(_&&((!xs.any λx=>decide (gW H' x∈xs.map (cA H')))&&decide ((xs.map (cA H')).Nodup)))=(_&&((!xs.any λx=>decide (gW H x∈xs.map (cA H)))&&decide ((xs.map (cA H)).Nodup)));rw[em,B7 (g:=λx=>decide (gW H x∈xs.map (cA H))) λx hx=>by rw[yf (tx x hx) s]]
end
def wP(K:Frag)(C:XB):Sp:=λvs H Q _=>∃(p b kd rd td ed dx:XB)(ws:List Str)(rs ts es:List V)(st:Str),vs=[.ref p,.ref b,.ref kd,.ref rd,.ref td,.ref ed,.str st]/\H p=some (.ins C dx [])/\H kd=some (.lst (ws.map V.str))/\H rd=some (.lst rs)/\H td=some (.lst ts)/\H ed=some (.lst es)/\
 gb H 1 (.ref kd)/\gb H 2 (.ref rd)/\gb H 2 (.ref td)/\gb H 2 (.ref ed)/\ny H (.ref kd)=true/\fK H (.ref rd) ws=true/\gc H (.ref td) ws=true/\pairsB H (.ref ed) iD ws=true/\st∈iN/\st.length<=1000/\
 ∀H',gT C H' p b (ws.map V.str) rs ts es st->SameBut p H H'->Q .non H'
structure Ps(P:P6)(w:P9)(K:Frag)(mg:PN)(Px:Qe):Prop where
 is_list_of:dG P w K mg Px "is_list_of" ["thing","least","most"] 1 pY
 is_letter:dG P w K mg Px "is_letter" ["thing"] 1 oQ
 is_rule:dG P w K mg Px "is_rule" ["thing","kinds"] 4 (wI K)
structure GG2(P:P6)(w:P9)(K:Frag)(mg:PN)(Px:Qe):Prop where
 are_kinds:dG P w K mg Px "are_kinds" ["thing"] 2 sL
 are_rules:dG P w K mg Px "are_rules" ["thing","kinds"] 5 (sE K)
 is_turns:dG P w K mg Px "is_turns" ["thing","kinds"] 4 (sC K)
 is_ends:dG P w K mg Px "is_ends" ["thing","kinds"] 4 (wQ K)
 is_word:dG P w K mg Px "is_word" ["thing","words"] 1 (ji K)
theorem md{K:Frag}{σ:St}{H:Hp}{to te:TE}{u:TS}{D:iI}{f:Str}{p C dx d:XB}{fs:List (Str×V)}{xs:List V}(he:Ev te σ H (.ref d))(hd:H d=some (.lst xs))(ho:∀H',Ev to σ H' (.ref p))(hp:H p=some (.ins C dx fs))(hc:uH K C)(hn:cn K C f)(hl:fs.length<1000)(h2:∀q,H q=none->u D σ (upd (upd H q (.lst xs)) p (.ins C dx (putF f (.ref q) fs)))):bg (yq K to (cB (xj K) (ba te cE)) f) u D σ H:=
 he _ ⟨xs,.inl (aO.of hd),λq hq=>ho _ _ ⟨p,C,dx,fs,rfl,by rw[au (ay hp hq)];exact hp,hc,hn,hl,h2 q hq⟩⟩
end L2
namespace L2
open PySem
theorem eY{N P:List Str}{sc:RS}(a:sc.kind=.function:=by rfl)(b:sc.isCoroutine=false:=by rfl)(c:sc.isGenerator=false:=by rfl)(d:N.Nodup:=by decide+kernel)(e:N.take P.length=P:=by rfl)(f:∀x∈P,sc.names.lookup x=some .local\/sc.names.lookup x=some .cell:=by decide+kernel)(g:∀y∈sc.names,y.2≠.free:=by decide+kernel):aD N P sc:=⟨a,b,c,d,e,f,g⟩
end L2
namespace L2
open PySem PySem.Spec PyProof.Rows
def zx(H:Hp):V->Prop
 | .non=>True
 | .bl _=>True
 | .int _=>True
 | .str z=>z.length<=1000
 | .ref a=>(∃xs,H a=some (.lst xs))\/(∃xs,H a=some (.tup xs))
 |_=>False
def lC(H:Hp):Nat->V->Prop
 |0,v=>zx H v
 |n+1,v=>zx H v/\∀xs,(tupOf H v=some xs\/lstOf H v=some xs)->∀x∈xs,lC H n x
theorem zx.thg(h:zx H v):Thg H v:=by
 cases v with
 |ref a=>
  rcases h with h|h
  .exact .inl h
  .exact .inr (.inl h)
 |_=>exact h
theorem lC.n:∀{n:Nat}{v:V},lC H n v->gb H n v
 |0,v,h=>zx.thg h
 |n+1,v,h=>⟨h.1.thg,λxs hx x hm=>(h.2 xs hx x hm).n⟩
theorem lC.flat{n:Nat}(h:zx H v)(f:flatV v=true):lC H n v:=by
 cases n with
 |zero=>exact h
 |succ n=>
  refine⟨h,λxs hx=>?_⟩;cases v with
  |ref a=>cases f
  |_=>rcases hx with z|z<;>cases z
theorem lC.lst{n:Nat}{xs:List V}(h:H a=some (.lst xs))(hx:∀x∈xs,lC H n x):lC H (n+1) (.ref a):=⟨.inl ⟨xs,h⟩,λys hy=>by
 rcases hy with z|z
 .simp only[tupOf,h]at z;cases z
 .simp only[lstOf,h]at z;cases z;exact hx⟩
theorem lC.tup{n:Nat}{xs:List V}(h:H a=some (.tup xs))(hx:∀x∈xs,lC H n x):lC H (n+1) (.ref a):=⟨.inr ⟨xs,h⟩,λys hy=>by
 rcases hy with z|z
 .simp only[tupOf,h]at z;cases z;exact hx
 .simp only[lstOf,h]at z;cases z⟩
section
theorem wB(ho:iJ X (Qs op) r)(ha:PE X a ta)(hb:PE X b tb)(hm:behindInMarks op b=false):PT X (.Compare a [op] [b] pos) (dD λσ H Q=>ta σ H λx H1=>tb σ H1 λy H2=>r x y H2 Q):=by intro Pw s σ H Q I h;refine RR (bL (ha Pw s σ H _ I h) λv s1 ⟨x,H1,I1,r1,q1⟩=>bL (hb Pw s1 σ H1 _ I1 q1) λu s2 ⟨y,H2,I2,r2,q2⟩=>bL (ho Pw s2 σ H2 x y v u _ I2 r1 r2 q2) λc s3 ⟨z,H3,I3,r3,q3⟩=>?_) hm;obtain⟨k,rfl,q4⟩:=dF q3;cases r3;exact Qr ⟨H3,I3,q4⟩
end
section
theorem MW{l:XB}{i:Int}{P:V->Hp->Prop}(h:∀Q:VK,(∀v H',P v H'->Q v H')->te σ H Q)(h2:∀v H',P v H'->Ev to σ H' (.ref l)/\Ev ti σ H' (.int i)/\∃xs,H' l=some (.lst xs)/\0<=i/\i<xs.length/\D.nx σ (upd H' l (.lst (xs.set i.toNat v)))):tAsg te (gSub to ti Hz) D σ H:=
 h _ λv H' p=>by obtain⟨ho,hi,xs,hl,h0,h1,q⟩:=h2 v H' p;refine ho _ (hi _ ⟨l,xs,i,i.toNat,rfl,rfl,hl,?_,q⟩);unfold ixN;rw[PF h0,PF h1]
end
section
variable{X:Cx}{Pw:PQ}{σ:St}{H:Hp}{s:PZ}{h':Qe}
theorem aJ.turnedN{t':Nat}{fp:List XB}(I:aJ X Pw σ H s)(k:∀b ob,b∉fp->s.heap.get? b=some ob->h'.get? b=some ob)(hf:∀b∈fp,ix X Pw H b):aJ X Pw σ H {s with heap:=h',toks:=t'}:=by
 have nf:∀b u,H b=some u->b∉fp:=λb u q z=>by rw[(hf b z).1]at q;cases q
 have nl:X.env.locals∉fp:=λz=>(hf _ z).2.1 rfl;refine I.step (g':=s.gens) (d':=s.drawn) (ch:=fp) (λb hb=>⟨(hf b hb).2.2.2.1,(hf b hb).2.1,(hf b hb).2.2.2.2.1,(hf b hb).2.2.2.2.2⟩) (λb ob _ _ hc q _=>k b ob hc q) (λb ob _ _ hc q _=>⟨ob.slots,k b ob hc q⟩)
  (λ_ _ _ _ n=>n) (λb ob hc q=>⟨ob,k b ob hc q⟩) (λ_ _ q=>q) (λ_ _ _ q=>q) (λb ps q=>⟨#[],by rw[q];simp⟩) (λm hm=>?_) (λb u q=>?_) I.bare
 .obtain⟨ob,es,ep,ho,r⟩:=hm;exact⟨ob,es,ep,k _ ob nl ho,r⟩
 .refine(I.hok b u q).stay (λc v hc z=>k c v ?_ z) (λc z=>z) λc xs z=>z
  rcases hc with z|z
  .rw[z];exact nf b u q
  .exact nf c _ z
theorem aJ.turned_laidN{t':Nat}{fp:List XB}{a:XB}{o:HO}(I:aJ X Pw σ H s)(k:∀b ob,b∉fp->s.heap.get? b=some ob->h'.get? b=some ob)(hf:∀b∈fp,ix X Pw H b)(hp:s.heap.objs.size<=a)(new:bE X.prog X.w (upd H a o) h' a o):aJ X Pw σ (upd H a o) {s with heap:=h',toks:=t'}:=by
 have hn:H a=none:=I.hok.fresh hp;have nf:∀b u,H b=some u->b∉fp:=λb u q z=>by rw[(hf b z).1]at q;cases q
 have nl:X.env.locals∉fp:=λz=>(hf _ z).2.1 rfl;refine I.step (g':=s.gens) (d':=s.drawn) (ch:=fp) (λb hb=>⟨(hf b hb).2.2.2.1,(hf b hb).2.1,(hf b hb).2.2.2.2.1,(hf b hb).2.2.2.2.2⟩) (λb ob _ _ hc q _=>k b ob hc q) (λb ob _ _ hc q _=>⟨ob.slots,k b ob hc q⟩)
  (λb ob hc q n=>by rw[au (VP (VS (PY q) hp))];exact n) (λb ob hc q=>⟨ob,k b ob hc q⟩) (λb xs q=>by rw[au (ay q hn)];exact q) (λb ob u q=>by rw[au (ay q hn)];exact q)
  (λb ps q=>⟨#[],by rw[au (ay q hn),q];simp⟩) (λm hm=>?_) (λb u q=>?_) I.bare
 .obtain⟨ob,es,ep,ho,r⟩:=hm;exact⟨ob,es,ep,k _ ob nl ho,r⟩
 .by_cases hb:b=a
  .subst hb;rw[ah]at q;cases q;exact new
  .rw[au hb]at q;refine(I.hok b u q).stay (λc v hc z=>k c v ?_ z) (λc z=>by rw[au (ay z hn)];exact z) λc xs z=>by rw[au (ay z hn)];exact z
   rcases hc with z|z
   .rw[z];exact nf b u q
   .exact nf c _ z
end
def lP(ks:List Nat)(c e:Nat):Bool:=if e=35 then decide (c=35)else decide (c=46\/c∈ks\/c∈ks.map (· - 32))
section
theorem il(P:St->Hp->Prop)(hu:∀σ' H',P σ' H'->u D σ' H')(h:(∀σ' H',P σ' H'->u D σ' H')->bg (ju c t1 e) u D σ H):bg (ju c t1 e) u D σ H:=h hu
theorem nR(h:te σ H (λv H'=>D.nx (σ.set i (some v)) H')):tAsg te (gName i) D σ H:=h
theorem dP(h:Ev te σ H v)(q:ta' σ H (λxs H2=>R (v::xs) H2)):ba te ta' σ H R:=h _ q
theorem jp(h:te σ H (λx H1=>ta' σ H1 (λxs H2=>R (x::xs) H2))):ba te ta' σ H R:=h
theorem jD(q:R [] H):cE σ H R:=q
theorem lM(q:t σ H (λvs H2=>vs.length<=fv/\∀p,H2 p=none->Q (.ref p) (upd H2 p (.lst vs)))):uU t σ H Q:=q
theorem iE(h:ta σ H λx H1=>tb σ H1 λy H2=>kL .Add x y H2 Q):kJ .Add ta tb σ H Q:=h
theorem xM(ha:H a=some (.lst xs))(hb:H b=some (.lst ys))(hz:xs.length+ys.length<=1000)(q:∀p,H p=none->Q (.ref p) (upd H p (.lst (xs++ys)))):kL .Add (.ref a) (.ref b) H Q:=by rw[Ax];exact⟨a,b,xs,ys,rfl,rfl,ha,hb,VR hz (by decide),q⟩
end
theorem Jj:(one a=one b)<->a=b:=by
 constructor
 .intro h;have h:(one a).cps.toList=(one b).cps.toList:=by rw[h]
  have h:[a]=[b]:=h;injection h
 .intro h;rw[h]
end L2
namespace L2
open PySem
def uF(xs:Array Nat):Prop:= ∀i j,i<j->j<xs.size->xs.getD i 0<xs.getD j 0
theorem bK{α:Type}{xs:Array α}{i:Nat}{d:α}(h:i<xs.size):xs.getD i d=xs[i]:=by simp[Array.getD,h]
theorem Ke{xs:Array Nat}{i d e:Nat}(h:i<xs.size):xs.getD i d=xs.getD i e:=by rw[bK h,bK h]
theorem nQ(xs:Array Nat)(j:Nat)(hr:uF xs):∀(f lo hi:Nat),hi - lo<=f->lo<=hi->hi<=xs.size->(∀k,k<lo->xs.getD k 0<j)->(∀k,hi<=k->k<xs.size->j<=xs.getD k 0)->RN xs j f lo hi<=xs.size/\(∀k,k<RN xs j f lo hi->xs.getD k 0<j)/\(∀k,RN xs j f lo hi<=k->k<xs.size->j<=xs.getD k 0)
 |0,lo,hi,h1,h2,h3,h4,h5=>by
  have:lo=hi:=by lia
  subst this;exact⟨h3,h4,h5⟩
 |f+1,lo,hi,h1,h2,h3,h4,h5=>by
  unfold RN
  by_cases h:lo<hi
  .rw[PF h];have hm:(lo+hi) / 2<xs.size:=by lia
   dsimp only;rw[Ke (e:=0) hm]
   by_cases q:xs.getD ((lo+hi) / 2) 0<j
   .rw[PF q];refine nQ xs j hr f _ hi (by lia) (by lia) h3 (λk hk=>?_) h5
    by_cases e:k=(lo+hi) / 2
    .rw[e];exact q
    .exact V2 (hr k _ (by lia) hm) q
   .rw[PD q];refine nQ xs j hr f lo _ (by lia) (by lia) (by lia) h4 (λk hk hks=>?_)
    by_cases e:k=(lo+hi) / 2
    .rw[e];lia
    .have:=hr ((lo+hi) / 2) k (by lia) hks;lia
  .rw[PD h];have:lo=hi:=by lia
   subst this;exact⟨h3,h4,h5⟩
theorem fg(xs:Array Nat)(j:Nat)(hr:uF xs):Qb xs j<=xs.size/\(∀k,k<Qb xs j->xs.getD k 0<j)/\(∀k,Qb xs j<=k->k<xs.size->j<=xs.getD k 0):=
 nQ xs j hr _ 0 xs.size (by lia) (VQ _) (VO _) (λk hk=>by lia) (λk h1 h2=>by lia)
theorem wj(hr:uF xs)(h:i<xs.size):Qb xs (xs.getD i 0+1)=i+1:=by
 obtain⟨h1,h2,h3⟩:=fg xs (xs.getD i 0+1) hr
 rcases V4 (Qb xs (xs.getD i 0+1)) (i+1)with q|q|q
 .have:=h3 i (by lia) h;lia
 .exact q
 .have:=h2 (i+1) (by lia);have:=hr i (i+1) (by lia) (by lia);lia
theorem uB(hr:uF xs):Qb xs 0=0:=by
 obtain⟨h1,h2,h3⟩:=fg xs 0 hr
 rcases V9 (Qb xs 0)with q|q
 .exact q
 .have:=h2 0 q;lia
def DV(xs:Array Nat)(j:Nat):Prop:= ∀k,k<xs.size->¬xs.getD k 0=j
theorem Ds(hr:uF xs)(h:(xs[Qb xs j]? == some j)=false):DV xs j:=by
 obtain⟨h1,h2,h3⟩:=fg xs j hr;intro k hk e
 rcases V4 k (Qb xs j)with q|q|q
 .have:=h2 k q;lia
 .rw[<-q,WF hk,<-bK (d:=0) hk,e]at h;simp at h
 .have a1:=hr (Qb xs j) k q hk;have a2:=h3 (Qb xs j) (VO _) (by lia);lia
theorem gQ(xs:Array α)(p:Nat)(x:α):(Qo xs p x).size=xs.size+1:=by have h:=(RM xs p x).length_eq;simpa using h
theorem qr:uF xs<->xs.toList.Pairwise (· < ·):=by
 rw[Vd]
 constructor
 .intro h i j hi hj hij;have hi':i<xs.size:=by simpa using hi
  have hj':j<xs.size:=by simpa using hj
  have:=h i j hij hj';rw[bK hi',bK hj']at this;simpa using this
 .intro h i j hij hj;have hi:i<xs.size:=by lia
  have:=h i j (by simpa using hi) (by simpa using hj) hij;rw[bK hi,bK hj];simpa using this
theorem vm(hr:uF xs)(hf:DV xs j):uF (Qo xs (Qb xs j) j):=by
 obtain⟨h1,h2,h3⟩:=fg xs j hr;have g:∀m(hm:m<xs.toList.length),xs.toList[m]=xs.getD m 0:=λm hm=>by
  have hm':m<xs.size:=by simpa using hm
  rw[bK hm'];simp
 rw[qr,SC,VF];have hp:=qr.mp hr;refine⟨hp.sublist (Vk _ _),U4.mpr ⟨λa ha=>?_,hp.sublist (List.drop_sublist _ _)⟩,λa ha b hb=>?_⟩
 .obtain⟨k,hk,rfl⟩:=VG.mp ha;have hk':Qb xs j+k<xs.size:=by simpa[Nat.add_comm]using hk
  have a1:=h3 (Qb xs j+k) (by lia) hk';have a2:=hf _ hk';rw[g];lia
 .obtain⟨k,hk,rfl⟩:=List.mem_take_iff_getElem.mp ha;have hk1:k<Qb xs j:=by lia
  have a1:=h2 k hk1;rw[g]
  rcases T8.mp hb with rfl|hb
  .exact a1
  .obtain⟨m,hm,rfl⟩:=VG.mp hb;have hm':Qb xs j+m<xs.size:=by simpa[Nat.add_comm]using hm
   have a2:=h3 (Qb xs j+m) (by lia) hm';rw[g];lia
structure SG(led:Bool)(n:Nat)(t:SetTable):Prop where
 fits:t.fits n=true
 led:t.led=led
 ris:uF t.place
theorem yg{t:SetTable}{j:Nat}(hr:uF t.place)(h:t.slot j=.empty\/t.slot j=.dummy):DV t.place j:=by
 apply Ds hr;unfold SD at h;dsimp only at h;cases e:(t.place[Qb t.place j]? == some j)with
 |false=>rfl
 |true=>
  rw[e]at h;simp at h
theorem jB{α:Type}(f:Nat->Option (Nat×α))(hf:∀j p,f j=some p->p.1=j):∀(l:List Nat),l.Pairwise (· < ·)->((l.filterMap f).map (·.1)).Pairwise (· < ·)/\∀a∈(l.filterMap f).map (·.1),a∈l
 | [],_=>⟨by simp,by simp⟩
 |j::l,h=>by
  obtain⟨h1,h2⟩:=U4.mp h;obtain⟨i1,i2⟩:=jB f hf l h2;rw[US];cases e:f j with
  |none=>exact⟨i1,λa ha=>Ue _ (i2 a ha)⟩
  |some p=>
   have ep:=hf j p e;dsimp only;rw[Uw,ep];refine⟨U4.mpr ⟨λa ha=>h1 a (i2 a ha),i1⟩,λa ha=>?_⟩
   rcases T8.mp ha with rfl|ha
   .exact Ui
   .exact Ue _ (i2 a ha)
theorem nE{α:Type}{l:List α}{i:Nat}{x:α}(h:l[i]? =some x):(x::l.eraseIdx i).Perm l:=by
 have hi:i<l.length:=(Um.mp h).1;have e:l=l.take i++x::l.drop (i+1):=by
  have e1:=(List.take_append_drop i l).symm;have e2:l.drop i=x::l.drop (i+1):=by rw[U0 hi];rw[Ua hi]at h;rw[PL h]
  rw[e2]at e1;exact e1
 rw[List.eraseIdx_eq_take_drop_succ]
 conv=>rhs;rw[e]
 exact List.perm_middle.symm
theorem wV(next:Nat->Nat):∀(f k:Nat)(left:List α)(out:Array α),left.length<=f->(TH next f k left out).toList.Perm (out.toList++left)
 |0,k,left,out,h=>by have:left=[]:=Vn.mp (by lia);subst this;simp[TH]
 |f+1,k,left,out,h=>by
  unfold TH;split
  .rename_i x e;have hi:next k % left.length<left.length:=(Um.mp e).1;have hl:=VH hi;refine(wV next f (k+1) _ _ (by lia)).trans ?_;rw[WM,UX];exact List.Perm.append_left _ (nE e)
  .rename_i e;have:left=[]:=by
    cases left with
    |nil=>rfl
    |cons a l=>
     rw[Ua (V5 _ (by simp))]at e;cases e
   subst this;simp
theorem yH(next:Nat->Nat)(xs:Array α):(RH next xs).toList.Perm xs.toList:=by have:=wV next xs.size 0 xs.toList #[] (by simp);simpa[RH]using this
def xr(M:Nat):Nat->Nat->Nat
 |0,i=>i
 |n+1,i=>xr M n ((i*5+1) % M)
theorem kA(M:Nat):∀(a b i:Nat),xr M (a+b) i=xr M b (xr M a i)
 |0,b,i=>by rw[VX];rfl
 |a+1,b,i=>by rw[Nat.succ_add];show xr M (a+b) _=xr M b (xr M a _);exact kA M a b _
def N7(M:Nat):Nat->Nat->List Nat
 |0,_=>[]
 |n+1,i=>i::N7 M n ((i*5+1) % M)
theorem qM(M:Nat):∀(n i e:Nat),e∈N7 M n i->∃t,t<n/\xr M t i=e
 |0,i,e,h=>by cases h
 |n+1,i,e,h=>by
  rcases T8.mp h with rfl|h
  .exact⟨0,V6 _,rfl⟩
  .obtain⟨t,ht,e2⟩:=qM M n _ e h;exact⟨t+1,by lia,e2⟩
def lD(M:Nat):Prop:=(∀e,e<M->e∈N7 M M 0)/\xr M M 0=0
def chk(M:Nat):Bool:=(List.range M).all λe=>(N7 M M 0).contains e
theorem mr(h:chk M=true)(h2:xr M M 0=0):lD M:=⟨λe he=>by
 have:=UB.mp h e (Uh.mpr he);simpa using this,h2⟩
theorem HM:lD 8:=mr (by decide+kernel) (by decide+kernel)
theorem JO:lD 32:=mr (by decide+kernel) (by decide+kernel)
theorem Dr:lD 128:=mr (by decide+kernel) (by decide+kernel)
theorem Dq:lD 512:=mr (by decide+kernel) (by decide+kernel)
theorem Dp(f:lD M)(hi:i<M)(he:e<M):∃t,t<M/\xr M t i=e:=by
 obtain⟨s,hs,es⟩:=qM M M 0 i (f.1 i hi);obtain⟨t,ht,et⟩:=qM M M 0 e (f.1 e he)
 by_cases h:s<=t
 .refine⟨t - s,by lia,?_⟩;rw[<-es,<-kA,<-et];congr 1;lia
 .refine⟨M - s+t,by lia,?_⟩;rw[<-es,<-kA,<-et];have:s+(M - s+t)=M+t:=by lia
  rw[this,kA,f.2]
def lp(mask:Nat)(h:Int):Nat->Nat×Nat
 |0=>(QB h % (mask+1),QB h)
 |n+1=>SetTable.leap mask (lp mask h n).1 (lp mask h n).2
theorem xh(mask:Nat)(h:Int):∀n,(lp mask h n).2=QB h / 32 ^ n
 |0=>by simp[lp]
 |n+1=>by show(lp mask h n).2 / 32=_;rw[xh mask h n,Nat.div_div_eq_div_mul,Nat.pow_succ]
theorem DL(h:Int):QB h<2 ^ 64:=by unfold QB;lia
theorem HE(mask:Nat)(h:Int):∀n,(lp mask h n).1<mask+1
 |0=>V5 _ (V6 _)
 |n+1=>V5 _ (V6 _)
theorem De(mask:Nat)(h:Int)(hn:13<=n):(lp mask h n).2=0:=by rw[xh];apply Nat.div_eq_of_lt;refine VS (DL h) ?_;have:(32:Nat) ^ 13<=32 ^ n:=Nat.pow_le_pow_right (by decide) hn;refine VR ?_ this;decide
theorem xg(mask:Nat)(h:Int):∀t,(lp mask h (13+t)).1=xr (mask+1) t (lp mask h 13).1
 |0=>rfl
 |t+1=>by
  have e:xr (mask+1) (t+1) (lp mask h 13).1=(xr (mask+1) t (lp mask h 13).1*5+1) % (mask+1):=by rw[kA];rfl
  rw[e,<-xg mask h t];show((lp mask h (13+t)).1*5+1+(lp mask h (13+t)).2 / 32) % (mask+1)=_;rw[De mask h (by lia)]
theorem xi(f:lD (mask+1))(h:Int)(he:e<=mask):∃N,N<=mask+13/\(lp mask h N).1=e:=by obtain⟨t,ht,et⟩:=Dp f (HE mask h 13) (Nat.lt_succ_of_le he);exact⟨13+t,by lia,by rw[xg,et]⟩
def wq(mask:Nat)(h:Int)(n c:Nat)(p:RO):Prop:=
 p.i=(lp mask h n).1/\p.perturb=(lp mask h n).2/\p.j=(lp mask h n).1+c/\c+p.more=Qv mask (lp mask h n).1 - (lp mask h n).1
def sl(mask:Nat)(h:Int)(n c:Nat):Nat:=(lp mask h n).1+c
theorem mT(mask i:Nat):Qv mask i - i<=9:=by unfold Qv;split<;>lia
theorem wq.start{t:SetTable}{h:Int}:wq t.mask h 0 0 (t.probeStart h):=⟨rfl,rfl,rfl,by rw[VX];rfl⟩
theorem wq.more{t:SetTable}{h:Int}{n c:Nat}{p:RO}(a:wq t.mask h n c p)(hm:0<p.more):wq t.mask h n (c+1) (t.advance p):=by obtain⟨a1,a2,a3,a4⟩:=a;unfold RU;rw[PF hm];exact⟨a1,a2,by show p.j+1=_;lia,by show c+1+(p.more - 1)=_;lia⟩
theorem wq.leap{t:SetTable}{h:Int}{n c:Nat}{p:RO}(a:wq t.mask h n c p)(hm:¬0<p.more):wq t.mask h (n+1) 0 (t.advance p):=by obtain⟨a1,a2,a3,a4⟩:=a;unfold RU;rw[PD hm,a1,a2];exact⟨rfl,rfl,rfl,by rw[VX];rfl⟩
def iK(n c n' c':Nat):Prop:=n<n'\/(n=n'/\c<c')
def kP(mask:Nat)(h:Int)(n c:Nat):Prop:=c<=Qv mask (lp mask h n).1 - (lp mask h n).1
theorem wq.ok(a:wq mask h n c p):kP mask h n c:=by obtain⟨_,_,_,a4⟩:=a;unfold kP;lia
theorem rA(hd:t.dummies= #[])(hashAt:Nat->Int)(he:t.slot (sl t.mask h N 0)=.empty):∀(f n c:Nat)(p:RO),wq t.mask h n c p->(n<N\/(n=N/\c=0))->10*(N - n)+1<=f+c->∃n' c' p',wq t.mask h n' c' p'/\(n'<N\/(n'=N/\c'=0))/\(iK n c n' c'\/(n=n'/\c=c'))/\(∀a b,kP t.mask h a b->(iK n c a b\/(n=a/\c=b))->iK a b n' c'->∃i,t.slot (sl t.mask h a b)=.live i/\¬hashAt i=h)/\((t.slot (sl t.mask h n' c')=.empty/\QW t hashAt h f p=some (.empty (sl t.mask h n' c') p.dummy))\/
    (∃i,t.slot (sl t.mask h n' c')=.live i/\hashAt i=h/\QW t hashAt h f p=some (.candidate (sl t.mask h n' c') i (t.advance p'))/\n'<N/\p'.dummy=p.dummy))
 |0,n,c,p,a,hn,hf=>by have:=mT t.mask (lp t.mask h n).1;have:=a.ok;unfold kP at this;lia
 |f+1,n,c,p,a,hn,hf=>by
  have hj:p.j=sl t.mask h n c:=a.2.2.1;have nodum:∀j,¬t.slot j=.dummy:=λj e=>by
   unfold SD at e;rw[hd]at e;dsimp only at e;split at e
   .cases e
   .rw[PD (by simp[TM])]at e;cases e
  cases q:t.slot p.j with
  |empty=>
   refine⟨n,c,p,a,hn,.inr ⟨rfl,rfl⟩,λx y _ h1 h2=>?_,.inl ⟨by rw[<-hj];exact q,?_⟩⟩
   .exfalso
    rcases h1 with h1|h1<;>rcases h2 with h2|h2<;>(unfold iK at *;lia)
   .unfold QW;rw[q,hj]
  |dummy=>exact PK q (nodum _)
  |live i=>
   by_cases hh:hashAt i=h
   .refine⟨n,c,p,a,hn,.inr ⟨rfl,rfl⟩,λx y _ h1 h2=>?_,.inr ⟨i,by rw[<-hj];exact q,hh,?_,?_,rfl⟩⟩
    .exfalso
     rcases h1 with h1|h1<;>rcases h2 with h2|h2<;>(unfold iK at *;lia)
    .unfold QW;rw[q];dsimp only;rw[PF (by simp[hh]),hj]
    .rcases hn with hn|⟨rfl,rfl⟩
     .exact hn
     .rw[hj,he]at q;cases q
   .have hlt:n<N:=by
     rcases hn with hn|⟨rfl,rfl⟩
     .exact hn
     .rw[hj,he]at q;cases q
    have hgo:QW t hashAt h (f+1) p=QW t hashAt h f (t.advance p):=by
     conv=>lhs;unfold QW
     rw[q];dsimp only;rw[PD (by simp[hh])]
    rw[hgo];have hdm:(t.advance p).dummy=p.dummy:=by unfold RU;split<;>rfl
    by_cases hm:0<p.more
    .obtain⟨n',c',p',b1,b2,b3,b4,b5⟩:=rA hd hashAt he f n (c+1) (t.advance p) (a.more hm) (.inl hlt) (by lia);refine⟨n',c',p',b1,b2,.inl (by unfold iK at *;lia),λx y o h1 h2=>?_,by rw[hdm]at b5;exact b5⟩
     by_cases e:x=n/\y=c
     .obtain⟨rfl,rfl⟩:=e;exact⟨i,by rw[<-hj];exact q,hh⟩
     .exact b4 x y o (by unfold iK at *;lia) h2
    .have hc9:=mT t.mask (lp t.mask h n).1;have hck:=a.2.2.2;obtain⟨n',c',p',b1,b2,b3,b4,b5⟩:=rA hd hashAt he f (n+1) 0 (t.advance p) (a.leap hm) (by lia) (by lia);refine⟨n',c',p',b1,b2,.inl (by unfold iK at *;lia),λx y o h1 h2=>?_,by rw[hdm]at b5;exact b5⟩
     by_cases e:x=n/\y=c
     .obtain⟨rfl,rfl⟩:=e;exact⟨i,by rw[<-hj];exact q,hh⟩
     .refine b4 x y o ?_ h2;unfold kP at o;unfold iK at*
      by_cases e2:x=n
      .subst e2;lia
      .lia
theorem kZ{t:SetTable}(hr:uF t.place){j i:Nat}:t.slot j=.live i<->i<t.place.size/\t.place.getD i 0=j:=by
 obtain⟨b1,b2,b3⟩:=fg t.place j hr;unfold SD;dsimp only
 constructor
 .intro h;split at h
  .rename_i e;cases h;have hlt:Qb t.place j<t.place.size:=by
    rcases Nat.lt_or_ge (Qb t.place j) t.place.size with q|q
    .exact q
    .rw[WH q]at e;simp at e
   rw[WF hlt]at e;refine⟨hlt,?_⟩;rw[bK hlt];simpa using e
  .split at h<;>cases h
 .rintro⟨hi,e⟩;have hb:Qb t.place j=i:=by
   rcases V4 (Qb t.place j) i with q|q|q
   .have a1:=b3 (Qb t.place j) (VO _) (by lia);have a2:=hr _ _ q hi;lia
   .exact q
   .have:=b2 i q;lia
  rw[hb,WF hi,PF];rw[bK hi]at e;simp[e]
theorem gq{t:SetTable}(hr:uF t.place)(hd:t.dummies= #[]){j:Nat}:t.slot j=.empty<->DV t.place j:=by
 constructor
 .intro h;exact yg hr (.inl h)
 .intro h;cases e:t.slot j with
  |empty=>rfl
  |live i=>
   obtain⟨h1,h2⟩:=(kZ hr).mp e;exact PK h2 (h i h1)
  |dummy=>
   exfalso;unfold SD at e;rw[hd]at e;dsimp only at e;split at e
   .cases e
   .rw[PD (by simp[TM])]at e;cases e
theorem qL:∀(n:Nat)(l:List Nat),l.length<n->∃s,s<n/\¬s∈l
 |0,l,h=>by lia
 |n+1,l,h=>by
  by_cases m:n∈l
  .have hl:=Vq m;have hp:=Vb m;obtain⟨s,h1,h2⟩:=qL n (l.erase n) (by lia);exact⟨s,by lia,λz=>h2 ((Vr (by lia)).mpr z)⟩
  .exact⟨n,by lia,m⟩
theorem zh{t:SetTable}(hr:uF t.place)(hd:t.dummies= #[])(hf:t.place.size<=t.mask):∃e,e<=t.mask/\t.slot e=.empty:=by obtain⟨e,h1,h2⟩:=qL (t.mask+1) t.place.toList (by simp;lia);refine⟨e,by lia,(gq hr hd).mpr λk hk z=>h2 ?_⟩;rw[<-z,bK hk];simp
def Cc(t:SetTable)(h:Int)(j:Nat):Prop:= ∃n c,kP t.mask h n c/\sl t.mask h n c=j/\∀a b,kP t.mask h a b->iK a b n c->¬t.slot (sl t.mask h a b)=.empty
structure uK(es:Array (Int×h9))(t:SetTable):Prop where
 ps:t.place.size=es.size
 ris:uF t.place
 nd:t.dummies= #[]
 full:lD (t.mask+1)
 odd:t.mask % 2=1
 fit:t.place.size<=t.mask
 pl:∀i,i<es.size->Cc t (es.getD i (0,.none)).1 (t.place.getD i 0)
theorem Hr(o:kP mask h n c):sl mask h n c<=mask:=by have:=HE mask h n;unfold kP Qv at o;unfold sl;split at o<;>lia
theorem uK.fits(g:uK es t):t.fits es.size=true:=by unfold Tr SetTable.fill;rw[g.nd,g.ps];have:=g.fit;rw[g.ps]at this;simp[this]
theorem uK.fresh:uK #[] (SetTable.fresh 0 0 led):=⟨rfl,λi j _ hj=>PK hj (by simp[SetTable.fresh]),rfl,HM,(by show(7:Nat) % 2=1;decide),VQ _,λi h=>PK h (by simp)⟩
theorem uK.put(g:uK es t)(o:kP t.mask h n c)(he:t.slot (sl t.mask h n c)=.empty)(hb:∀a b,kP t.mask h a b->iK a b n c->¬t.slot (sl t.mask h a b)=.empty)(hroom:es.size+1<=t.mask):uK (Qo es (t.put (sl t.mask h n c)).2 (h,x)) (t.put (sl t.mask h n c)).1:=by
 have hf:=(gq g.ris g.nd).mp he;have hr':uF (t.put (sl t.mask h n c)).1.place:=vm g.ris hf;have hd':(t.put (sl t.mask h n c)).1.dummies= #[]:=by show(if TM t.dummies _ then _ else t.dummies)= #[];rw[g.nd];rfl
 have hsz:(t.put (sl t.mask h n c)).1.place.size=es.size+1:=by show(Qo t.place _ _).size=_;rw[gQ,g.ps]
 have hes:(Qo es (t.put (sl t.mask h n c)).2 (h,x)).size=es.size+1:=gQ ..;have keep:∀j,¬t.slot j=.empty->¬(t.put (sl t.mask h n c)).1.slot j=.empty:=λj hj z=>hj ((gq g.ris g.nd).mpr λk hk e=>by
  have q:=(gq hr' hd').mp z;have hm:j∈(t.put (sl t.mask h n c)).1.place.toList:=by show j∈(Qo t.place _ _).toList;rw[(RM t.place _ _).mem_iff,WM];refine UJ _ ?_;rw[<-e,bK hk];simp
  obtain⟨k',hk',e'⟩:=UR hm;have hk2:k'<(t.put (sl t.mask h n c)).1.place.size:=by simpa using hk'
  exact q k' hk2 (by rw[bK hk2];simpa using e'))
 refine⟨by rw[hsz,hes],hr',hd',g.full,g.odd,by rw[hsz];exact hroom,λi hi=>?_⟩;rw[hes]at hi;have hp:∀i,i<es.size+1->((Qo es (t.put (sl t.mask h n c)).2 (h,x)).getD i (0,.none)=(h,x)/\(t.put (sl t.mask h n c)).1.place.getD i 0=sl t.mask h n c)\/∃j,j<es.size/\(Qo es (t.put (sl t.mask h n c)).2 (h,x)).getD i (0,.none)=es.getD j (0,.none)/\(t.put (sl t.mask h n c)).1.place.getD i 0=t.place.getD j 0:=λi hi=>by
  have hpb:(t.put (sl t.mask h n c)).2<=es.size:=by show Qb t.place _<=_;rw[<-g.ps];exact(fg t.place _ g.ris).1
  have at1:∀{α:Type}(xs:Array α)(p:Nat)(y d:α)(i:Nat),p<=xs.size->i<xs.size+1->(Qo xs p y).getD i d=if i<p then xs.getD i d else if i=p then y else xs.getD (i - 1) d:=λ{α} xs p y d i hp hi=>by
   have hs:=gQ xs p y;have e1:(Qo xs p y).getD i d=(Qo xs p y).toList[i]'(by simpa[hs]using hi):=by rw[bK (by lia)];simp
   rw[e1];simp only[SC]
   by_cases l1:i<p
   .rw[PF l1,Vs (by simp;lia),bK (by lia)];simp
   .rw[PD l1,Vt (by simp;lia)]
    by_cases l2:i=p
    .subst l2;rw[PF rfl];have hz:i - (xs.toList.take i).length=0:=by simp;lia
     have key:∀(l:List α)(k:Nat)(hk:k<(y::l).length),k=0->(y::l)[k]=y:=λl k hk e=>by subst e;rfl
     exact key _ _ _ hz
    .rw[PD l2];have hl:(xs.toList.take p).length=p:=by simp;lia
     have e2:i - (xs.toList.take p).length=(i - 1 - p)+1:=by lia
     rw[bK (by lia)];simp only[e2,List.getElem_cons_succ,List.getElem_drop,WP];congr 1;lia
  have q1:=at1 es (t.put (sl t.mask h n c)).2 (h,x) (0,.none) i hpb hi;have q2:=at1 t.place (t.put (sl t.mask h n c)).2 (sl t.mask h n c) 0 i (by rw[g.ps];exact hpb) (by rw[g.ps];exact hi);have q2':(t.put (sl t.mask h n c)).1.place.getD i 0=_:=q2;rw[q1,q2']
  by_cases l1:i<(t.put (sl t.mask h n c)).2
  .rw[PF l1,PF l1];exact .inr ⟨i,by lia,rfl,rfl⟩
  .rw[PD l1,PD l1]
   by_cases l2:i=(t.put (sl t.mask h n c)).2
   .rw[PF l2,PF l2];exact .inl ⟨rfl,rfl⟩
   .rw[PD l2,PD l2];exact .inr ⟨i - 1,by lia,rfl,rfl⟩
 rcases hp i hi with⟨e1,e2⟩|⟨j,hj,e1,e2⟩
 .rw[e1,e2];exact⟨n,c,o,rfl,λa b oab lab=>keep _ (hb a b oab lab)⟩
 .rw[e1,e2];obtain⟨n',c',o',e',hb'⟩:=g.pl j hj;exact⟨n',c',o',e',λa b oab lab=>keep _ (hb' a b oab lab)⟩
abbrev nn(owner:Array (Option Nat))(j:Nat):Bool:=(owner.getD j (some 0)).isNone
theorem Bs(hN:nn owner (sl mask h N 0)=true):∀(f n:Nat),n<=N->N - n<f->∃n' c',kP mask h n' c'/\QR mask owner f (lp mask h n).1 (lp mask h n).2=some (sl mask h n' c')/\nn owner (sl mask h n' c')=true/\∀a b,kP mask h a b->n<=a->iK a b n' c'->nn owner (sl mask h a b)=false
 |0,n,h1,h2=>by lia
 |f+1,n,h1,h2=>by
  unfold QR;cases e:(List.range (Qv mask (lp mask h n).1+1 - (lp mask h n).1)).find? (λk=>(owner.getD ((lp mask h n).1+k) (some 0)).isNone)with
  |some k=>
   obtain⟨hp,i,hi,ei,hb⟩:=List.find?_eq_some_iff_getElem.mp e;have hik:i=k:=by simpa using ei
   subst hik;have hir:i<Qv mask (lp mask h n).1+1 - (lp mask h n).1:=by simpa using hi
   refine⟨n,i,by unfold kP;lia,rfl,hp,λa b o ha lt=>?_⟩;have:a=n/\b<i:=by unfold iK at lt;lia
   obtain⟨rfl,hbi⟩:=this;have:=hb b hbi;simpa[nn,sl]using this
  |none=>
   have hall:=List.find?_eq_none.mp e;have hlt:n<N:=by
    rcases Nat.lt_or_ge n N with q|q
    .exact q
    .have:n=N:=by lia
     subst this;have hr0:(0:Nat)<Qv mask (lp mask h n).1+1 - (lp mask h n).1:=by unfold Qv;split<;>lia
     have:=hall 0 (Uh.mpr hr0);exact PK hN this
   obtain⟨n',c',o,e2,e3,e4⟩:=Bs hN f (n+1) hlt (by lia);refine⟨n',c',o,e2,e3,λa b oab ha lt=>?_⟩
   by_cases q:a=n
   .subst q;have hbr:b<Qv mask (lp mask h a).1+1 - (lp mask h a).1:=by
     unfold kP at oab;have:(lp mask h a).1<=Qv mask (lp mask h a).1:=by unfold Qv;split<;>lia
     lia
    have:=hall b (Uh.mpr hbr);exact WE.mpr this
   .exact e4 a b oab (by lia) lt
structure OI(mask:Nat)(owner:Array (Option Nat))(hs:List Int)(js:List Nat):Prop where
 sz:owner.size=mask+1
 len:js.length=hs.length
 nd:js.Nodup
 le:∀j∈js,j<=mask
 at1:∀i(hi:i<js.length),owner.getD js[i] (some 0)=some i
 at2:∀j,j<=mask->¬j∈js->owner.getD j (some 0)=none
 pl:∀i(hi:i<js.length),∃n c,kP mask (hs.getD i 0) n c/\sl mask (hs.getD i 0) n c=js[i]/\∀a b,kP mask (hs.getD i 0) a b->iK a b n c->nn owner (sl mask (hs.getD i 0) a b)=false
theorem ve{owner:Array (Option Nat)}{j:Nat}{o:Option Nat}(h:j<owner.size)(k:Nat):(owner.setIfInBounds j o).getD k (some 0)=if k=j then o else owner.getD k (some 0):=by
 by_cases e:k=j
 .subst e;rw[PF rfl,bK (by simpa using h)];exact Array.getElem_setIfInBounds_self ..
 .rw[PD e]
  by_cases hk:k<owner.size
  .rw[bK (by simpa using hk),bK hk];exact Array.getElem_setIfInBounds_ne hk (Ne.symm e)
  .have h1:¬k<(owner.setIfInBounds j o).size:=by simpa using hk
   simp[Array.getD,hk,h1]
theorem OI.step(f:lD (mask+1))(I:OI mask owner hs js)(h:Int)(hr:hs.length<=mask):∃j,QR mask owner (Q8 mask) (QB h % (mask+1)) (QB h)=some j/\OI mask (owner.setIfInBounds j (some hs.length)) (hs++[h]) (js++[j]):=by
 obtain⟨e,e1,e2⟩:=qL (mask+1) js (by rw[I.len];lia);obtain⟨N,hN,eN⟩:=xi f h (Nat.le_of_lt_succ e1);have hNn:nn owner (sl mask h N 0)=true:=by show(owner.getD ((lp mask h N).1+0) (some 0)).isNone=true;rw[Nat.add_zero,eN,I.at2 e (by lia) e2];rfl
 obtain⟨n,c,o,g1,g2,g3⟩:=Bs hNn (Q8 mask) 0 (VQ _) (by unfold Q8;lia);have hj:=Hr o;refine⟨sl mask h n c,g1,?_⟩;have hlt:sl mask h n c<owner.size:=by rw[I.sz];lia
 have hnj:¬sl mask h n c∈js:=λz=>by obtain⟨i,hi,e⟩:=UR z;have:=I.at1 i hi;rw[e]at this;unfold nn at g2;rw[this]at g2;cases g2
 have up:∀k,nn owner k=false->nn (owner.setIfInBounds (sl mask h n c) (some hs.length)) k=false:=λk hk=>by
  unfold nn;rw[ve hlt]
  by_cases e:k=sl mask h n c
  .rw[PF e];rfl
  .rw[PD e];exact hk
 refine⟨by simpa using I.sz,by simp[I.len],?_,λj hm=>?_,λi hi=>?_,λj hjm hn=>?_,λi hi=>?_⟩
 .rw[U2];refine⟨I.nd,by simp,λa ha b hb e=>hnj ?_⟩;have:b=sl mask h n c:=by simpa using hb
  rw[<-this,<-e];exact ha
 .rcases Ul.mp hm with z|z
  .exact I.le j z
  .rw[Ud.mp z];exact hj
 .rw[ve hlt]
  by_cases l:i<js.length
  .rw[Vs l,PD (λz:js[i]=sl mask h n c=>hnj (z▸Uv l))];exact I.at1 i l
  .have:i=js.length:=by simp at hi;lia
   subst this;rw[Vt (VO _)];simp[I.len]
 .rw[ve hlt,PD (λz=>hn (by rw[z];simp))];exact I.at2 j hjm (λz=>hn (UJ _ z))
 .by_cases l:i<js.length
  .have e:(hs++[h]).getD i 0=hs.getD i 0:=by rw[Ug,U7 (by rw[<-I.len];exact l),<-Ug]
   rw[Vs l,e];obtain⟨n',c',o',e',hb⟩:=I.pl i l;exact⟨n',c',o',e',λa b oab lab=>up _ (hb a b oab lab)⟩
  .have:i=js.length:=by simp at hi;lia
   subst this;have e:(hs++[h]).getD js.length 0=h:=by rw[I.len];simp
   rw[e];refine⟨n,c,o,?_,λa b oab lab=>up _ (g3 a b oab (VQ _) lab)⟩;rw[Vt (VO _)];simp
theorem tY(f:lD (mask+1)):∀(hs2 hs1:List Int)(owner:Array (Option Nat))(js:List Nat),OI mask owner hs1 js->hs1.length+hs2.length<=mask+1->∃owner' js',hs2.foldl (λacc h=>do
   let (owner,k)<-acc
   let j<-QR mask owner (Q8 mask) (QB h % (mask+1)) (QB h)
   pure (owner.setIfInBounds j (some k),k+1)) (some (owner,hs1.length))=some (owner',(hs1++hs2).length)/\OI mask owner' (hs1++hs2) js'
 | [],hs1,owner,js,I,_=>⟨owner,js,by simp,by simpa using I⟩
 |h::hs2,hs1,owner,js,I,hl=>by
  simp only[Ut]at hl;obtain⟨j,e,I2⟩:=I.step f h (by lia);obtain⟨owner',js',e3,I3⟩:=tY f hs2 (hs1++[h]) _ _ I2 (by simp;lia);refine⟨owner',js',?_,by simpa using I3⟩;rw[List.foldl_cons];have e4:(do
    let (owner,k)<-(some (owner,hs1.length):Option (Array (Option Nat)×Nat))
    let j<-QR mask owner (Q8 mask) (QB h % (mask+1)) (QB h)
    pure (owner.setIfInBounds j (some k),k+1))=some (owner.setIfInBounds j (some hs1.length),(hs1++[h]).length):=by
   simp[e]
  rw[e4,e3];simp
theorem yX(f:lD (mask+1))(hl:hs.size<=mask+1):∃owner js,SetTable.layClean mask hs=some owner/\OI mask owner hs.toList js:=by
 have I0:OI mask (Array.replicate (mask+1) none) [] []:=⟨by simp,rfl,by simp,by simp,λi hi=>by simp at hi,λj hj _=>by rw[bK (by simp;lia)];simp,λi hi=>by simp at hi⟩;obtain⟨owner,js,e,I⟩:=tY f hs.toList [] _ _ I0 (by simpa using hl);refine⟨owner,js,?_,by simpa using I⟩;unfold SetTable.layClean;rw[<-Array.foldl_toList];have e:hs.toList.foldl (λacc h=>do
   let (owner,k)<-acc
   let j<-QR mask owner (Q8 mask) (QB h % (mask+1)) (QB h)
   pure (owner.setIfInBounds j (some k),k+1)) (some (Array.replicate (mask+1) none,0))=some (owner,([]++hs.toList).length):=e
 rw[e];rfl
def liveP(owner:Array (Option Nat))(mask:Nat):List (Nat×Nat):=(List.range (mask+1)).filterMap λj=>(owner.getD j none).map (j,·)
theorem ia:(j,i)∈liveP owner mask<->j<=mask/\owner.getD j none=some i:=by
 unfold liveP;rw[UF]
 constructor
 .rintro⟨k,hk,e⟩;obtain⟨x,hx,e2⟩:=WQ.mp e;cases e2;exact⟨by have:=Uh.mp hk;lia,hx⟩
 .rintro⟨h1,h2⟩;exact⟨j,Uh.mpr (by lia),by rw[h2];rfl⟩
theorem m6(I:OI mask owner hs js)(hj:j<=mask):owner.getD j none=some i<->∃h:i<js.length,js[i]=j:=by
 have e0:owner.getD j none=owner.getD j (some 0):=by
  have:j<owner.size:=by rw[I.sz];lia
  rw[bK this,bK this]
 rw[e0]
 constructor
 .intro h
  by_cases m:j∈js
  .obtain⟨k,hk,e⟩:=UR m;have:=I.at1 k hk;rw[e,h]at this;cases this;exact⟨hk,e⟩
  .rw[I.at2 j hj m]at h;cases h
 .rintro⟨h,e⟩;rw[<-e];exact I.at1 i h
theorem tT(owner:Array (Option Nat))(mask:Nat):((liveP owner mask).map (·.1)).Pairwise (· < ·):=
 (jB (λj=>(owner.getD j none).map (j,·)) (λj p hp=>by
  obtain⟨a,_,rfl⟩:=WQ.mp hp;rfl) (List.range (mask+1)) List.pairwise_lt_range).1
theorem tH{κ:Type}[DecidableEq κ]:∀{l ns:List κ},l.Nodup->ns.Nodup->(∀k,k∈l<->k∈ns)->ns.Perm l
 | [],ns,_,_,h=>by
   cases ns with
   |nil=>exact List.Perm.refl _
   |cons a l=>exact PK ((h a).mpr (by simp)) (by simp)
 |a::l,ns,nd,nn,h=>by
  obtain⟨n1,n2⟩:=UP.mp nd;have ha:=(h a).mp (by simp);refine(VI ha).trans (List.Perm.cons _ (tH n2 (nn.erase a) λk=>?_));rw[nn.mem_erase_iff,<-h k,T8]
  constructor
  .intro hk;exact⟨λe=>n1 (e▸hk),.inr hk⟩
  .rintro⟨e,z|z⟩
   .exact PK z e
   .exact z
theorem vv(I:OI mask owner hs js):((liveP owner mask).map (·.2)).Perm (List.range hs.length):=by
 refine tH Vc ?_ (λi=>?_)
 ·
  have hp:=tT owner mask;rw[Ux]at hp;rw[UC,Ux];refine List.Pairwise.imp_of_mem ?_ hp;intro a b ha hb lt e;obtain⟨a1,a2⟩:=ia.mp (show(a.1,a.2)∈_ from ha);obtain⟨b1,b2⟩:=ia.mp (show(b.1,b.2)∈_ from hb);obtain⟨x1,e1⟩:=(m6 I a1).mp a2;obtain⟨x2,e2⟩:=(m6 I b1).mp b2;have:a.1=b.1:=by rw[<-e1,<-e2];congr 1
  lia
 .rw[Uh,T9]
  constructor
  .intro hi;have hi':i<js.length:=by rw[I.len];exact hi
   have hle:=I.le _ (Uv hi');exact⟨(js[i],i),ia.mpr ⟨hle,(m6 I hle).mpr ⟨hi',rfl⟩⟩,rfl⟩
  .rintro⟨p,hp,rfl⟩;obtain⟨a1,a2⟩:=ia.mp (show(p.1,p.2)∈_ from hp);obtain⟨x1,e1⟩:=(m6 I a1).mp a2;rw[I.len]at x1;exact x1
theorem By{α:Type}{es:Array α}(d:α):∀{l:List Nat},(∀i∈l,i<es.size)->l.filterMap (es[·]?)=l.map λi=>es.getD i d
 | [],_=>rfl
 |i::l,h=>by have hi:=h i (by simp);rw[US,WF hi,Uw,By d (λj hj=>h j (Ue _ hj)),bK hi]
theorem yu{es:Array (Int×h9)}{t:SetTable}{wanted:Nat}(f:lD (QU wanted - 1+1))(ho:(QU wanted - 1) % 2=1)(hl:es.size<=QU wanted - 1):∃t' order,t.relaid (es.map (·.1)) wanted=some (t',order)/\(order.filterMap (es[·]?)).size=es.size/\(order.filterMap (es[·]?)).toList.Perm es.toList/\uK (order.filterMap (es[·]?)) t'/\t'.led=t.led/\t'.mask=QU wanted - 1:=by
 generalize hm:QU wanted - 1=mask at f ho hl;obtain⟨owner,js,e,I⟩:=yX f (hs:=es.map (·.1)) (by simp;lia);have hlen:(es.map (·.1)).toList.length=es.size:=by simp
 have hop:=vv I;rw[hlen]at hop;have hin:∀i∈(liveP owner mask).map (·.2),i<es.size:=λi hi=>Uh.mp (hop.mem_iff.mp hi);have hll:(liveP owner mask).length=es.size:=by have:=hop.length_eq;simpa using this
 refine⟨{mask,place:=((liveP owner mask).map (·.1)).toArray,dummies:= #[],finger:=t.finger,led:=t.led,moves:=t.movedTo mask,plain:=t.plain},((liveP owner mask).map (·.2)).toArray,?_,?_⟩
 .unfold SetTable.relaid SetTable.laid;rw[hm,e];rfl
 have hes:((((liveP owner mask).map (·.2)).toArray).filterMap (es[·]?)).toList=((liveP owner mask).map (·.2)).map λi=>es.getD i (0,.none):=by rw[Array.toList_filterMap];exact By (0,.none) hin
 have hsz:((((liveP owner mask).map (·.2)).toArray).filterMap (es[·]?)).size=es.size:=by rw[<-WI,hes,T7,T7,hll]
 refine⟨hsz,?_,?_,rfl,rfl⟩
 .rw[hes];refine(hop.map _).trans (List.Perm.of_eq ?_);apply UM;intro i;have e0:es.toList[i]? =es[i]? :=WG;rw[Ub,e0]
  by_cases hi:i<es.size
  .rw[UI hi,WF hi];show some (es.getD i (0,.none))=some es[i];rw[bK hi]
  .rw[Uz (by simpa using hi),WH (by lia)];rfl
 .have hris:uF ((liveP owner mask).map (·.1)).toArray:=qr.mpr (by simpa using tT owner mask);refine⟨?_,hris,rfl,f,ho,?_,λi hi=>?_⟩
  .rw[hsz];simp[hll]
  .show((liveP owner mask).map (·.1)).toArray.size<=mask;simp[hll,hl]
  .rw[hsz]at hi;have hil:i<(liveP owner mask).length:=by rw[hll];exact hi
   have e1:((((liveP owner mask).map (·.2)).toArray).filterMap (es[·]?)).getD i (0,.none)=es.getD (liveP owner mask)[i].2 (0,.none):=by
    rw[bK (by rw[hsz];exact hi)];have:((((liveP owner mask).map (·.2)).toArray).filterMap (es[·]?)).toList[i]? =some (es.getD (liveP owner mask)[i].2 (0,.none)):=by rw[hes,Ub,Ub,Ua hil];rfl
    rw[WG,WF (by rw[hsz];exact hi)]at this;exact PL this
   have e2:((liveP owner mask).map (·.1)).toArray.getD i 0=(liveP owner mask)[i].1:=by rw[bK (by simpa using hil)];simp
   obtain⟨a1,a2⟩:=ia.mp (show((liveP owner mask)[i].1,(liveP owner mask)[i].2)∈_ from Uv hil);obtain⟨x1,ex⟩:=(m6 I a1).mp a2;have hxs:(liveP owner mask)[i].2<es.size:=by rw[<-hlen,<-I.len];exact x1
   obtain⟨n,c,o,es',hb⟩:=I.pl _ x1;have eh:(es.map (·.1)).toList.getD (liveP owner mask)[i].2 0=(es.getD (liveP owner mask)[i].2 (0,.none)).1:=by rw[bK hxs,Ug,WG,Array.getElem?_map,WF hxs];rfl
   rw[eh]at o es' hb;show Cc _ _ (((liveP owner mask).map (·.1)).toArray.getD i 0);rw[e1,e2];refine⟨n,c,o,by rw[es',ex],λa b oab lab z=>?_⟩;have q:=hb a b oab lab;have hle:sl mask (es.getD (liveP owner mask)[i].2 (0,.none)).1 a b<=mask:=Hr oab;have hfr:=(gq (t:={mask,place:=((liveP owner mask).map (·.1)).toArray,dummies:= #[],finger:=t.finger,led:=t.led,moves:=t.movedTo mask,plain:=t.plain}) hris rfl).mp z;cases eo:owner.getD (sl mask (es.getD (liveP owner mask)[i].2 (0,.none)).1 a b) none with
   |none=>
    have hlt:sl mask (es.getD (liveP owner mask)[i].2 (0,.none)).1 a b<owner.size:=by rw[I.sz];lia
    unfold nn at q;rw[bK hlt]at q eo;rw[eo]at q;cases q
   |some k=>
    have hm2:=ia.mpr ⟨hle,eo⟩;obtain⟨r,hr,er⟩:=UR hm2;have hr2:r<((liveP owner mask).map (·.1)).toArray.size:=by simpa using hr
    refine hfr r hr2 ?_;show((liveP owner mask).map (·.1)).toArray.getD r 0=_;rw[bK hr2];simp[er]
end L2
namespace L2
open PySem PySem.Spec PyProof.Rows
section
theorem HB{ss:List Str}{i:Int}(h0:0<=i)(h1:i<ss.length):∃s,jd (ss.map V.str) i=some (.str s)/\s∈ss:=by obtain⟨v,e1,e2⟩:=AG (xs:=ss.map V.str) h0 (by rw[T7];exact h1);obtain⟨s,hs,rfl⟩:=T9.mp e2;exact⟨s,e1,hs⟩
theorem Ik(h:Tv tt σ H b)(q1:b=true->R true H)(q2:b=false->u σ H R):Io tt u σ H R:=h _ (by
 cases b with
 |true=>exact iG (q1 rfl)
 |false=>exact gF (q2 rfl))
end
end L2
namespace L2
open PySem
theorem cm:Slot "set_iterator" "__next__" "set_iterator.__next__":=
 .of (owner:="set_iterator") (n:="__next__") (by rw[Rc,QH];kernel_rfl) (by decide+kernel) (by decide+kernel) (by decide+kernel) (by first|exact .inl (by decide+kernel)|exact .inr (by decide+kernel)) (by rw[Sd];kernel_rfl)
theorem iu:TL table "set_iterator.__next__"=some Builtin.«set_iterator.__next__» :=entryFor_of_tree (by kernel_rfl)
theorem iw(a:h9):argsOk "set_iterator.__next__" ⟨[a],[]⟩:=by unfold argsOk;kernel_rfl
theorem mL:Slot "set_iterator" "__iter__" "set_iterator.__iter__":=
 .of (owner:="set_iterator") (n:="__iter__") (by rw[Rc,QH];kernel_rfl) (by decide+kernel) (by decide+kernel) (by decide+kernel) (by first|exact .inl (by decide+kernel)|exact .inr (by decide+kernel)) (by rw[Sd];kernel_rfl)
theorem v3:TL table "set_iterator.__iter__"=some Builtin.«dict_keyiterator.__iter__» :=
 Tg (id':="dict_keyiterator.__iter__") (by kernel_rfl) rfl (by decide+kernel) (by kernel_rfl)
theorem wm(a:h9):argsOk "set_iterator.__iter__" ⟨[a],[]⟩:=by unfold argsOk;kernel_rfl
theorem uk:TL table "set.__iter__"=some Builtin.«frozenset.__iter__» :=
 Tg (id':="frozenset.__iter__") (by kernel_rfl) rfl (by decide+kernel) (by kernel_rfl)
def eU(h:Qe)(D:XB)(es:Array (Int×h9))(ep:Nat)(t:SetTable):Prop:= ∃o,h.get? D=some o/\o.ExactSet/\o.data=.set es ep t
def uE(h:Qe)(I D:XB)(first:h9)(i n ep:Nat):Prop:= ∃o,h.get? I=some o/\o.cls=.type "set_iterator"/\o.data=.fields #[first,.int i 0,.ref D,.int n 0,.int ep 0]
section
variable{s:PZ}
theorem uE.ty(h:uE s.heap I D f i n ep):s.TypeIs (.ref I) "set_iterator":=let ⟨o,h1,h2,_⟩:=h;⟨o,h1,h2⟩
theorem uE.keep(x:uE h I D f i n ep)(k:∀o,h.get? I=some o->h'.get? I=some o):uE h' I D f i n ep:=let ⟨o,h1,r⟩:=x;⟨o,k o h1,r⟩
theorem eU.keep(x:eU h D es ep t)(k:∀o,h.get? D=some o->h'.get? D=some o):eU h' D es ep t:=let ⟨o,h1,r⟩:=x;⟨o,k o h1,r⟩
theorem Ih{m:Sem Unit}{α:Type}{k:Unit->Sem α}{Q:α->PZ->Prop}(hm:∀Q':Unit->PZ->Prop,Q' () s->P2 M A m Q' E s)(h:P2 M A (k ()) Q E s):P2 M A (m >>= k) Q E s:=PU (hm _ h)
theorem iP(hS:eU s.heap D es ep t)(hf:t.fits es.size=true)(h:Q (es,ep,t) s):P2 (P7 prog w) A (setState D) Q E s:=by obtain⟨o,ho,_,hd⟩:=hS;exact wpAny_setState_of ho hd hf h
theorem kK(h:Q (w.params.followText "set-order") s):P2 (P7 prog w) A setsByText Q E s:=by unfold setsByText;exact PU (SK (PV h))
theorem pd(hS:eU s.heap D es ep t)(g:SG (!w.params.followText "set-order") es.size t)(hb:w.params.followText "set-order"=false)(hp:t.plain=true\/es.size<=1)(hi:Qb t.place slot=i)(h:Q (match es[i]?,t.place[i]? with|some (_,x),some j=>some (x,j+1)|_,_=>none) s):P2 (P7 prog w) A (SU D slot given ep) Q E s:=by
 unfold SU;refine PU (iP hS g.fits ?_);dsimp only;refine PU (kK ?_);rw[hb,PD Wr];split
 .rename_i q;have q:(!t.plain&&decide (es.size > 1))=true:=q
  rcases hp with hp|hp
  .rw[hp]at q;cases q
  .rw[PB (by lia:¬es.size > 1),WA]at q;cases q
 .refine Ih (λQ' q=>?_) ?_
  .show P2 _ _ (if(!t.led&& !es.isEmpty)=true then _ else _) _ _ _;rw[g.led,hb];exact PV q
  .rw[hi];exact PV h
theorem pc(hS:eU s.heap D es ep t)(hf:t.fits es.size=true)(hb:w.params.followText "set-order"=true)(h:Q (((RH (w.params.setOrder D ep) es)[given]?).map λe=>(e.2,slot)) s):P2 (P7 prog w) A (SU D slot given ep) Q E s:=by unfold SU;refine PU (iP hS hf ?_);dsimp only;refine PU (kK ?_);rw[hb];show P2 _ _ (if(ep != ep)=true then _ else _) _ _ _;rw[PD (by simp)];refine PU ?_;unfold setWalk;refine PU (iP hS hf ?_);dsimp only;refine PU (kK ?_);rw[hb];show P2 _ _ (do let x<-ask;pure _) _ _ _;exact PU (SK (PV (PV h)))
theorem vH(hS:eU s.heap D es ep t)(hf:t.fits es.size=true)(he:es[place]? =some e)(h:Q e.2 s):P2 (P7 prog w) A (setNextDrawn D place ep) Q E s:=by unfold setNextDrawn;refine PU (iP hS hf ?_);dsimp only;rw[PD (by simp),he];exact PV h
end
def slotAt(t:SetTable)(i:Nat):Nat:=if i=0 then 0 else t.place.getD (i - 1) 0+1
theorem j3(hr:uF t.place)(hi:i<=t.place.size):Qb t.place (slotAt t i)=i:=by
 unfold slotAt
 by_cases h:i=0
 .rw[PF h,h];exact uB hr
 .rw[PD h,wj hr (by lia)];lia
section
theorem rj{I D:XB}{o:Obj}{vs:Array h9}{h:Qe}{i:Nat}{x:h9}(ho:h.get? I=some o)(hc:o.cls=.type "set_iterator")(hd:o.data=.fields vs):∃o',(h.update I (Obj.mapFields (·.setIfInBounds i x))).get? I=some o'/\o'.cls=.type "set_iterator"/\o'.data=.fields (vs.setIfInBounds i x):=
 ⟨_,Q9 _ ho (Obj.isFreed_of_fields (Obj.data_mapFields hd _)),(Obj.cls_mapFields ..).trans hc,Obj.data_mapFields hd _⟩
end
section
theorem ub{es:Array (Int×h9)}{ep slot i next:Nat}{x:h9}{Q:Option h9->PZ->Prop}(hi:uE s.heap I D (.int slot 0) i es.size ep)(hS:eU s.heap D es ep t)(hf:t.fits es.size=true)(hn:∀(Q':Option (h9×Nat)->PZ->Prop)(E':PP),Q' (some (x,next)) s->P2 (P7 prog w) A.in1 (SU D slot i ep) Q' E' s)(hQ:∀h',uE h' I D (.int next 0) (i+1) es.size ep->QL I s.heap h'->Q (some x) {s with heap:=h'}):P2 (P7 prog w) A (Ra (.ref I)) Q E s:=by have ty:=hi.ty;obtain⟨o,ho,hc,hd⟩:=hi;unfold Ra;refine PU (Q5 (Qq (name:=QC "__next__") ty cm (Qp cm ty iu ?_ (iw _))));show P2 _ _ (fieldsOf (.ref I) >>= _) _ _ s;refine PU (Sb ho hd ?_);show P2 _ _ (Rx D >>= _) _ _ s;unfold Rx;refine PU (PU (iP hS hf (PV ?_)));dsimp only;rw[PD (by simp)];show P2 _ _ (SU D (Int.toNat slot) (Int.toNat i) (Int.toNat ep) >>= _) _ _ s;rw[Wd,Wd,Wd];refine PU (hn _ _ ?_);dsimp only;refine PU (Ru ho hd (by simp) ?_);obtain⟨o2,ho2,hc2,hd2⟩:=rj (D:=D) (i:=0) (x:=RA next) ho hc hd;refine PU (Ru ho2 hd2 (by simp) (PV ⟨x,rfl,PV (hQ _ ?_ ((QF ..).trans (QF ..)))⟩));obtain⟨o3,ho3,hc3,hd3⟩:=rj (D:=D) (i:=1) (x:=RA ((i:Int)+1)) ho2 hc2 hd2;exact⟨o3,ho3,hc3,by rw[hd3];rfl⟩
theorem xG{es:Array (Int×h9)}{ep slot i:Nat}{Q:Option h9->PZ->Prop}(hh:A.handled=none)(hi:uE s.heap I D (.int slot 0) i es.size ep)(hS:eU s.heap D es ep t)(hf:t.fits es.size=true)(hn:∀(Q':Option (h9×Nat)->PZ->Prop)(E':PP),Q' none s->P2 (P7 prog w) A.in1 (SU D slot i ep) Q' E' s)(hQ:∀h',Sz I s.heap h'->Q none {s with heap:=h'}):P2 (P7 prog w) A (Ra (.ref I)) Q E s:=by
 have ty:=hi.ty;obtain⟨o,ho,hc,hd⟩:=hi;unfold Ra;refine PU (Q5 (Qq (name:=QC "__next__") ty cm (Qp cm ty iu ?_ (iw _))));show P2 _ _ (fieldsOf (.ref I) >>= _) _ _ s;refine PU (Sb ho hd ?_);show P2 _ _ (Rx D >>= _) _ _ s;unfold Rx;refine PU (PU (iP hS hf (PV ?_)));dsimp only;rw[PD (by simp)];show P2 _ _ (SU D (Int.toNat slot) (Int.toNat i) (Int.toNat ep) >>= _) _ _ s;rw[Wd,Wd,Wd];refine PU (hn _ _ ?_);dsimp only;refine PU (Ru ho hd (by simp) ?_);refine PU ?_;simp only[newExc,newTuple];refine PU (QG ?_ (by size_fits));refine PU (m:=Sf _ _) (Ss (a:=QZ) (by first|rfl|(simp only[Sf];rfl)) ?_)
 refine QG ?_ (by size_fits);simp only[raiseNew];refine PU (wpAny_handled ?_);rw[show A.in1.handled=none from hh];refine PU (PV (wpAny_throw ?_));refine PU (Rl (T:="StopIteration") (b:=true) ⟨_,P5 _ rfl,rfl⟩ Se ?_);exact PV (hQ _ (((QF ..).extBut.push _).push _))
theorem Di{es:Array (Int×h9)}{ps:Array h9}{ep i c k:Nat}{e:Int×h9}{ot:Obj}{Q:Option h9->PZ->Prop}(hi:uE s.heap I D (.ref T) i es.size ep)(hS:eU s.heap D es ep t)(hf:t.fits es.size=true)(hT:s.heap.get? T=some ot)(hTd:ot.data=.seq ps c)(hp:ps[i]? =some (.int k 0))(he:es[k]? =some e)(hQ:∀h',uE h' I D (.ref T) (i+1) es.size ep->QL I s.heap h'->Q (some e.2) {s with heap:=h'}):P2 (P7 prog w) A (Ra (.ref I)) Q E s:=by have ty:=hi.ty;obtain⟨o,ho,hc,hd⟩:=hi;unfold Ra;refine PU (Q5 (Qq (name:=QC "__next__") ty cm (Qp cm ty iu ?_ (iw _))));show P2 _ _ (fieldsOf (.ref I) >>= _) _ _ s;refine PU (Sb ho hd ?_);show P2 _ _ (Rx D >>= _) _ _ s;unfold Rx;refine PU (PU (iP hS hf (PV ?_)));dsimp only;rw[PD (by simp)];show P2 _ _ (seqItems? (.ref T) >>= _) _ _ s;refine PU (QV hT hTd ?_);dsimp only;rw[Wd,hp];dsimp only;rw[Wd,Wd];refine PU (vH hS hf he ?_);obtain⟨o3,ho3,hc3,hd3⟩:=rj (D:=D) (i:=1) (x:=RA ((i:Int)+1)) ho hc hd;exact PU (Ru ho hd (by simp) (PV ⟨_,rfl,PV (hQ _ ⟨o3,ho3,hc3,by rw[hd3];rfl⟩ (QF ..))⟩))
theorem JV(hh:A.handled=none)(hi:uE s.heap I D (.ref T) i es.size ep)(hS:eU s.heap D es ep t)(hf:t.fits es.size=true)(hT:s.heap.get? T=some ot)(hTd:ot.data=.seq ps c)(hp:ps[i]? =none)(hQ:∀h',Sz I s.heap h'->Q none {s with heap:=h'}):P2 (P7 prog w) A (Ra (.ref I)) Q E s:=by
 have ty:=hi.ty;obtain⟨o,ho,hc,hd⟩:=hi;unfold Ra;refine PU (Q5 (Qq (name:=QC "__next__") ty cm (Qp cm ty iu ?_ (iw _))));show P2 _ _ (fieldsOf (.ref I) >>= _) _ _ s;refine PU (Sb ho hd ?_);show P2 _ _ (Rx D >>= _) _ _ s;unfold Rx;refine PU (PU (iP hS hf (PV ?_)));dsimp only;rw[PD (by simp)];show P2 _ _ (seqItems? (.ref T) >>= _) _ _ s;refine PU (QV hT hTd ?_);dsimp only;rw[Wd,hp];dsimp only;refine PU (Ru ho hd (by simp) ?_);obtain⟨o2,ho2,hc2,hd2⟩:=rj (D:=D) (i:=0) (x:=RA 0) ho hc hd;refine PU (Ru ho2 hd2 (by simp) ?_);refine PU ?_;simp only[newExc,newTuple];refine PU (QG ?_ (by size_fits));refine PU (m:=Sf _ _) (Ss (a:=QZ) (by first|rfl|(simp only[Sf];rfl)) ?_)
 refine QG ?_ (by size_fits);simp only[raiseNew];refine PU (wpAny_handled ?_);rw[show A.in1.handled=none from hh];refine PU (PV (wpAny_throw ?_));refine PU (Rl (T:="StopIteration") (b:=true) ⟨_,P5 _ rfl,rfl⟩ Se ?_);exact PV (hQ _ ((((QF ..).trans (QF ..)).extBut.push _).push _))
theorem qe(hi:uE s.heap I D f i n ep)(h:Q (.ref I) s):P2 (P7 prog w) A (pyIter (.ref I)) Q E s:=by refine wpAny_pyIter_slot hi.ty mL (Qp mL hi.ty v3 ?_ (wm _));show P2 _ _ (ret (.ref I)) _ _ s;exact PV ⟨_,rfl,"set_iterator",_,hi.ty,cm.lookup,h⟩
end
def dB(es:Array (Int×h9)):List h9:=es.toList.map (·.2)
structure WS3(prog:P6)(w:P9)(s:PZ)(D:XB)(vs:List h9)(h':Qe)(I:XB):Prop where
 ex:∃(fp:List XB)(St:Nat->Qe->Prop),(∀A':QD,A'.handled=none->Walks prog w A' I fp [I] vs.length (λi v=>vs[i]? =some v) St)/\St 0 h'/\(∀b∈fp,b=D\/s.heap.objs.size<=b)/\I∈fp/\(∀b∈fp,b<h'.objs.size)/\s.heap.objs.size<=I
section
theorem x9(hne:D≠I)(g:SG (!w.params.followText "set-order") es.size t)(hb:w.params.followText "set-order"=false)(hp:t.plain=true\/es.size<=1)(hh:A.handled=none):Walks prog w A I [I,D] [I] (dB es).length (λi v=>(dB es)[i]? =some v) (λi h=>i<=es.size/\uE h I D (.int (slotAt t i:Nat) 0) i es.size ep/\eU h D es ep t) where
 sub:=λb hb=>by
  have:b=I:=by simpa using hb
  simp[this]
 frame:=λi h h' st k=>⟨st.1,st.2.1.keep λo e=>k I (by simp) o e,st.2.2.keep λo e=>k D (by simp) o e⟩
 item:=λi s Q E hi st hQ=>by
  have hl:(dB es).length=es.size:=by simp[dB]
  have hi':i<es.size:=by lia
  have hps:t.place.size=es.size:=by have:=g.fits;unfold Tr at this;rw[Ws]at this;exact beq_iff_eq.mp this.1
  have hv:(dB es)[i]? =some es[i].2:=by unfold dB;rw[Ub,WG,WF hi'];rfl
  refine ub (x:=es[i].2) (next:=slotAt t (i+1)) st.2.1 st.2.2 g.fits (λQ' E' q=>pd st.2.2 g hb hp (j3 g.ris (by lia)) ?_) λh' a b=>?_
  .rw[WF hi',WF (by lia)];have e:slotAt t (i+1)=t.place[i]+1:=by unfold slotAt;rw[PD (V7 i),Nat.add_sub_cancel,bK (by lia)]
   rw[e]at q;exact q
  .exact hQ _ h' s.toks hv ⟨hi',a,st.2.2.keep λo e=>b.extBut D o hne e⟩ λc o hc e=>b.extBut c o (λz=>hc (by simp[z])) e
 done:=λs Q E st hQ=>by
   have hl:(dB es).length=es.size:=by simp[dB]
   have hps:t.place.size=es.size:=by have:=g.fits;unfold Tr at this;rw[Ws]at this;exact beq_iff_eq.mp this.1
   rw[hl]at st;refine xG hh st.2.1 st.2.2 g.fits (λQ' E' q=>pd st.2.2 g hb hp (j3 g.ris (by lia)) ?_) λh' a=>hQ h' s.toks λc o hc e=>a c o (λz=>hc (by simp[z])) e;rw[WH (VO _)];exact q
 self:=λ_ _ _ _ st hQ=>qe st.2.1 hQ
theorem x8(hne:D≠I)(hf:t.fits es.size=true)(hb:w.params.followText "set-order"=true)(hh:A.handled=none):Walks prog w A I [I,D] [I] (dB (RH (w.params.setOrder D ep) es)).length (λi v=>(dB (RH (w.params.setOrder D ep) es))[i]? =some v) (λi h=>uE h I D (.int (0:Nat) 0) i es.size ep/\eU h D es ep t) where
 sub:=λb hb=>by
  have:b=I:=by simpa using hb
  simp[this]
 frame:=λi h h' st k=>⟨st.1.keep λo e=>k I (by simp) o e,st.2.keep λo e=>k D (by simp) o e⟩
 item:=λi s Q E hi st hQ=>by
  have hi':i<(RH (w.params.setOrder D ep) es).size:=by simpa[dB]using hi
  have hv:(dB (RH (w.params.setOrder D ep) es))[i]? =some (RH (w.params.setOrder D ep) es)[i].2:=by unfold dB;rw[Ub,WG,WF hi'];rfl
  refine ub (x:=(RH (w.params.setOrder D ep) es)[i].2) (next:=0) st.1 st.2 hf (λQ' E' q=>pc st.2 hf hb ?_) λh' a b=>?_
  .rw[WF hi'];exact q
  .exact hQ _ h' s.toks hv ⟨a,st.2.keep λo e=>b.extBut D o hne e⟩ λc o hc e=>b.extBut c o (λz=>hc (by simp[z])) e
 done:=λs Q E st hQ=>by refine xG hh st.1 st.2 hf (λQ' E' q=>pc st.2 hf hb ?_) λh' a=>hQ h' s.toks λc o hc e=>a c o (λz=>hc (by simp[z])) e;rw[WH (by simp[dB])];exact q
 self:=λ_ _ _ _ st hQ=>qe st.1 hQ
theorem Co(hne:D≠I)(hT:T≠I)(hf:t.fits es.size=true)(ks:List Nat)(hk:∀k∈ks,k<es.size)(hh:A.handled=none):Walks prog w A I [I,D,T] [I] (ks.map λk=>(es.getD k (0,.none)).2).length (λi v=>(ks.map λk=>(es.getD k (0,.none)).2)[i]? =some v) (λi h=>uE h I D (.ref T) i es.size ep/\eU h D es ep t/\∃ot c,h.get? T=some ot/\ot.data=.seq (ks.map λ(k:Nat)=>Ry k 0).toArray c) where
 sub:=λb hb=>by
  have:b=I:=by simpa using hb
  simp[this]
 frame:=λi h h' st k=>⟨st.1.keep λo e=>k I (by simp) o e,st.2.1.keep λo e=>k D (by simp) o e,let ⟨ot,c,h1,h2⟩:=st.2.2;⟨ot,c,k T (by simp) ot h1,h2⟩⟩
 item:=λi s Q E hi st hQ=>by
  have hi':i<ks.length:=by simpa using hi
  obtain⟨s1,s2,ot,c,h1,h2⟩:=st;have hki:ks[i]<es.size:=hk _ (Uv hi');refine Di (k:=ks[i]) (e:=es[ks[i]]) s1 s2 hf h1 h2 (by simp[hi']) (WF hki) λh' a b=>?_;refine hQ _ h' s.toks ?_ ⟨a,s2.keep λo e=>b.extBut D o hne e,ot,c,b.extBut T ot hT h1,h2⟩ λc o hc e=>b.extBut c o (λz=>hc (by simp[z])) e;rw[Ub,Ua hi'];show some (es.getD ks[i] (0,.none)).2=_;rw[bK hki]
 done:=λs Q E st hQ=>by obtain⟨s1,s2,ot,c,h1,h2⟩:=st;exact JV hh s1 s2 hf h1 h2 (by simp) λh' a=>hQ h' s.toks λc o hc e=>a c o (λz=>hc (by simp[z])) e
 self:=λ_ _ _ _ st hQ=>qe st.1 hQ
end
section
theorem BK:∀(n:Nat)(xs:List α)(s:PZ)(Q:List α->PZ->Prop),xs.length=n->(∀l d,l.Perm xs->Q l {s with drawn:=d})->P2 (P7 prog w) A (drawOrder n xs) Q E s
 |0,xs,s,Q,hn,h=>by have:xs=[]:=Vn.mp hn;subst this;exact PV (h [] s.drawn (List.Perm.refl _))
 |n+1,[],s,Q,hn,h=>by cases hn
 |n+1,x::xs,s,Q,hn,h=>by
  show P2 _ _ (do let i<-choose .order (x::xs).length;_) _ _ s;refine PU ?_;intro Γ p hΓ;unfold choose;rw[Sem.wp_choose];refine⟨V7 _,?_⟩;have hi:(P7 prog w).w.draws Source.order (s.drawn.get Source.order) % (x::xs).length<(x::xs).length:=V5 _ (V6 _);refine(PV (M:=P7 prog w) (A:=A) (E:=E) ?_) Γ p hΓ;rw[Ua hi];dsimp only;refine PU (BK n _ _ _ ?_ λl d hp=>?_)
  .rw[VH hi];lia
  .exact PV (h _ d ((List.Perm.cons _ hp).trans (nE (Ua hi))))
end
section
theorem vn{es:Array (Int×h9)}{l:List Nat}(h:l.Perm (List.range es.size)):(l.map λk=>(es.getD k (0,.none)).2).Perm (dB es):=by
 refine(h.map _).trans (List.Perm.of_eq ?_);unfold dB;apply UM;intro i;have e0:es.toList[i]? =es[i]? :=WG;rw[Ub,Ub,e0]
 by_cases hi:i<es.size
 .rw[UI hi,WF hi];show some (es.getD i (0,.none)).2=some es[i].2;rw[bK hi]
 .rw[Uz (by simpa using hi),WH (by lia)];rfl
theorem Bf(hS:eU s.heap D es ep t)(g:SG (!w.params.followText "set-order") es.size t)(hz:es.size<=fv)(hQ:∀(vs:List h9)(h':Qe)(I:XB) d,vs.Perm (dB es)->WS3 prog w s D vs h' I->(∀b o,s.heap.get? b=some o->h'.get? b=some o)->Q (.ref I) {s with heap:=h',drawn:=d}):P2 (P7 prog w) A (pyIter (.ref D)) Q E s:=by
 have ty:s.TypeIs (.ref D) "set":=let ⟨o,h1,h2,_⟩:=hS;⟨o,h1,h2.1⟩;have hlt:D<s.heap.objs.size:=let ⟨o,h1,_⟩:=hS;PY h1;refine wpAny_pyIter_slot ty F.slot_set_iter (Qp F.slot_set_iter ty uk ?_ (F.args_set_iter_1 _));show P2 _ _ (SF D >>= _) _ _ s;unfold SF Rx;refine PU (PU (PU (iP hS g.fits (PV (PV ?_)))));dsimp only;refine PU ?_;unfold setDrawn;refine PU (iP hS g.fits ?_);dsimp only;refine PU (kK (PV ?_));have fin:∀(first:h9)(h1:Qe)(d:Drawn),(∀b o,s.heap.get? b=some o->h1.get? b=some o)->s.heap.objs.size<=h1.objs.size->(∀I h',uE h' I D first 0 es.size ep->eU h' D es ep t->D<I->s.heap.objs.size<=I->h1.objs.size<=I->I<h'.objs.size->(∀b o,h1.get? b=some o->h'.get? b=some o)->∃vs:List h9,vs.Perm (dB es)/\WS3 prog w s D vs h' I)->
   P2 (P7 prog w) A.in1 (do let n<-setEpoch D;let x<-newFields "set_iterator" [first,RA 0,.ref D,RA es.size,RA n];ret x) (λr s'=>∃v,r=.done (.ret v)/\∃T' r',s'.TypeIs v T'/\RE (.type T') "__next__"=pure (some r')/\Q v s') E {s with heap:=h1,drawn:=d}:=λfirst h1 d k hs f=>by
  have hS1:eU h1 D es ep t:=hS.keep λo e=>k D o e;unfold setEpoch;refine PU (PU (iP hS1 g.fits (PV ?_)));refine PU (QG (PV ?_) (by size_fits));have k2:∀b o,h1.get? b=some o->(h1.push {cls:=.type "set_iterator",data:=.fields #[first,.int 0 0,.ref D,.int es.size 0,.int ep 0]}).get? b=some o:=λb o e=>PX _ e;have hI:uE (h1.push {cls:=.type "set_iterator",data:=.fields #[first,.int 0 0,.ref D,.int es.size 0,.int ep 0]}) h1.objs.size D first 0 es.size ep:=⟨_,P5 _ rfl,rfl,rfl⟩;obtain⟨vs,p,W⟩:=f _ _ hI (hS1.keep λo e=>k2 D o e) (VS hlt hs) hs (VO _) (by rw[QI];exact V1 _) k2;exact⟨_,rfl,"set_iterator",_,⟨_,P5 _ rfl,rfl⟩,cm.lookup,hQ vs _ _ d p W λb o e=>k2 b o (k b o e)⟩
 cases hb:w.params.followText "set-order"with
 |true=>
  rw[PD (by simp)];refine PU (PV (fin _ s.heap s.drawn (λ_ _ e=>e) (VO _) λI h' a b c1 c2 c3 c4 k=>⟨_,(yH (w.params.setOrder D ep) es).map _,⟨[I,D],_,λA' hA=>x8 (VP c1) g.fits hb hA,⟨a,b⟩,?_,by simp,?_,c2⟩⟩))
  .intro x hx;simp only[T8,Uk,or_false]at hx
   rcases hx with rfl|rfl
   .exact .inr c2
   .exact .inl rfl
  .intro x hx;simp only[T8,Uk,or_false]at hx
   rcases hx with rfl|rfl
   .exact c4
   .exact V2 c1 c4
 |false=>
  split
  .rename_i hd;have hd:(!t.plain&&decide (es.size > 1))=true:=hd;refine PU (BK es.size (List.range es.size) s _ (by simp) λl d hp=>?_);refine PU (QG ?_ ?_)
   .refine fin _ _ d (λb o e=>PX _ e) (by rw[QI];exact VT _) λI h' a b c1 c2 c3 c4 k=>⟨_,vn hp,⟨[I,D,s.heap.objs.size],_,λA' hA=>Co (T:=s.heap.objs.size) (VP c1) (VP (VS (by rw[QI];exact V1 _) c3)) g.fits l (λx hx=>by simpa using hp.mem_iff.mp hx) hA,⟨a,b,_,_,k _ _ (P5 _ rfl),rfl⟩,?_,by simp,?_,c2⟩⟩
    .intro x hx;simp only[T8,Uk,or_false]at hx
     rcases hx with rfl|rfl|rfl
     .exact .inr c2
     .exact .inl rfl
     .exact .inr (VO _)
    .intro x hx;simp only[T8,Uk,or_false]at hx
     rcases hx with rfl|rfl|rfl
     .exact c4
     .exact V2 c1 c4
     .exact Nat.lt_of_le_of_lt c2 c4
   .have:=hp.length_eq;simp only[UH]at this;simp[sizeOk,this,hz]
  .rename_i hd;have hd:¬(!t.plain&&decide (es.size > 1))=true:=hd;have hp:t.plain=true\/es.size<=1:=by
    cases e:t.plain with
    |true=>exact .inl rfl
    |false=>
     right
     rw[e]at hd;simp at hd;lia
   refine PU (PV (fin _ s.heap s.drawn (λ_ _ e=>e) (VO _) λI h' a b c1 c2 c3 c4 k=>⟨_,List.Perm.refl _,⟨[I,D],_,λA' hA=>x9 (VP c1) g hb hp hA,⟨VQ _,a,b⟩,?_,by simp,?_,c2⟩⟩))
   .intro x hx;simp only[T8,Uk,or_false]at hx
    rcases hx with rfl|rfl
    .exact .inr c2
    .exact .inl rfl
   .intro x hx;simp only[T8,Uk,or_false]at hx
    rcases hx with rfl|rfl
    .exact c4
    .exact V2 c1 c4
end
theorem vN:RE (.type "set") "__len__"=pure (some (.builtin "set.__len__")):=by rw[Rc,QH];kernel_rfl
section
theorem Bh(ty:s.TypeIs (.ref D) "set")(q:Q false s):P2 (P7 prog w) A (Rt (.ref D)) Q E s:=by
 unfold Rt;refine PU (Rp ty vN ?_);generalize hx:("set.__len__":String)=x0
 wp_delta
 rw[show splitId x0=some ("set","__len__")from by subst hx;decide+kernel];subst hx;refine PU (Rl (T:="set") (b:=true) ty (by rw[Sd];kernel_rfl) ?_);refine SZ (λz=>PK z (by decide)) (λ_=>SZ (λ_=>?_) (λz=>PK (by decide+kernel) z));exact PU (Re ty (PV q))
abbrev lL:Obj:={cls:=.type "list",data:=.seq ([]:List h9).toArray}
theorem ur(hh:A.handled=none)(hS:eU s.heap D es ep t)(g:SG (!w.params.followText "set-order") es.size t)(hz:es.size<=fv)(q:∀(vs:List h9)(h':Qe) d tk,vs.Perm (dB es)->(∀b o,s.heap.get? b=some o->h'.get? b=some o)->s.heap.objs.size<h'.objs.size->s.toks<=tk->Q vs {s with heap:=h',drawn:=d,toks:=tk}):P2 (P7 prog w) A (TY (.ref D)) Q E s:=by
 have hlt:D<s.heap.objs.size:=let ⟨o,h1,_⟩:=hS;PY h1;unfold TY;refine PU (R8 (Qn Td ?_));rw[Qi Tc _];show P2 _ A.in1 (newList [] >>= λl=>again (.builtin "list.__iadd__" ⟨[l,.ref D],[]⟩)) _ _ s;refine PU (QG (PV ⟨Q6 RQ _,Qn F.entry_list_iadd ?_⟩));rw[Qi RQ _];have kp:∀b o,s.heap.get? b=some o->(s.heap.push lL).get? b=some o:=λb o e=>PX _ e;have hS1:eU (s.heap.push lL) D es ep t:=hS.keep λo e=>kp D o e;have ty1:RV {s with heap:=s.heap.push lL} (.ref D) "set":=let ⟨o,h1,h2,_⟩:=hS1;⟨o,h1,h2.1⟩;have gL:(s.heap.push lL).get? s.heap.objs.size=some lL:=P5 _ rfl;show P2 _ A.in1 (Q4 (.ref s.heap.objs.size) (.ref D) (.ref s.heap.objs.size)) _ _ _;unfold Q4;refine PU (Re ty1 ?_);have n1:QK (.ref s.heap.objs.size) (.ref D)=false:=by simp[QK,VU hlt]
 rw[PD (by rw[n1];decide)];refine PU (Bf (s:={s with heap:=s.heap.push lL}) hS1 g hz λvs h' I d hp W k=>?_);obtain⟨fp,St,W,st,f1,f2,f3,f4⟩:=W.ex;have hvl:vs.length<=fv:=by
  have:=hp.length_eq;have e:(dB es).length=es.size:=by simp[dB]
  lia
 have nS:s.heap.objs.size∉fp:=λz=>by
  rcases f1 _ z with e|e
  .exact VU hlt e
  .have e:(s.heap.push lL).objs.size<=s.heap.objs.size:=e;rw[QI]at e;exact VV _ e
 have ty2:RV {s with heap:=h',drawn:=d} (.ref D) "set":=let ⟨o,h1,h2,_⟩:=hS1;⟨o,k _ _ h1,h2.1⟩;refine PU (Qa (Bh ty2 ?_));have gL2:=k _ _ gL;refine SZ (λ_=>?_) (λz=>PK (by decide+kernel) z);refine PU (wpAny_rule (PU ?_));show P2 _ _ (updateSeq s.heap.objs.size (·.push .none) >>= λ_=>updateSeq s.heap.objs.size (·.pop)) _ _ _;refine PU (SY gL2 rfl ?_);have gL3:=Q9 (QE (·.push QZ)) gL2 rfl;refine SY (hz:=by seq_fits) gL3 rfl ?_;have gL4:=Q9 (QE (·.pop)) gL3 rfl;have oth:∀b o,b≠s.heap.objs.size->h'.get? b=some o->((h'.update s.heap.objs.size (QE (·.push QZ))).update s.heap.objs.size (QE (·.pop))).get? b=some o:=
  λb o hb e=>(Q3 _ _ (Ne.symm hb)).trans ((Q3 _ _ (Ne.symm hb)).trans e)
 refine PV ⟨Q6 F.plain_extend_loop _,codeAny_extend_loopS (A:=A) (W A.in1 hh).toS hvl _ nS _ vs.length 0 _ _ _ rfl (VQ _) ((W A.in1 hh).frame 0 _ _ st λb hb o e=>oth b o (λz=>nS (z▸hb)) e) gL4 (ItemsOf.nil _) λs2 acc c hm gA hacc=>?_⟩;show P2 _ A (load s.heap.objs.size >>= _) _ _ s2;refine PU (wpAny_load gA ?_);have ea:acc.toList=vs:=by
  apply UM;intro i;rw[WG]
  by_cases hi:i<acc.size
  .have:=hacc.2 i acc[i] (WF hi);rw[WF hi,this]
  .rw[WH (by lia),Uz (by have:=hacc.1;lia)]
 refine PV ?_;rw[ea];obtain⟨h2,g2,d2,t2,o2⟩:=s2;obtain rfl:g2=s.gens:=hm.gens;obtain rfl:d2=d:=hm.drawn;obtain rfl:o2=s.os:=hm.os;refine q vs _ _ _ hp (λb o e=>?_) (PY gA) ?_
 .have hb:b≠s.heap.objs.size:=VP (PY e);refine hm.heap b o (λz=>?_) (oth b o hb (k b o (kp b o e)))
  rcases T8.mp z with z|z
  .exact hb z
  .have z:b=I:=Ud.mp z;have e2:(s.heap.push lL).objs.size<=I:=f4;rw[QI]at e2;exact PK (PY e) (by rw[z];exact Nat.not_lt.mpr (Nat.le_of_succ_le e2))
 .exact hm.toks
end
section
variable [DecidableEq κ]
theorem eU.put(x:eU h D es ep t)(es':Array (Int×h9))(t':SetTable):eU (h.update D (SX es' t')) D es' (ep+1) t':=by obtain⟨o,ho,hx,hd⟩:=x;have e:=Q9 (SX es' t') ho (by rw[putSet_of es' t' hd];rfl);rw[putSet_of es' t' hd]at e;exact⟨_,e,hx,rfl⟩
theorem Ay(x:eU s.heap D es ep t)(hz:es'.size<scanBound)(q:Q () {s with heap:=s.heap.update D (SX es' t')}):P2 (P7 prog w) A (storeSet D es' t') Q E s:=by obtain⟨o,ho,_,hd⟩:=x;exact wpAny_storeSet_of ho hd q (fits_of_scanBound hz)
end
section
theorem o4(hk:Qm (intKind prog w) s.heap k a)(h:Q false s):P2 (P7 prog w) A (Sv 8 (.ref a)) Q E s:=by
 have hT:=hk.typeIs;obtain⟨o,items,n,ho,_,hd,hi⟩:=hk;unfold Sv;refine PU (Re hT ?_);dsimp only;rw[PF (by decide)];refine PU (PV ?_);simp only[Wv,Wt,if_false];refine PU (QV ho hd ?_);dsimp only;refine PU ?_;rw[<-WK];refine SJ _ (λrest r s'=>r.1=none/\s'=s/\∀v∈rest,carriedByValue v=true) _ ?_ ?_ _ _ ⟨rfl,rfl,hi.byValue⟩
 .rintro v rest r s' ⟨hr,rfl,hall⟩;have hv:=hall v Ui;have e:Sv 7 v=pure false:=by
   cases v<;>first|rfl|(simp[carriedByValue]at hv)
  rw[e];refine PU (PV ?_);simp only[Wt,if_false];exact PV ⟨rfl,rfl,λu hu'=>hall u (Ue _ hu')⟩
 .rintro⟨r1,r2⟩ s' ⟨hr,rfl,_⟩;simp only at hr;subst hr;exact PV h
def El(prog:P6)(w:P9)(m:XB->Prop)(h:Qe)(k:List Int)(e:Int×h9):Prop:= ∃a,m a/\e=(tupleKeyHash (intKind prog w) k,.ref a)/\Qm (intKind prog w) h k a
theorem IB(hx:Qm (intKind prog w) s.heap k x)(hy:∀y∈ys,∃ki a,y=.ref a/\Qm (intKind prog w) s.heap ki a)(h:Q false s):P2 (P7 prog w) A (searchCouldBeSeen (.ref x) ys) Q E s:=by
 unfold searchCouldBeSeen;refine PU ?_;refine SJ _ (λrest r s'=>r.1=none/\s'=s/\∀v∈rest,∃ki a,v=.ref a/\Qm (intKind prog w) s.heap ki a) _ ?_ ?_ _ _ ⟨rfl,rfl,hy⟩
 .rintro v rest r s' ⟨hr,rfl,hall⟩;obtain⟨ki,a,rfl,ha⟩:=hall v Ui;dsimp only;split
  .exact PV ⟨rfl,rfl,λu hu'=>hall u (Ue _ hu')⟩
  .refine PU (S8 hx ?_);simp only[Wv,Wt,if_false];refine PU (S8 ha ?_);simp only[Wv,Wt,if_false];refine PU (o4 hx ?_);simp only[Wt,if_false];refine PU (o4 ha ?_);simp only[Wt,if_false];exact PV ⟨rfl,rfl,λu hu'=>hall u (Ue _ hu')⟩
 .rintro⟨r1,r2⟩ s' ⟨hr,rfl,_⟩;simp only at hr;subst hr;exact PV h
theorem El.inj(x:El prog w m h k e)(y:El prog w m h k' e):k=k':=by obtain⟨a,_,rfl,h1⟩:=x;obtain⟨b,_,e2,h2⟩:=y;injection e2 with _ e3;injection e3 with e4;subst e4;exact h1.inj h2
theorem iQ(eh:h=tupleKeyHash (intKind prog w) k)(hS:eU s.heap D es ep t)(g:uK es t)(hes:∀i,i<es.size->∃ki,El prog w m s.heap ki (es.getD i (0,.none)))(hx:Qm (intKind prog w) s.heap k x)(hu:A.units<QT)(he:t.slot (sl t.mask h N 0)=.empty)(hN:N<=t.mask+13)(q1:∀i,i<es.size->El prog w m s.heap k (es.getD i (0,.none))->Q (.there none) s)(q2:(∀i,i<es.size->¬El prog w m s.heap k (es.getD i (0,.none)))->∀n c,kP t.mask h n c->t.slot (sl t.mask h n c)=.empty->(∀a b,kP t.mask h a b->iK a b n c->¬t.slot (sl t.mask h a b)=.empty)->Q (.free (sl t.mask h n c) false) s):∀(f n c:Nat)(stand:Option RO),wq t.mask h n c (stand.getD (t.probeStart h))->(stand.getD (t.probeStart h)).dummy=none->(n<N\/(n=N/\c=0))->(∀a b,kP t.mask h a b->iK a b n c->∃i,t.slot (sl t.mask h a b)=.live i/\¬El prog w m s.heap k (es.getD i (0,.none)))->10*(N - n)+1<=f+c->P2 (P7 prog w) A (To D (.ref x) h true f stand) Q E s
 |0,n,c,stand,a,hd,hn,hv,hf=>by have:=mT t.mask (lp t.mask h n).1;have:=a.ok;unfold kP at this;lia
 |f+1,n,c,stand,a,hd,hn,hv,hf=>by
  have hgw:t.gaveWay=false:=by unfold SetTable.gaveWay;have:=g.odd;simp;lia
  have c9:c<=9:=by have h1:=mT t.mask (lp t.mask h n).1;have h2:=a.ok;unfold kP at h2;lia
  have live_ix:∀{j i},t.slot j=.live i->i<es.size:=λ{j i} e=>by rw[<-g.ps];exact((kZ g.ris).mp e).1
  unfold To;refine PU (iP hS g.fits ?_);dsimp only;rw[hgw,PD Wr];have fin:∀(hashAt:Nat->Int),(∀i,hashAt i=(es[i]?.map (·.1)).getD 0)->∃n' c' p',wq t.mask h n' c' p'/\(n'<N\/(n'=N/\c'=0))/\(iK n c n' c'\/(n=n'/\c=c'))/\(∀a b,kP t.mask h a b->(iK n c a b\/(n=a/\c=b))->iK a b n' c'->∃i,t.slot (sl t.mask h a b)=.live i/\¬hashAt i=h)/\
   ((t.slot (sl t.mask h n' c')=.empty/\t.probe hashAt h (stand.getD (t.probeStart h))=some (.empty (sl t.mask h n' c') none))\/
    (∃i,t.slot (sl t.mask h n' c')=.live i/\hashAt i=h/\t.probe hashAt h (stand.getD (t.probeStart h))=some (.candidate (sl t.mask h n' c') i (t.advance p'))/\n'<N/\p'.dummy=none)):=λhashAt _=>by
   obtain⟨n',c',p',b1,b2,b3,b4,b5⟩:=rA g.nd hashAt he (10*Q8 t.mask) n c _ a hn (by unfold Q8;lia);rw[hd]at b5;exact⟨n',c',p',b1,b2,b3,b4,b5⟩
  split
  .rename_i met hm;obtain⟨hashAt,hha,hm⟩:∃fh:Nat->Int,(∀i,fh i=(es[i]?.map (·.1)).getD 0)/\t.probe fh h (stand.getD (t.probeStart h))=some met:=⟨_,λi=>rfl,hm⟩;obtain⟨n',c',p',b1,b2,b3,b4,b5⟩:=fin hashAt hha;have hv':∀a b,kP t.mask h a b->iK a b n' c'->∃i,t.slot (sl t.mask h a b)=.live i/\¬El prog w m s.heap k (es.getD i (0,.none)):=λa b o l=>by
    by_cases l2:iK a b n c
    .exact hv a b o l2
    .obtain⟨i,h1,h2⟩:=b4 a b o (by unfold iK at *;lia) l;refine⟨i,h1,λ⟨y,_,e,_⟩=>h2 ?_⟩;have hi:=live_ix h1;rw[hha i,WF hi];rw[bK hi]at e;rw[e,eh];rfl
   rcases b5 with⟨e1,e2⟩|⟨i,e1,e2,e3,e4,e5⟩
   .rw[e2]at hm;injection hm with hm;subst hm;dsimp only;refine PV (q2 (λi hi hE=>?_) n' c' b1.ok e1 λa b o l z=>?_)
    .obtain⟨n0,c0,o0,e0,hb⟩:=g.pl i hi;have hh:(es.getD i (0,.none)).1=h:=by obtain⟨y,_,e,_⟩:=hE;rw[e,eh]
     rw[hh]at o0 e0 hb;have hsl:t.slot (t.place.getD i 0)=.live i:=(kZ g.ris).mpr ⟨by rw[g.ps];exact hi,rfl⟩
     by_cases l1:iK n0 c0 n' c'
     .obtain⟨j,z1,z2⟩:=hv' n0 c0 o0 l1;rw[e0,hsl]at z1;injection z1 with z1;subst z1;exact z2 hE
     .by_cases l2:iK n' c' n0 c0
      .exact hb n' c' b1.ok l2 e1
      .have:n0=n'/\c0=c':=by unfold iK at *;lia
       obtain⟨rfl,rfl⟩:=this;rw[e0,hsl]at e1;cases e1
    .obtain⟨i,z1,_⟩:=hv' a b o l;rw[z1]at z;cases z
   .rw[e3]at hm;injection hm with hm;subst hm;have hi:=live_ix e1;obtain⟨ki,y,my,ey,hy⟩:=hes i hi;have eg:es[i]? =some (tupleKeyHash (intKind prog w) ki,P8 y):=by rw[WF hi,<-bK hi,ey]
    have hsm:t.sameMemory t.moves t.mask=some true:=by unfold SetTable.sameMemory;rw[PF (by simp)]
    have hmo:∀n2 c2,kP t.mask h n2 c2->iK n' c' n2 c2\/(n'=n2/\c'=c2)\/iK n2 c2 n' c':=λn2 c2 _=>by unfold iK;lia
    have again:¬ki=k->P2 (P7 prog w) A (To D (.ref x) h true f (some (t.advance p'))) Q E s:=λne=>by
     have hd':(t.advance p').dummy=none:=by unfold RU;split<;>exact e5
     have hvn:∀n2 c2,(∀a b,kP t.mask h a b->iK a b n2 c2->iK a b n' c'\/(a=n'/\b=c'))->∀a b,kP t.mask h a b->iK a b n2 c2->∃i,t.slot (sl t.mask h a b)=.live i/\¬El prog w m s.heap k (es.getD i (0,.none)):=λn2 c2 z a b o l=>by
      rcases z a b o l with q|⟨rfl,rfl⟩
      .exact hv' a b o q
      .exact⟨i,e1,λq=>ne (El.inj ⟨y,my,ey,hy⟩ q)⟩
     by_cases hm:0<p'.more
     .refine iQ eh hS g hes hx hu he hN q1 q2 f n' (c'+1) (some (t.advance p')) (b1.more hm) hd' (.inl e4) (hvn _ _ λa b o l=>by unfold iK at *;lia) ?_;unfold iK at b3;lia
     .have hck:=b1.2.2.2;have hc9:=mT t.mask (lp t.mask h n').1;refine iQ eh hS g hes hx hu he hN q1 q2 f (n'+1) 0 (some (t.advance p')) (b1.leap hm) hd' (by lia) (hvn _ _ λa b o l=>?_) ?_
      .unfold kP at o;unfold iK at*
       by_cases e2:a=n'
       .subst e2;lia
       .lia
      .have:=b1.ok;unfold kP at this;unfold iK at b3;lia
    dsimp only;rw[eg];dsimp only;split
    .refine PU (IB hx (λv hv2=>?_) ?_)
     .rw[T9]at hv2;obtain⟨e,he2,rfl⟩:=hv2;rw[Array.toList_filter,UA]at he2;obtain⟨r,hr,rfl⟩:=UR he2.1;have hr2:r<es.size:=by simpa using hr
      obtain⟨kr,z,_,ez,hz⟩:=hes r hr2;rw[bK hr2]at ez;exact⟨kr,z,by rw[WP,ez],hz⟩
     .rw[PD Wr];refine PU (Qa (wpAny_eqBool_tuple hu hy hx (PU (iP hS g.fits ?_))));dsimp only
      by_cases ek:ki=k
      .rw[Pz ek,PF (by decide)];subst ek;exact PV (q1 i hi ⟨y,my,ey,hy⟩)
      .rw[PB ek,PD (by simp),hsm];dsimp only;rw[PF rfl,e1];dsimp only;rw[eg];dsimp only;refine PU ?_;unfold isSame;dsimp only;rw[PF (by simp)];refine PV ?_;rw[PF rfl];refine PU (PV ?_);dsimp only;rw[PD Wr];exact again ek
    .refine PU (Qa (wpAny_eqBool_tuple hu hy hx (PU (iP hS g.fits ?_))));dsimp only
     by_cases ek:ki=k
     .rw[Pz ek,PF (by decide)];subst ek;exact PV (q1 i hi ⟨y,my,ey,hy⟩)
     .rw[PB ek,PD (by simp),hsm];dsimp only;rw[PF rfl,e1];dsimp only;rw[eg];dsimp only;refine PU ?_;unfold isSame;dsimp only;rw[PF (by simp)];refine PV ?_;rw[PF rfl];refine PU (PV ?_);dsimp only;rw[PD Wr];exact again ek
  .rename_i hm;exfalso;obtain⟨hashAt,hha,hm⟩:∃fh:Nat->Int,(∀i,fh i=(es[i]?.map (·.1)).getD 0)/\∀met,t.probe fh h (stand.getD (t.probeStart h))=some met->False:=⟨_,λi=>rfl,hm⟩;obtain⟨n',c',p',b1,b2,b3,b4,b5⟩:=fin hashAt hha
   rcases b5 with⟨e1,e2⟩|⟨i,e1,e2,e3,_⟩
   .exact hm _ e2
   .exact hm _ e3
end
section
theorem Bj(hk:Qm (intKind prog w) s.heap k a)(h:∀b,Q b s):P2 (P7 prog w) A (hashByValue 8 (.ref a)) Q E s:=by
 have hT:=hk.typeIs;obtain⟨o,items,n,ho,_,hd,hi⟩:=hk;unfold hashByValue;refine PU (Rp hT F.slot_tuple_hash.lookup ?_);dsimp only;refine PU (QV ho hd ?_);refine PU ?_;show P2 _ _ (forIn items _ _) _ _ s;rw[<-WK];refine SJ _ (λrest r s'=>s'=s/\∀v∈rest,carriedByValue v=true) _ ?_ ?_ _ _ ⟨rfl,hi.byValue⟩
 .rintro v rest r s' ⟨rfl,hall⟩;have hv:=hall v Ui;have e:∃b,hashByValue 7 v=pure b:=by
   cases v<;>first|exact⟨_,rfl⟩|(simp[carriedByValue]at hv)
  obtain⟨b,e⟩:=e;rw[e];refine PU (PV ?_);split
  .exact PV (PV (h _))
  .exact PV ⟨rfl,λu hu'=>hall u (Ue _ hu')⟩
 .rintro⟨r1,r2⟩ s' ⟨rfl,_⟩;cases r1 with
  |none=>exact PV (h _)
  |some b=>exact PV (h _)
theorem TK.same(x:Qm (intKind prog w) h k a)(hS:eU h D es ep t)(b:QL D h h'):Qm (intKind prog w) h' k a:=by
 obtain⟨o,items,n,ho,hc,hd,hi⟩:=x;obtain⟨o',ho',hx',hd'⟩:=hS;have hne:a≠D:=by rintro rfl;obtain rfl:o=o':=PL (ho.symm.trans ho');rw[hd]at hd';exact nomatch hd'
 exact⟨o,items,n,(b.2 a hne).trans ho,hc,hd,hi⟩
theorem El.same(x:El prog w m h k e)(hS:eU h D es ep t)(b:QL D h h'):El prog w m h' k e:=let ⟨a,h0,h1,h2⟩:=x;⟨a,h0,h1,TK.same h2 hS b⟩
def Rm(mask n:Nat):Prop:=(mask=7\/mask=31\/mask=127\/mask=511)/\n*5<mask*3
structure ST(prog:P6)(w:P9)(m:XB->Prop)(h:Qe)(es:Array (Int×h9))(t:SetTable):Prop where
 el:∀e∈es.toList,∃k,El prog w m h k e
 nd:es.toList.Pairwise λe e'=>∀k,El prog w m h k e->¬El prog w m h k e'
 tg:uK es t
 led:t.led= !w.params.followText "set-order"
 rm:Rm t.mask es.size
def je(prog:P6)(w:P9)(m:XB->Prop)(h:Qe)(D:XB)(S:List Int->Bool)(n:Nat):Prop:= ∃es ep t,eU h D es ep t/\ST prog w m h es t/\(∀k,S k=true<->∃e∈es.toList,El prog w m h k e)/\es.size=n
theorem CF(r:Rm mask n):lD (mask+1):=by
 obtain⟨rfl|rfl|rfl|rfl,_⟩:=r
 .exact HM
 .exact JO
 .exact Dr
 .exact Dq
theorem uK.off(g:uK es t)(b:Bool):uK es {t with plain:=b}:=⟨g.ps,g.ris,g.nd,g.full,g.odd,g.fit,g.pl⟩
theorem NW(hx:Qm (intKind prog w) s.heap k x)(hxm:m x)(hu:A.units<QT)(hS:je prog w m s.heap D S n)(hr:n+1<307)(q:∀h',QL D s.heap h'->je prog w m h' D (λk'=>S k'||decide (k'=k)) (if S k then n else n+1)->Q (!S k) {s with heap:=h'}):P2 (P7 prog w) A (setAddHashed D (.ref x) (tupleKeyHash (intKind prog w) k)) Q E s:=by
 obtain⟨es,ep,t,o1,st,hm,rfl⟩:=hS;have g:=st.tg;unfold setAddHashed setAddHashedIn;refine Qa (PU (iP o1 g.fits ?_));dsimp only;have hbs:byScan (.ref x) es=false:=rfl;rw[hbs,PD Wr];refine PU ?_;unfold setSearch;obtain⟨e0,he0,hee⟩:=zh g.ris g.nd g.fit;obtain⟨N,hN,eN⟩:=xi g.full (tupleKeyHash (intKind prog w) k) he0;have hb:t.mask<=511:=by obtain⟨h1,_⟩:=st.rm;lia
 refine iQ (m:=m) (N:=N) rfl o1 g (λi hi=>?_) hx hu ?_ hN (λi hi hE=>?_) (λhno n' c' ok em before=>?_) 100000 0 0 none wq.start rfl ?_ (λa b _ l=>?_) ?_
 .refine st.el _ ?_;rw[bK hi];simp
 .show t.slot ((lp t.mask _ N).1+0)=_;rw[Nat.add_zero,eN];exact hee
 .dsimp only;have hs:S k=true:=(hm k).mpr ⟨_,by rw[bK hi];simp,hE⟩;refine PV ?_;have z:=q s.heap (Sy D s.heap) ⟨es,ep,t,o1,st,λk'=>?_,by rw[hs];rfl⟩
  .rw[hs]at z;exact z
  .rw[Wy,decide_eq_true_eq,<-hm k'];exact⟨λy=>y.elim id (λe=>e▸hs),.inl⟩
 .dsimp only;have hs:S k=false:=by
   cases y:S k with
   |false=>rfl
   |true=>
    obtain⟨e,a1,a2⟩:=(hm k).mp y;obtain⟨i,hi,rfl⟩:=UR a1;have hi2:i<es.size:=by simpa using hi
    exact PK (by rw[bK hi2];simpa using a2) (hno i hi2)
  have hroom:es.size+1<=t.mask:=by obtain⟨h1,h2⟩:=st.rm;lia
  have g1:=g.put (x:=.ref x) ok em before hroom;refine PU (iP o1 g.fits ?_);dsimp only;have hled:(t.put (sl t.mask (tupleKeyHash (intKind prog w) k) n' c')).1.led=t.led:=rfl;have hmask:(t.put (sl t.mask (tupleKeyHash (intKind prog w) k) n' c')).1.mask=t.mask:=rfl;have p1:=RM es (t.put (sl t.mask (tupleKeyHash (intKind prog w) k) n' c')).2 (tupleKeyHash (intKind prog w) k,P8 x);generalize t.put (sl t.mask (tupleKeyHash (intKind prog w) k) n' c')=P at g1 hled hmask p1 ⊢;obtain⟨t1,p⟩:=P;dsimp only at g1 hled hmask p1 ⊢;generalize Qo es p (tupleKeyHash (intKind prog w) k,P8 x)=es1 at g1 p1 ⊢;rw[WM]at p1;have hz1:es1.size=es.size+1:=by have:=p1.length_eq;simpa using this
  have hex:El prog w m s.heap k (tupleKeyHash (intKind prog w) k,P8 x):=⟨x,hxm,rfl,hx⟩;have el1:∀e∈es1.toList,∃k,El prog w m s.heap k e:=λe he=>by
   rcases Ul.mp (p1.mem_iff.mp he)with y|y
   .exact st.el e y
   .rw[Ud]at y;subst y;exact⟨k,hex⟩
  have nd1:es1.toList.Pairwise λe e'=>∀k,El prog w m s.heap k e->¬El prog w m s.heap k e':=by refine(p1.pairwise_iff (λ{e e'} z k h1 h2=>z k h2 h1)).mpr (VF.mpr ⟨st.nd,VJ ..,λe he e' he' k' h1 h2=>?_⟩);rw[Ud]at he';subst he';obtain rfl:=h2.inj hex;have:=(hm k').mpr ⟨e,he,h1⟩;rw[hs]at this;cases this
  have hm1:∀k',(S k'||decide (k'=k))=true<->∃e∈es1.toList,El prog w m s.heap k' e:=λk'=>by
   rw[Wy,decide_eq_true_eq,hm k']
   constructor
   .rintro(⟨e,a1,a2⟩|rfl)
    .exact⟨e,p1.mem_iff.mpr (UJ _ a1),a2⟩
    .exact⟨_,p1.mem_iff.mpr (Ur _ (Ud.mpr rfl)),hex⟩
   .rintro⟨e,a1,a2⟩
    rcases Ul.mp (p1.mem_iff.mp a1)with y|y
    .exact .inl ⟨e,y,a2⟩
    .rw[Ud]at y;subst y;exact .inr (a2.inj hex)
  have back:∀{h':Qe},QL D s.heap h'->∀{k' e},e∈es1.toList->El prog w m h' k' e->El prog w m s.heap k' e:=λ{h'} b{k' e} he z=>by obtain⟨k2,y⟩:=el1 e he;obtain rfl:=z.inj (y.same o1 b);exact y
  have out:∀{h':Qe}{es':Array (Int×h9)}{ep':Nat}{t':SetTable},QL D s.heap h'->eU h' D es' ep' t'->es'.toList.Perm es1.toList->uK es' t'->t'.led=t.led->Rm t'.mask es'.size->Q true {s with heap:=h'}:=λ{h' es' ep' t'} b o' pp g' l' r'=>by
   have z:=q h' b ⟨es',ep',t',o',⟨λe he=>?_,?_,g',l'.trans st.led,r'⟩,λk'=>?_,?_⟩
   .rw[hs]at z;exact z
   .obtain⟨k2,y⟩:=el1 e (pp.mem_iff.mp he);exact⟨k2,y.same o1 b⟩
   .refine(pp.pairwise_iff (λ{e e'} z k h1 h2=>z k h2 h1)).mpr ?_;refine nd1.imp_of_mem ?_;intro e e' he he' z k' h1 h2;exact z k' (back b he h1) (back b he' h2)
   .rw[hm1 k']
    constructor
    .rintro⟨e,a1,a2⟩;exact⟨e,pp.mem_iff.mpr a1,a2.same o1 b⟩
    .rintro⟨e,a1,a2⟩;have a3:=pp.mem_iff.mp a1;exact⟨e,a3,back b a3 a2⟩
   .rw[hs];have:=pp.length_eq;simp only[WI]at this;rw[this,hz1];rfl
  have hsb:es1.size<scanBound:=by unfold scanBound;lia
  have fin:∀t2,uK es1 t2->t2.led=t.led->t2.mask=t.mask->P2 (P7 prog w) A (do
    storeSet D es1 t2
    if(!false&&t2.tooFull)=true then do
     setRelay D (Sj (es.size+1))
     pure true
    else pure true) Q E s:=λt2 g2 l2 m2=>by
   refine PU (Ay o1 hsb ?_);have o2:=o1.put es1 t2;have b2:=QF s.heap D (SX es1 t2);have hfill:t2.fill=es.size+1:=by unfold SetTable.fill;rw[g2.nd,g2.ps,hz1];rfl
   split
   .rename_i hfull;have hfull:t2.tooFull=true:=by simpa using hfull
    unfold SetTable.tooFull at hfull;rw[hfill,m2]at hfull;have hfull:t.mask*3<=(es.size+1)*5:=by simpa using hfull
    have hsz:(t.mask=7/\es.size+1=5)\/(t.mask=31/\es.size+1=19)\/(t.mask=127/\es.size+1=77):=by obtain⟨h1,h2⟩:=st.rm;lia
    have hw:∃M,QU (Sj (es.size+1))=M+1/\Rm M (es.size+1):=by
     rcases hsz with⟨_,e⟩|⟨_,e⟩|⟨_,e⟩
     .rw[e];exact⟨31,by decide,by unfold Rm;lia⟩
     .rw[e];exact⟨127,by decide,by unfold Rm;lia⟩
     .rw[e];exact⟨511,by decide,by unfold Rm;lia⟩
    obtain⟨M,hM,hRm⟩:=hw;have hM1:QU (Sj (es.size+1)) - 1=M:=by lia
    obtain⟨t3,order,r1,r2,r3,r4,r5,r6⟩:=yu (es:=es1) (t:=t2) (wanted:=Sj (es.size+1)) (by rw[hM1];exact CF hRm) (by rw[hM1];obtain⟨h1,_⟩:=hRm;lia) (by rw[hM1,hz1];obtain⟨h1,h2⟩:=hRm;lia);refine PU ?_;unfold setRelay;refine PU (iP o2 g2.fits ?_);dsimp only;rw[PD (by rw[hM];obtain⟨h1,_⟩:=hRm;unfold fv;lia),r1];refine PU ?_;show P2 _ _ (if((order.filterMap (es1[·]?)).size != es1.size)=true then _ else pure (order.filterMap (es1[·]?),t3)) _ _ _;rw[PD (by rw[r2];simp)];refine PV (Ay o2 (by rw[r2];exact hsb) (PV ?_));exact out (b2.trans (QF _ D (SX _ t3))) (o2.put _ t3) r3 r4 (r5.trans l2) (by rw[r6,hM1,r2,hz1];exact hRm)
   .rename_i hfull;have hfull:t2.tooFull=false:=by simpa using hfull
    unfold SetTable.tooFull at hfull;rw[hfill,m2]at hfull;have hfull:(es.size+1)*5<t.mask*3:=by simpa using hfull
    refine PV (out b2 o2 (List.Perm.refl _) g2 l2 ?_);rw[m2,hz1];exact⟨st.rm.1,hfull⟩
  split
  .refine PU (Bj hx λbv=>?_);cases bv with
   |true=>exact fin t1 g1 hled hmask
   |false=>exact fin _ (g1.off false) hled hmask
  .exact PU (PV (fin t1 g1 hled hmask))
 .lia
 .unfold iK at l;lia
 .lia
theorem El.low(x:El prog w m h k e)(kp:∀b o,m b->h.get? b=some o->h'.get? b=some o):El prog w m h' k e:=let ⟨a,h0,h1,o,items,n,ho,r⟩:=x;⟨a,h0,h1,o,items,n,kp a o h0 ho,r⟩
theorem je.low(x:je prog w m h D S n)(kd:∀o,h.get? D=some o->h'.get? D=some o)(kp:∀b o,m b->h.get? b=some o->h'.get? b=some o):je prog w m h' D S n:=by
 obtain⟨es,ep,t,o1,st,hm,e⟩:=x;have back:∀{k' e},e∈es.toList->El prog w m h' k' e->El prog w m h k' e:=λ{k' e} he z=>by obtain⟨k2,y⟩:=st.el e he;obtain rfl:=z.inj (y.low kp);exact y
 refine⟨es,ep,t,o1.keep kd,⟨λe he=>let ⟨k,y⟩:=st.el e he;⟨k,y.low kp⟩,?_,st.tg,st.led,st.rm⟩,λk=>?_,e⟩
 .refine st.nd.imp_of_mem ?_;intro e e' he he' z k' h1 h2;exact z k' (back he h1) (back he' h2)
 .rw[hm k];exact⟨λ⟨e,a1,a2⟩=>⟨e,a1,a2.low kp⟩,λ⟨e,a1,a2⟩=>⟨e,a1,back a1 a2⟩⟩
theorem je.congr(x:je prog w m h D S n)(e1:∀k,S k=S' k)(e2:n=n'):je prog w m h D S' n':=by obtain rfl:S=S':=funext e1;subst e2;exact x
end
end L2
namespace L2
open PySem PySem.Spec PyProof.Rows
section
variable [DecidableEq κ]
theorem yj(a:h9)(q:Q1 (.ref s.heap.objs.size) {s with heap:=s.heap.push (cu (!w.params.followText "set-order"))}):Rr (P7 prog w) A (.call (.builtin "set.__new__") ⟨[.type "set",a],[]⟩) (wants Q1 E) s:=by
 refine S0 ?_;show P2 _ A.in1 (do SN "set.__new__" ⟨[.type "set",a],[]⟩;again _) _ _ s;refine PU (Ss (F.newCall_set_1 a) (PV ⟨Q6 F.plain_set_new _,Qn F.entry_set_new ?_⟩));rw[Qi F.plain_set_new _];unfold Builtin.«set.__new__» Builtin.Frozenset.newClass;have hsub:=sub_set_self;obtain⟨hp,g,d,tk,os⟩:=s;dsimp only
 wp_walk
 refine SK (PV ?_);dsimp only;simp only[newObj];refine PU (wpAny_alloc (PV (PV q)))
end
section
variable{prog:P6}{w:P9}{A:QD}{R:Result->PZ->Prop}{I:XB}{fp wr:List XB}{G:Array RY->Array RY->Prop}{n:Nat}{Pt:Nat->h9->Prop}{St:Nat->PZ->Prop}
theorem yl(W:WalksS prog w A.in1 I fp wr G n Pt St)(D:XB)(hD:D∉fp)(hDm:¬m D)(hwr:∀b∈wr,¬m b)(hu:A.units+1<QT)(val:Nat->List Int)(hv:∀i v,Pt i v->∃a,v=.ref a/\m a/\Qm (intKind prog w) h0 (val i) a)(hb:n+1<307):∀(k i:Nat)(s:PZ),n - i=k->i<=n->St i s->(∀b o,m b->h0.get? b=some o->s.heap.get? b=some o)->je prog w m s.heap D (λx=>decide (x∈bW val i)) (bW val i).length->(∀s2,Moved (D::wr) G s s2->je prog w m s2.heap D (λx=>decide (x∈bW val n)) (bW val n).length->R (.ok (.ret .none)) s2)->Rr (P7 prog w) A (.builtin "set.update.loop" ⟨[.ref D,.ref I],[]⟩) R s:=by
 have nW:D∉wr:=λz=>hD (W.sub _ z);have up:∀b∈wr,b∈D::wr:=λb z=>Ue _ z;have mv:∀{s s2:PZ}{S:List Int->Bool}{r:Nat},Moved wr G s s2->je prog w m s.heap D S r->je prog w m s2.heap D S r:=λhm x=>x.low (λo e=>hm.heap D _ nW e) λb o hb e=>hm.heap b _ (λz=>hwr b z hb) e;intro k
 induction k with
 |zero=>
  intro i s e1 e2 st kp hS hR;have e3:i=n:=by lia
  subst e3;refine Qn Rn ?_;rw[Qi QN _];show P2 _ A.in1 (Ra (.ref I) >>= _) _ _ s;refine PU (W.done s _ _ st λs2 hm=>?_);show P2 _ A.in1 (ret QZ) _ _ s2;exact PV (hR s2 (hm.mono up) (mv hm hS))
 |succ k ih=>
  intro i s e1 e2 st kp hS hR;have e3:i<n:=by lia
  refine Qn Rn ?_;rw[Qi QN _];show P2 _ A.in1 (Ra (.ref I) >>= _) _ _ s;refine PU (W.item i s _ _ e3 st λv s2 hp st2 hm=>?_);obtain⟨a,rfl,ha,ka⟩:=hv i v hp;have kp2:∀b o,m b->h0.get? b=some o->s2.heap.get? b=some o:=λb o hb e=>hm.heap b _ (λz=>hwr b z hb) (kp b o hb e);have ka2:Qm (intKind prog w) s2.heap (val i) a:=let ⟨o,items,r,ho,rr⟩:=ka;⟨o,items,r,kp2 a o ha ho,rr⟩;have hS2:=mv hm hS;show P2 _ A.in1 (Sw [.ref a] (setAdd D (.ref a)) >>= _) _ _ s2;refine PU (Qa ?_);unfold setAdd;refine Qa (PU (wpAny_pyHash_tuple hu ka2 ?_));have room:(bW val i).length+1<307:=by have:=kj val i;lia
  refine NW (m:=m) (s:={s2 with toks:=s2.toks+((val i).length+1)}) ka2 ha hu hS2 room λh2 sb hS3=>?_;have hS4:je prog w m h2 D (λx=>decide (x∈bW val (i+1))) (bW val (i+1)).length:=by
   refine hS3.congr (λx=>?_) ?_
   .show(decide (x∈bW val i)||decide (x=val i))=decide (x∈v5 (bW val i) (val i))
    unfold v5
    by_cases m:val i∈bW val i
    .rw[PF m]
     by_cases e:x=val i
     .subst e;rw[Pz m];simp
     .rw[PB e,Wx]
    .rw[PD m,Wu];simp
   .show(if decide (val i∈bW val i)=true then _ else _)=(v5 (bW val i) (val i)).length;unfold v5
    by_cases m:val i∈bW val i
    .rw[PF (Pz m),PF m]
    .rw[PD (by rw[PB m];decide),PD m,Uj];rfl
  refine PV ⟨Q6 QN _,ih (i+1) _ (by lia) e3 (W.frame _ s2 _ _ st2 (VW _ _) λb hb o e=>?_) (λb o hb e=>?_) hS4 λs3 hm3 hS5=>?_⟩
  .exact(sb.2 b (λz:b=D=>hD (z▸hb))).trans e
  .exact(sb.2 b (λz:b=D=>hDm (z▸hb))).trans (kp2 b o hb e)
  .refine hR s3 (Moved.trans W.gtrans ((hm.mono up).then_heap (VW _ _) λb o hb e=>?_) hm3) hS5;exact(sb.2 b (λz:b=D=>hb (by rw[z];exact Ui))).trans e
end
section
variable{prog:P6}{w:P9}{A:QD}{E:PP}{s:PZ}
theorem yk(M:XB->Prop)(val:Nat->List Int)(hh:A.handled=none)(hl:s.heap.IsList l its)(hu:A.units+4<QT)(hv:∀i v,its[i]? =some v->∃a,v=.ref a/\M a/\Qm (intKind prog w) s.heap (val i) a)(hM:∀a,M a->a<s.heap.objs.size)(hb:its.size+1<307)(k:∀(h2:Qe)(tk:Nat),je prog w M h2 s.heap.objs.size (λx=>decide (x∈bW val its.size)) (bW val its.size).length->(∀b o,b<s.heap.objs.size->s.heap.get? b=some o->h2.get? b=some o)->Q (.ref s.heap.objs.size) {s with heap:=h2,toks:=tk}):P2 (P7 prog w) A (call (.type "set") [.ref l]) Q E s:=by
 obtain⟨c0,tl0,hmro⟩:=F.called_set.mro;have hmade:=F.called_set.made;have hsub:=F.called_set.sub;have n1:=F.called_set.notType;have n2:=F.called_set.canCreate;have n3:=F.typeCall_set_1 (.ref l);refine Rv (S0 ?_);show P2 _ _ (callAny (.type "set") _) _ _ _;refine PV ⟨Sl _ (by decide+kernel),Qn F.entry_type_call ?_⟩;rw[Around.under_plain (S9 "set" [.ref l] []) rfl]
 repeat (any_goals (first|assumption|wp_step))
 refine QP (yj (.ref l) (E:=E) (Q1:=λo s1=>o=.ref s.heap.objs.size/\s1={s with heap:=s.heap.push (cu (!w.params.followText "set-order"))}) ⟨rfl,rfl⟩) λr s1 hr=>?_;cases r with
 |error e=>exact hr
 |ok fl=>
  cases fl with
  |ret ob=>
   obtain⟨rfl,rfl⟩:=hr;generalize hld:(!w.params.followText "set-order")=led;have g0:(s.heap.push (cu led)).get? s.heap.objs.size=some (cu led):=P5 _ rfl;have ty:RV {s with heap:=s.heap.push (cu led)} (.ref s.heap.objs.size) "set":=⟨_,g0,rfl⟩;have m1:=F.called_set.init.lookup;have m2:=F.called_set.init.bind (.ref s.heap.objs.size)
   repeat (any_goals (first|assumption|wp_step))
   refine QP (Rh (R:=wants (λr s2=>r=.none/\∃h2 tk,s2={s with heap:=h2,toks:=tk}/\je prog w M h2 s.heap.objs.size (λx=>decide (x∈bW val its.size)) (bW val its.size).length/\
     (∀b o,b<s.heap.objs.size->s.heap.get? b=some o->h2.get? b=some o)) E) F.called_set.init.plain F.entry_set_init (check_set_init_1 ty ?_)) λr2 s2 hr2=>?_
   .obtain⟨⟨oc,od,oda,osl⟩,ho,hc,nl,hd⟩:=hl;simp only at hc hd;subst hc;subst hd;have hol:(s.heap.push (cu led)).get? l=some {cls:=.type "list",dict:=od,data:=.seq its nl,slots:=osl}:=PX _ ho;have b1:=F.sub_list_set;have b2:=F.sub_list_frozenset;have b3:(Si "list" == Si "dict")=false:=by decide
    have hl1:(s.heap.push (cu led)).IsList l its:=⟨_,hol,rfl,nl,rfl⟩;unfold Builtin.«set.__init__» noKeywords R4;generalize hPI:pyIter=PI
    wp_walk
    subst hPI;refine Rf hl1 (PU (R8 ?_));have hlt:l<s.heap.objs.size:=PY ho;have h3:A.in1.in1.in1.handled=none:=by simp[hh]
    have sz:(s.heap.push (cu led)).objs.size=s.heap.objs.size+1:=QI ..;have ne1:l≠(s.heap.push (cu led)).objs.size:=by rw[sz];exact VP (VZ hlt)
    have ne2:s.heap.objs.size∉[(s.heap.push (cu led)).objs.size,l]:=by
     rw[sz];intro z
     rcases T8.mp z with z|z
     .exact V3 _ z.symm
     .exact VU hlt (Ud.mp z)
    refine yl (m:=M) (h0:=s.heap) ((Tu h3 _ l ne1 its).toS) s.heap.objs.size ne2 (λz=>VV _ (hM _ z)) (λb hb z=>by rw[Ud.mp hb,sz]at z;exact PK (hM _ z) (Nat.not_lt.mpr (VT _))) (by show A.units+1+1+1<QT;lia) val (λi v hp=>?_) hb (its.size - 0) 0 _ (by lia) (VQ _) ⟨⟨_,P5 _ rfl,rfl,rfl⟩,(hl1.push _)⟩ (λb o _ e=>PX _ (PX _ e)) ?_ (λs3 hm hS3=>?_)
    .exact hv i v hp
    .refine⟨#[],0,.fresh 0 0 led,⟨_,PX _ g0,⟨rfl,rfl,rfl⟩,rfl⟩,⟨λe he=>by simp at he,List.Pairwise.nil,uK.fresh,by rw[hld];rfl,⟨.inl rfl,by show 0*5<7*3;decide⟩⟩,λx=>?_,rfl⟩;show decide (x∈([]:List (List Int)))=true<->_;simp
    .obtain⟨hh3,gg3,dd3,tk3,os3⟩:=s3;obtain rfl:gg3=s.gens:=hm.gens;obtain rfl:dd3=s.drawn:=hm.drawn;obtain rfl:os3=s.os:=hm.os;show P2 _ _ _ _ _ _;refine PV ?_;show P2 _ _ (ret QZ) _ _ _;refine PV ⟨rfl,hh3,tk3,rfl,hS3,λb o hb2 e=>?_⟩;refine hm.heap b o ?_ (PX _ (PX _ e));rw[sz];intro z
     rcases T8.mp z with z|z
     .exact VP hb2 z
     .exact VP (VZ hb2) (Ud.mp z)
   .cases r2 with
    |error e=>exact hr2
    |ok fl2=>
     cases fl2 with
     |ret r3=>
      obtain⟨rfl,h2,tk,rfl,hS2,kp⟩:=hr2
      repeat (any_goals (first|assumption|wp_step))
      exact k _ _ hS2 kp
     |_=>exact hr2.elim
  |_=>exact hr.elim
end
end L2
namespace L2
open PySem PySem.W PyProof.Rows
structure NY(n:Nat)(lt:Nat->Nat->Bool):Prop where
 tr:∀a b c,a<n->b<n->c<n->lt a b=true->lt b c=true->lt a c=true
 as:∀a b,a<n->b<n->lt a b=true->lt b a=false
 tt:∀a b,a<n->b<n->a≠b->lt a b=false->lt b a=true
abbrev gp(p:Array Nat)(i:Nat):Nat:=p.getD i 0
structure PR(n:Nat)(p:Array Nat):Prop where
 sz:p.size=n
 lo:∀i,i<n->gp p i<n
 nd:∀i j,i<n->j<n->gp p i=gp p j->i=j
theorem pD(p:Array Nat)(i:Nat):gp p i=(p[i]?).getD 0:=by unfold gp;simp[Array.getD_eq_getD_getElem?]
theorem PR.of(h:p.toList.Perm (List.range n)):PR n p:=by
 have hs:p.size=n:=by have:=h.length_eq;simpa using this
 have hn:p.toList.Nodup:=h.nodup_iff.mpr Vc;have at_:∀i(hi:i<n),gp p i=p.toList[i]'(by simpa[hs]using hi):=λi hi=>by
  have:i<p.size:=by lia
  simp[gp,this]
 refine⟨hs,λi hi=>?_,λi j hi hj e=>?_⟩
 .rw[at_ i hi];exact Uh.mp (h.mem_iff.mp (Uv _))
 .rw[at_ i hi,at_ j hj]at e;have hw:=Vd.mp hn
  rcases V4 i j with z|z|z
  .exact PK e (hw i j _ _ z)
  .exact z
  .exact PK e.symm (hw j i _ _ z)
def Up(lt:Nat->Nat->Bool)(p:Array Nat)(k:Nat):Prop:= ∀i j,i<j->j<k->lt (gp p i) (gp p j)=true
def Dn(lt:Nat->Nat->Bool)(p:Array Nat)(k:Nat):Prop:= ∀i j,i<j->j<k->lt (gp p j) (gp p i)=true
section
variable{n:Nat}{lt:Nat->Nat->Bool}{s:PZ}{cmp:Nat->Nat->(Bool->PZ->Prop)->PZ->Prop}(O:NY n lt)(hc:∀i j(C:Bool->PZ->Prop),i<n->j<n->C (lt i j) s->cmp i j C s)
include O hc
theorem B6(P:PR n p):∀(f a:Nat){Q:Nat->PZ->Prop},1<=a->a+f<=n->Up lt p a->(∀m,a<=m->m<=a+f->Up lt p m->(m=a+f\/lt (gp p m) (gp p (m - 1))=true)->Q m s)->(kas_asc p f a).kasWp cmp Q s
 |0,a,Q,_,_,u,q=>q a (VO _) (VO _) u (.inl rfl)
 |f+1,a,Q,h1,h2,u,q=>by
  refine hc _ _ _ (P.lo a (by lia)) (P.lo (a - 1) (by lia)) ?_;cases e:lt (p.getD a 0) (p.getD (a - 1) 0)with
  |true=>exact q a (VO _) (by lia) u (.inr e)
  |false=>
   refine B6 P f (a+1) (by lia) (by lia) ?_ λm m1 m2 m3 m4=>q m (by lia) (by lia) m3 (m4.imp (λz=>by lia) id);have e2:lt (gp p (a - 1)) (gp p a)=true:=O.tt _ _ (P.lo a (by lia)) (P.lo (a - 1) (by lia)) (λz=>by have:=P.nd a (a - 1) (by lia) (by lia) z;lia) e;intro i j hij hj
   by_cases ej:j=a
   .subst ej
    by_cases ei:i=j - 1
    .subst ei;exact e2
    .exact O.tr _ _ _ (P.lo i (by lia)) (P.lo (j - 1) (by lia)) (P.lo j (by lia)) (u i (j - 1) (by lia) (by lia)) e2
   .exact u i j hij (by lia)
theorem BL(P:PR n p):∀(f a:Nat){Q:Array Nat×Nat×Nat->PZ->Prop},1<=a->a+f<=n->Dn lt p a->(∀m,a<=m->m<=a+f->Dn lt p m->Q (p,m,0) s)->(kas_desc f p a 0).kasWp cmp Q s
 |0,a,Q,_,_,u,q=>q a (VO _) (VO _) u
 |f+1,a,Q,h1,h2,u,q=>by
  refine hc _ _ _ (P.lo a (by lia)) (P.lo (a - 1) (by lia)) ?_;cases e:lt (p.getD a 0) (p.getD (a - 1) 0)with
  |true=>
   show(kas_desc f p (a+1) 0).kasWp cmp Q s;refine BL P f (a+1) (by lia) (by lia) ?_ λm m1 m2 m3=>q m (by lia) (by lia) m3;intro i j hij hj
   by_cases ej:j=a
   .subst ej
    by_cases ei:i=j - 1
    .subst ei;exact e
    .exact O.tr _ _ _ (P.lo j (by lia)) (P.lo (j - 1) (by lia)) (P.lo i (by lia)) e (u i (j - 1) (by lia) (by lia))
   .exact u i j hij (by lia)
  |false=>
   have e2:lt (p.getD (a - 1) 0) (p.getD a 0)=true:=O.tt _ _ (P.lo a (by lia)) (P.lo (a - 1) (by lia)) (λz=>by have:=P.nd a (a - 1) (by lia) (by lia) z;lia) e;show KasT.kasWp cmp (KasT.ask _ _ _) Q s;refine hc _ _ _ (P.lo (a - 1) (by lia)) (P.lo a (by lia)) ?_;rw[e2];exact q a (VO _) (by lia) u
theorem qJ(P:PR n p)(hk:k<n)(u:Up lt p k):∀(f l r:Nat){Q:Nat->PZ->Prop},l<=r->r<=k->r - l<=f->(∀i,i<l->lt (gp p i) (gp p k)=true)->(∀i,r<=i->i<k->lt (gp p k) (gp p i)=true)->(∀m,m<=k->(∀i,i<m->lt (gp p i) (gp p k)=true)->(∀i,m<=i->i<k->lt (gp p k) (gp p i)=true)->Q m s)->(TV p k f l r).kasWp cmp Q s
 |0,l,r,Q,h1,h2,h3,a,b,q=>by
  have:l=r:=by lia
  subst this;exact q l h2 a b
 |f+1,l,r,Q,h1,h2,h3,a,b,q=>by
  unfold TV
  by_cases hlr:l≥r
  .rw[PF hlr];have:l=r:=by lia
   subst this;exact q l h2 a b
  .rw[PD hlr];refine hc _ _ _ (P.lo k hk) (P.lo ((l+r) / 2) (by lia)) ?_;cases e:lt (p.getD k 0) (p.getD ((l+r) / 2) 0)with
   |true=>
    show(TV p k f l ((l+r) / 2)).kasWp cmp Q s;refine qJ P hk u f l ((l+r) / 2) (by lia) (by lia) (by lia) a (λi i1 i2=>?_) q
    by_cases ei:i=(l+r) / 2
    .subst ei;exact e
    .exact O.tr _ _ _ (P.lo k hk) (P.lo ((l+r) / 2) (by lia)) (P.lo i (by lia)) e (u _ _ (by lia) i2)
   |false=>
    show(TV p k f ((l+r) / 2+1) r).kasWp cmp Q s;have e2:lt (gp p ((l+r) / 2)) (gp p k)=true:=O.tt _ _ (P.lo k hk) (P.lo ((l+r) / 2) (by lia)) (λz=>by have:=P.nd k ((l+r) / 2) hk (by lia) z;lia) e;refine qJ P hk u f ((l+r) / 2+1) r (by lia) h2 (by lia) (λi i1=>?_) b q
    by_cases ei:i=(l+r) / 2
    .subst ei;exact e2
    .exact O.tr _ _ _ (P.lo i (by lia)) (P.lo ((l+r) / 2) (by lia)) (P.lo k hk) (u _ _ (by lia) (by lia)) e2
omit O hc in
theorem AH{p q:Array Nat}{n:Nat}(h:p.toList.Perm (List.range n))(e:q.Perm p):q.toList.Perm (List.range n):=(Array.perm_iff_toList_perm.mp e).trans h
theorem HY:∀(f k:Nat)(p:Array Nat){Q:Array Nat->PZ->Prop},p.toList.Perm (List.range n)->1<=k->k+f=n->Up lt p k->(∀p',p'.toList.Perm (List.range n)->Up lt p' n->Q p' s)->(kas_bin f p k).kasWp cmp Q s
 |0,k,p,Q,hp,h1,h2,u,q=>q p hp (by rw[<-h2];exact u)
 |f+1,k,p,Q,hp,h1,h2,u,q=>by
  have P:=PR.of hp;unfold kas_bin;rw[RD];refine qJ O hc P (by lia) u k 0 k (VQ _) (VO _) (by lia) (λi z=>PK z (Nat.not_lt_zero _)) (λi z1 z2=>by lia) λm hm a b=>?_;refine HY f (k+1) _ (AH hp (bubble_perm _ _ _)) (by lia) (by lia) ?_ q;have ge:∀i,gp (bubble p k (k - m)) i=if i=m then gp p k else if m<i/\i<=k then gp p (i - 1)else gp p i:=λi=>by
   rw[pD,getElem?_bubble (by rw[P.sz];lia) (k - m) (by lia) i,show k - (k - m)=m by lia];split
   .rw[pD]
   .split<;>rw[pD]
  intro i j hij hj;rw[ge,ge]
  by_cases e1:i=m
  .rw[PF e1]
   by_cases e2:j=m
   .lia
   .rw[PD e2,PF (by lia)];exact b (j - 1) (by lia) (by lia)
  .rw[PD e1]
   by_cases e2:j=m
   .rw[PF e2,PD (by lia)];exact a i (by lia)
   .rw[PD e2]
    by_cases e3:m<i/\i<=k
    .rw[PF e3,PF (by lia)];exact u (i - 1) (j - 1) (by lia) (by lia)
    .rw[PD e3]
     by_cases e4:m<j/\j<=k
     .rw[PF e4];exact u i (j - 1) (by lia) (by lia)
     .rw[PD e4];exact u i j hij (by lia)
theorem JX(hp:p.toList.Perm (List.range n))(h2:2<=n)(hd:lt (gp p 1) (gp p 0)=true)(q:∀m p',p'.toList.Perm (List.range n)->1<=m->m<=n->Up lt p' m->Q (m,p') s):(kas_descPart 1 n p).kasWp cmp Q s:=by
 have P:=PR.of hp;unfold kas_descPart;rw[RD];refine BL O hc P (n - (1+1)) (1+1) (by lia) (by lia) (λi j hij hj=>?_) λm m1 m2 m3=>?_
 .have e1:i=0:=by lia
  have e2:j=1:=by lia
  subst e1;subst e2;exact hd
 .show(kas_tail3 m n p).kasWp cmp Q s;unfold kas_tail3;rw[RD];have hp2:(kas_rev p 0 m).toList.Perm (List.range n):=AH hp (mirror_perm _ _ _ _);have ge:∀i,gp (kas_rev p 0 m) i=if i<m then gp p (m - 1 - i)else gp p i:=λi=>by
   unfold kas_rev;rw[pD,getElem?_mirror_all (by rw[P.sz];lia)]
   by_cases e:i<m
   .rw[PF ⟨VQ _,e⟩,PF e,pD,VX]
   .rw[PD (λz=>e z.2),PD e,pD]
  refine B6 O hc (PR.of hp2) (n - m) m (by lia) (by lia) (λi j hij hj=>?_) λr r1 r2 r3 _=>q r _ hp2 (by lia) (by lia) r3;rw[ge,ge,PF (by lia),PF hj];exact m3 _ _ (by lia) (by lia)
theorem Iw(h2:2<=n)(q:∀p,p.toList.Perm (List.range n)->Up lt p n->Q p s):(kas_sort n).kasWp cmp Q s:=by
 have hp:(List.toArray (List.range n)).toList.Perm (List.range n):=List.Perm.refl _;have P:=PR.of hp;unfold kas_sort kas_count;rw[RD,RD];have fin:∀m p',p'.toList.Perm (List.range n)->1<=m->m<=n->Up lt p' m->KasT.kasWp cmp (if m<n then kas_bin (n - max m 1) p' (max m 1)else KasT.ret p') Q s:=λm p' hp' m1 m2 u=>by
  by_cases e:m<n
  .rw[PF e,show max m 1=m by lia];exact HY O hc (n - m) m p' hp' m1 (by lia) u q
  .rw[PD e];have:m=n:=by lia
   subst this;exact q p' hp' u
 refine B6 O hc P (n - 1) 1 (VO _) (by lia) (λi j hij hj=>by lia) λm m1 m2 m3 m4=>?_
 by_cases e:m=n
 .rw[PF (by simp[e])];exact fin m _ hp m1 (by lia) m3
 .rw[PD (by simp[e])]
  by_cases e1:m > 1
  .rw[PF e1];refine hc _ _ _ (P.lo 0 (by lia)) (P.lo (m - 1) (by lia)) ?_;have:lt ((List.toArray (List.range n)).getD 0 0) ((List.toArray (List.range n)).getD (m - 1) 0)=true:=m3 0 (m - 1) (by lia) (by lia);rw[this];exact fin m _ hp m1 (by lia) m3
  .rw[PD e1];have:m=1:=by lia
   subst this;refine JX O hc hp h2 (by rcases m4 with z|z;exact PK z (by lia);exact z) λm p' a b c d=>fin m p' a b c d
end
end L2
namespace L2
open PySem PySem.W PySem.Calls PyProof.Rows
def dM:List Int->List Int->Bool
 | [],[]=>false
 | [],_::_=>true
 |_::_,[]=>false
 |a::x,b::y=>if a=b then dM x y else decide (a<b)
theorem ko:∀x,dM x x=false
 | []=>rfl
 |a::x=>by unfold dM;rw[PF rfl];exact ko x
theorem xk:∀x y,x≠y->dM x y=false->dM y x=true
 | [],[],h,_=>PK rfl h
 | [],_::_,_,e=>by cases e
 |_::_,[],_,_=>rfl
 |a::x,b::y,h,e=>by
  unfold dM at e ⊢
  by_cases ab:a=b
  .subst ab;rw[PF rfl]at e ⊢;exact xk x y (λz=>h (by rw[z])) e
  .rw[PD ab]at e;rw[PD (Ne.symm ab)];have:=PJ e;exact Pz (by lia)
theorem rh:∀x y,dM x y=true->dM y x=false
 | [],[],e=>by cases e
 | [],_::_,_=>rfl
 |_::_,[],e=>by cases e
 |a::x,b::y,e=>by
  unfold dM at e ⊢
  by_cases ab:a=b
  .subst ab;rw[PF rfl]at e ⊢;exact rh x y e
  .rw[PD ab]at e;rw[PD (Ne.symm ab)];have:=PH e;exact PB (by lia)
theorem xl:∀x y z,dM x y=true->dM y z=true->dM x z=true
 | [],[],_,e,_=>by cases e
 | [],_::_,[],_,e=>by cases e
 | [],_::_,_::_,_,_=>rfl
 |_::_,[],_,e,_=>by cases e
 |_::_,_::_,[],_,e=>by cases e
 |a::x,b::y,c::z,e,f=>by
  unfold dM at e f ⊢
  by_cases ab:a=b
  .subst ab;rw[PF rfl]at e
   by_cases ac:a=c
   .subst ac;rw[PF rfl]at f ⊢;exact xl x y z e f
   .rw[PD ac]at f ⊢;exact f
  .rw[PD ab]at e;have e:=PH e
   by_cases bc:b=c
   .subst bc;rw[PD ab];exact Pz e
   .rw[PD bc]at f;have f:=PH f;rw[PD (by lia)];exact Pz (by lia)
section
theorem HF:∀(x y:List Int)(us vs:List h9)(i:Nat),ItemsAre (intKind prog w) x us->ItemsAre (intKind prog w) y vs->(x.length<y.length<->fin=true)->Q (dM x y) s->KatLex prog w A true fin Q (us.zip vs) i s
 | [],[],_,_,i,.nil,.nil,hf,q=>by
   refine kat_nil ?_;have:fin=false:=by cases fin with|false=>rfl|true=>exact PK (hf.mpr rfl) (by simp)
   rw[this];exact q
 | [],_::_,_,_,i,.nil,.cons _ _,hf,q=>by refine kat_nil ?_;rw[hf.mp (by simp)];exact q
 |_::_,[],_,_,i,.cons _ _,.nil,hf,q=>by
  show KatLex prog w A true fin Q [] i s;refine kat_nil ?_;have:fin=false:=by cases fin with|false=>rfl|true=>exact PK (hf.mpr rfl) (by simp)
  rw[this];exact q
 |a::x,b::y,u::us,v::vs,i,.cons h1 t1,.cons h2 t2,hf,q=>by
  obtain⟨t,rfl⟩:∃t,u=.int a t:=by cases u<;>simp[intKind,Sx]at h1;exact⟨_,by rw[h1]⟩
  obtain⟨t',rfl⟩:∃t',v=.int b t':=by cases v<;>simp[intKind,Sx]at h2;exact⟨_,by rw[h2]⟩
  show KatLex prog w A true fin Q ((Ry a t,Ry b t')::us.zip vs) i s;refine kat_cons (wpAny_eqBool_int ?_);unfold dM at q
  by_cases ab:a=b
  .subst ab;rw[PF rfl]at q;rw[show(a == a)=true by simp];exact kat_yes (HF x y us vs (i+1) t1 t2 (by simpa using hf) q)
  .rw[PD ab]at q;rw[show(a == b)=false by simp[ab]];refine kat_no ?_
   by_cases hi:i=0
   .subst hi;exact oneLt_int q
   .have:(true&&i == 0)=false:=by simp[hi]
    rw[this];exact kat_one _ _ (PyProof.Rows.lt_int q)
theorem Nb(hx:Qm (intKind prog w) s.heap kx x)(hy:Qm (intKind prog w) s.heap ky y)(q:Q (dM kx ky) s):P2 (P7 prog w) A (keyLt' (tuples' true) (.ref x) (.ref y)) Q E s:=by obtain⟨ox,xs,n,h1,_,h2,h3⟩:=hx;obtain⟨oy,ys,k,h4,_,h5,h6⟩:=hy;refine kat_lt h1 h2 h4 h5 (HF kx ky _ _ 0 h3 h6 ?_ q);rw[h3.length,h6.length];simp
theorem vM{B:Qe}{m:PN}{vs:List h9}{ks:List (List Int)}{n:Nat}(F:Fr B L s.heap m)(ho:s.heap.get? a=some (seqObj "list" vs.toArray n))(haL:a≠L)(ha0:B.get? a=none)(hl:ks.length=vs.length)(hv:∀i,i<vs.length->∃x,vs.getD i .none=.ref x/\x≠L/\x≠a/\Qm (intKind prog w) s.heap (ks.getD i []) x/\ks.getD i []≠[])(nd:ks.Nodup)(h2:2<=vs.length)(h64:vs.length<64)(h:∀(p:Array Nat)(h':Qe)(c:Nat),p.toList.Perm (List.range vs.length)->(∀i j,i<j->j<vs.length->dM (ks.getD (gp p i) []) (ks.getD (gp p j) [])=true)->Fr B L h' m->(∀b o,b≠L->b≠a->s.heap.get? b=some o->h'.get? b=some o)->
   h'.get? a=some (seqObj "list" (p.toList.map λi=>vs.getD i .none).toArray c)->P (.done (.ret .none)) {s with heap:=h'}):P2 (P7 prog w) A (Builtin.«list.sort» ⟨[.ref a],[]⟩) P E s:=by
 have N:News B L s.heap (rest B s.heap L a):=λp hp=>C8 haL ha0 ho p (Ue _ hp);refine kat_list_sort F N ho haL ha0 rest_ne h2 h64 λe1 h' F' N'=>?_;have kp:∀b o,b≠L->b≠a->s.heap.get? b=some o->h'.get? b=some o:=ku F.keep F' λp hp=>N' p (Ue _ hp);have key:∀i,i<vs.length->∃x,vs.getD i .none=.ref x/\Qm (intKind prog w) h' (ks.getD i []) x/\ks.getD i []≠[]:=λi hi=>by obtain⟨x,e1,e2,e3,⟨o,items,r,e4,e5⟩,e6⟩:=hv i hi;exact⟨x,e1,⟨o,items,r,kp x o e2 e3 e4,e5⟩,e6⟩
 have hkk:∀i j,i<vs.length->j<vs.length->ks.getD i []=ks.getD j []->i=j:=λi j hi hj e=>by rw[Ug,Ug,Ua (by lia),Ua (by lia)]at e;exact(Vg nd).mp (by simpa using e)
 have O:NY vs.length λi j=>dM (ks.getD i []) (ks.getD j []):=⟨λx y z _ _ _ h1 h2=>xl _ _ _ h1 h2,λx y _ _ h1=>rh _ _ h1,λx y hx hy ne h1=>xk _ _ (λe=>ne (hkk x y hx hy e)) h1⟩;obtain⟨fs,tp,fl,fi⟩:∃fs,KatTups h' vs fs/\fs.length=vs.length/\∀f∈fs,∃n t,f=Ry n t:=by
  have go:∀(us:List h9)(f:Nat->List Int),(∀i,i<us.length->∃x,us.getD i .none=.ref x/\Qm (intKind prog w) h' (f i) x/\f i≠[])->∃fs,KatTups h' us fs/\fs.length=us.length/\∀f∈fs,∃n t,f=Ry n t:=by
   intro us
   induction us with
   |nil=>exact λf _=>⟨[],.nil,rfl,λf z=>nomatch z⟩
   |cons u us ih=>
    intro f hf;obtain⟨fs,t1,t2,t3⟩:=ih (λi=>f (i+1)) λi hi=>hf (i+1) (by simpa using hi);obtain⟨x,e1,⟨o,items,r,e4,e5,e6,e7⟩,e8⟩:=hf 0 (by simp);have e1:u=.ref x:=e1;subst e1;generalize f 0=kk at e7 e8;generalize hit:items.toList=its at e7;cases e7 with
    |nil=>exact PK rfl e8
    | @cons k v ks' vs' h1 h2=>
      obtain⟨t,rfl⟩:∃t,v=.int k t:=by cases v<;>simp[intKind,Sx]at h1;exact⟨_,by rw[h1]⟩
      refine⟨.int k t::fs,KatTups.cons e4 e5 e6 ?_ t1,by simp[t2],λf z=>?_⟩
      .rw[<-WG,hit];rfl
      .rcases T8.mp z with rfl|z
       .exact⟨k,t,rfl⟩
       .exact t3 f z
  exact go vs (λi=>ks.getD i []) key
 refine kat_kind (T:=.type "int") tp (by lia) (λf hf=>?_) (by decide) ?_
 .obtain⟨k,t,rfl⟩:=fi f hf;exact Looks.of_pure rfl
 .show(kas_sort vs.length).kasWp (kas_ask prog w A (tuples' true) vs) _ _;refine Iw O (λi j C hi hj hC=>?_) h2 λp hp up=>?_
  .obtain⟨x,e1,kx,_⟩:=key i hi;obtain⟨y,e2,ky,_⟩:=key j hj;unfold kas_ask;rw[e1,e2];exact Nb (s:={s with heap:=h'}) kx ky hC
  .refine KasFin.intro F' N' (UpdF.head rest_ne) λh'' c F'' N''=>?_;exact h p h'' c hp up F'' (ku F.keep F'' λq hq=>N'' q (Ue _ hq)) (N'' _ (.head _)).1
end
end L2
namespace L2
open PySem PySem.Spec PyProof.Rows
inductive Ko(K:Frag)(H:Hp):V->V->Bool->Prop
 |rr {a b:XB} {k:Bool} (h:wu K H 20 (.ref a) (.ref b) k):Ko K H (.ref a) (.ref b) k
 |nr {a:XB} {xs:List V} (h:aO K H a xs\/da K H a xs):Ko K H .non (.ref a) false
 |rn {a:XB} {xs:List V} (h:aO K H a xs\/da K H a xs):Ko K H (.ref a) .non false
 |nn:Ko K H .non .non true
def Pc(K:Frag)(x y:V)(H:Hp)(Q:VK):Prop:= ∃k,Ko K H x y k/\Q (.bl k) H
def Jm(K:Frag)(x y:V)(H:Hp)(Q:VK):Prop:= ∃k,Ko K H x y k/\Q (.bl (!k)) H
section
variable{X:Cx}{a b:Qx}{ta tb:TE}{pos:So}
theorem OX(hu:X.A.units+20<QT):iJ X (Qs .Eq) (Pc X.K):=by
 intro Pw s σ H x y v u Q I rx ry h;obtain⟨k,h,q⟩:=h;cases h with
 |rr h=>exact gy .Eq hu Pw s σ H _ _ v u Q I rx ry ⟨k,h,q⟩
 |nn=>exact gy .Eq hu Pw s σ H _ _ v u Q I rx ry q
 |nr h=>
  cases rx;cases ry
  rcases h with h|h
  .obtain⟨its,r1,p1,_⟩:=I.list h;exact R1 (SeqAt.RcAt.none_list p1.isList (by lia)) (fin_bl I q rfl)
  .obtain⟨its,r1,p1,_⟩:=I.tuple h;exact R1 (SeqAt.RcAt.none_tuple p1 (by lia)) (fin_bl I q rfl)
 |rn h=>
  cases rx;cases ry
  rcases h with h|h
  .obtain⟨its,r1,p1,_⟩:=I.list h;exact R1 (SeqAt.RcAt.list_none p1.isList (by lia)) (fin_bl I q rfl)
  .obtain⟨its,r1,p1,_⟩:=I.tuple h;exact R1 (SeqAt.RcAt.tuple_none p1 (by lia)) (fin_bl I q rfl)
theorem Ja(hu:X.A.units+20<QT):iJ X (Qs .NotEq) (Jm X.K):=by
 intro Pw s σ H x y v u Q I rx ry h;obtain⟨k,h,q⟩:=h;cases h with
 |rr h=>exact gy .NotEq hu Pw s σ H _ _ v u Q I rx ry ⟨k,h,q⟩
 |nn=>exact gy .NotEq hu Pw s σ H _ _ v u Q I rx ry q
 |nr h=>
  cases rx;cases ry
  rcases h with h|h
  .obtain⟨its,r1,p1,_⟩:=I.list h;exact QX (SeqAt.RcNeAt.none_list p1.isList (by lia)) (fin_bl I q rfl)
  .obtain⟨its,r1,p1,_⟩:=I.tuple h;exact QX (SeqAt.RcNeAt.none_tuple p1 (by lia)) (fin_bl I q rfl)
 |rn h=>
  cases rx;cases ry
  rcases h with h|h
  .obtain⟨its,r1,p1,_⟩:=I.list h;exact QX (SeqAt.RcNeAt.list_none p1.isList (by lia)) (fin_bl I q rfl)
  .obtain⟨its,r1,p1,_⟩:=I.tuple h;exact QX (SeqAt.RcNeAt.tuple_none p1 (by lia)) (fin_bl I q rfl)
def NQ(K:Frag)(ta tb:TE):TE:=λσ H Q=>ta σ H λx H1=>tb σ H1 λy H2=>Jm K x y H2 Q
theorem Ng(K:Frag)(hu:X.A.units+20<QT)(ha:PE X a ta)(hb:PE X b tb)(hm:behindInMarks .NotEq b=false:=by first|exact jN _|with_unfolding_all rfl)(hK:X.K=K:=by rfl):PT X (.Compare a [.NotEq] [b] pos) (dD (NQ K ta tb)):=by subst hK;exact wB (Ja hu) ha hb hm
end
end L2
namespace L2
open PySem PySem.W PySem.Calls PySem.Spec PyProof.Rows
theorem w9{α β:Type}[DecidableEq α](f:α->β):∀{vs:List β}{l:List α},vs.Perm (l.map f)->∃l':List α,l'.Perm l/\vs=l'.map f
 | [],l,h=>by
   have:l=[]:=by have:=h.length_eq;simpa using this.symm
   subst this;exact⟨[],List.Perm.refl _,rfl⟩
 |v::vs,l,h=>by obtain⟨x,hx,rfl⟩:=T9.mp (h.mem_iff.mp Ui);have hp:=VI hx;have h2:vs.Perm ((l.erase x).map f):=(h.trans (hp.map f)).cons_inv;obtain⟨l',p1,rfl⟩:=w9 f h2;exact⟨x::l',(List.Perm.cons x p1).trans hp.symm,rfl⟩
theorem CU{α:Type}(d:α){l:List α}{p:List Nat}(h:p.Perm (List.range l.length)):(p.map λi=>l.getD i d).Perm l:=by
 refine(h.map _).trans (List.Perm.of_eq ?_);apply UM;intro i;rw[Ub]
 by_cases hi:i<l.length
 .rw[UI hi,Ua hi];simp[Ug,hi]
 .rw[Uz (by simpa using hi),Uz (by lia)];rfl
section
variable{prog:P6}{w:P9}{A:QD}{E:PP}{s:PZ}
theorem ow(ho:s.heap.get? a=some (seqObj "list" vs.toArray n))(h1:vs.length<2)(h:P (.done (.ret .none)) {s with heap:=sortedHeap s.heap a vs vs.toArray}):P2 (P7 prog w) A (Builtin.«list.sort» ⟨[.ref a],[]⟩) P E s:=by
 obtain⟨e1,g1⟩:∃e1,(s.heap.update a (QE λ_=> #[])).get? a=some (seqObj "list" #[] e1):=⟨_,get?_update_seq ho (λ_=> #[])⟩;have lt:a<s.heap.objs.size:=PY ho;have g2:(((s.heap.update a (QE λ_=> #[])).push (seqObj "tuple" vs.toArray 0)).push (seqObj "list" #[] 0)).get? a=some (seqObj "list" #[] e1):=PX _ (PX _ g1);have few:vs.toArray.size<2:=by rw[Uc];exact h1
 have zz:(vs.toArray.zip vs.toArray).map (·.2)=vs.toArray:=by apply WL.mp;simp;exact List.map_snd_zip (VO _)
 have sm:vs.toArray.size<=fv:=by rw[P4];lia
 rw[list_sort_plain];refine PU (listItems_at ho rfl (PU (listUpdate_at ho rfl (PU (seqEpoch_at g1 rfl (PU (wpAny_newTuple (PU (Tn (Qa ?_))))))))));dsimp only;rw[PF few,PF few];refine PU (PV ?_);rw[StateT.run_pure];refine PU (PV ?_);dsimp only;refine PU (seqEpoch_at g2 rfl (PU (listUpdate_at g2 rfl ?_ (hsz2:=?_))))
 .simp only[bne_self_eq_false,Wt,if_false];refine PV ?_;rw[show Array.map (λx=>x.snd) (arrOf (SortSt.mk' general' (vs.toArray.zip vs.toArray) #[] 7 none))=vs.toArray from zz];exact h
 .rw[show Array.map (λx=>x.snd) (arrOf (SortSt.mk' general' (vs.toArray.zip vs.toArray) #[] 7 none))=vs.toArray from zz];lia
structure Ci(prog:P6)(w:P9)(h:Qe)(L:XB)(ps:List (List Int×XB)):Prop where
 at_:∀p∈ps,p.2≠L/\p.1≠[]/\Qm (intKind prog w) h p.1 p.2
 nd:(ps.map (·.1)).Nodup
theorem Ci.perm(x:Ci prog w h L ps)(p:ps'.Perm ps):Ci prog w h L ps':=⟨λq hq=>x.at_ q (p.mem_iff.mp hq),(p.map _).nodup_iff.mpr x.nd⟩
theorem Ci.keep(x:Ci prog w h L ps)(k:∀b o,b≠L->h.get? b=some o->h'.get? b=some o):Ci prog w h' L ps:=⟨λq hq=>let ⟨a,b,o,its,r,e,rr⟩:=x.at_ q hq;⟨a,b,o,its,r,k _ o a e,rr⟩,x.nd⟩
theorem pe{B:Qe}{m:PN}{ps:List (List Int×XB)}{Q:PP}(F:Fr B L s.heap m)(T:Ci prog w s.heap L ps)(h64:ps.length<64)(q:∀(ps':List (List Int×XB))(h':Qe)(c:Nat),ps'.Perm ps->ps'.Pairwise (λx y=>dM x.1 y.1=true)->Fr B L h' m->(∀b o,b≠L->s.heap.get? b=some o->h'.get? b=some o)->
   h'.get? s.heap.objs.size=some (seqObj "list" (ps'.map λz=>P8 z.2).toArray c)->Q .none {s with heap:=h'}):P2 (P7 prog w) A (Builtin.«list.sort» ⟨[.ref s.heap.objs.size],[]⟩) (λr s'=>r=.done (.ret .none)/\Q .none s') E {s with heap:=s.heap.push (seqObj "list" (ps.map λz=>P8 z.2).toArray 0)}:=by
 have hL:L<s.heap.objs.size:=F.ns.lt;have gL:(s.heap.push (seqObj "list" (ps.map λz=>P8 z.2).toArray 0)).get? s.heap.objs.size=some (seqObj "list" (ps.map λz=>P8 z.2).toArray 0):=P5 _ rfl;have kp:∀b o,s.heap.get? b=some o->(s.heap.push (seqObj "list" (ps.map λz=>P8 z.2).toArray 0)).get? b=some o:=λb o e=>PX _ e;have F1:Fr B L (s.heap.push (seqObj "list" (ps.map λz=>P8 z.2).toArray 0)) m:=F.kept kp;have hlen:(ps.map λz=>P8 z.2).length=ps.length:=T7 ..
 by_cases h2:2<=ps.length
 .have hat:∀i(hi:i<ps.length),(ps.map λz=>P8 z.2).getD i .none=.ref (ps.getD i ([],0)).2/\(ps.map (·.1)).getD i []=(ps.getD i ([],0)).1/\ps.getD i ([],0)∈ps:=λi hi=>by simp[Ug,Ua hi]
  refine vM (ks:=ps.map (·.1)) F1 gL (VU hL) (RX (VR F.above (V0 hL))) (by simp) (λi hi=>?_) T.nd (by rw[hlen];exact h2) (by rw[hlen];exact h64) λp h' c hp up F' k' ga=>?_
  .rw[hlen]at hi;obtain⟨e1,e2,e3⟩:=hat i hi;obtain⟨a1,a2,o,its,r,e,rr⟩:=T.at_ _ e3;exact⟨_,e1,a1,VP (PY e),by rw[e2];exact⟨o,its,r,kp _ _ e,rr⟩,by rw[e2];exact a2⟩
  .rw[hlen]at hp up;have P:=PR.of hp;refine⟨rfl,q (p.toList.map λi=>ps.getD i ([],0)) h' c (CU _ hp) ?_ F' (λb o n e=>k' b o n (VP (PY e)) (kp b o e)) ?_⟩
   .rw[Ux,Vd];intro i j hi hj hij;have hi2:i<ps.length:=by rw[<-P.sz];simpa using hi
    have hj2:j<ps.length:=by rw[<-P.sz];simpa using hj
    have z:=up i j hij hj2;have gi:gp p i=p.toList[i]:=by
     have:i<p.size:=by rw[P.sz];exact hi2
     simp[gp,this]
    have gj:gp p j=p.toList[j]:=by
     have:j<p.size:=by rw[P.sz];exact hj2
     simp[gp,this]
    rw[gi,gj]at z;rw[<-(hat _ (by rw[<-gi];exact P.lo i hi2)).2.1,<-(hat _ (by rw[<-gj];exact P.lo j hj2)).2.1];exact z
   .rw[ga,Uf];congr 3;refine UG λi hi=>?_;exact(hat i (Uh.mp (hp.mem_iff.mp hi))).1
 .refine ow gL (by rw[hlen];lia) ?_;obtain⟨e,he⟩:=sortedHeap_at (out:=(ps.map λz=>P8 z.2).toArray) gL;have k2:∀b o,s.heap.get? b=some o->(sortedHeap (s.heap.push (seqObj "list" (ps.map λz=>P8 z.2).toArray 0)) s.heap.objs.size (ps.map λz=>P8 z.2) (ps.map λz=>P8 z.2).toArray).get? b=some o:=λb o e=>by rw[sortedHeap_old (VP (PY e)) (by rw[QI];exact VZ (PY e))];exact kp b o e
  refine⟨rfl,q ps _ e (List.Perm.refl _) ?_ (F.kept k2) (λb o _ e=>k2 b o e) he⟩
  match ps,h2 with
  | [],_=>exact List.Pairwise.nil
  | [_],_=>exact VJ ..
  |_::_::_,h=>exact PK (by simp) h
end
section
def uD(prog:P6)(w:P9)(h:Qe)(D:XB)(ps:List (List Int×XB)):Prop:= ∃es ep t,eU h D es ep t/\es.toList.Perm (ps.map λp=>(tupleKeyHash (intKind prog w) p.1,P8 p.2))/\SG (!w.params.followText "set-order") es.size t
theorem uD.keep(x:uD prog w h D ps)(k:∀o,h.get? D=some o->h'.get? D=some o):uD prog w h' D ps:=let ⟨es,ep,t,h1,r⟩:=x;⟨es,ep,t,h1.keep k,r⟩
theorem BJ:∀{l:List (Int×h9)},(∀e∈l,∃k,El prog w M h k e)->∃ps:List (List Int×XB),l=ps.map (λp=>(tupleKeyHash (intKind prog w) p.1,P8 p.2))/\∀p∈ps,M p.2/\Qm (intKind prog w) h p.1 p.2
 | [],_=>⟨[],rfl,λ_ z=>nomatch z⟩
 |e::l,hl=>by obtain⟨ps,rfl,h1⟩:=BJ λe' he=>hl e' (Ue _ he);obtain⟨k,a,h2,rfl,h3⟩:=hl e Ui;exact⟨(k,a)::ps,rfl,λp hp=>(T8.mp hp).elim (λz=>z▸⟨h2,h3⟩) (h1 p)⟩
theorem je.toP(x:je prog w M h D S n):∃ps:List (List Int×XB),uD prog w h D ps/\(∀p∈ps,M p.2/\Qm (intKind prog w) h p.1 p.2)/\(ps.map (·.1)).Nodup/\(∀k,S k=true<->k∈ps.map (·.1))/\ps.length=n:=by
 obtain⟨es,ep,t,o1,st,hm,hz⟩:=x;obtain⟨ps,e,h1⟩:=BJ st.el;refine⟨ps,⟨es,ep,t,o1,List.Perm.of_eq e,st.tg.fits,st.led,st.tg.ris⟩,h1,?_,λk=>?_,?_⟩
 .have z:=st.nd;rw[e,Ux]at z;rw[UC,Ux];refine z.imp_of_mem ?_;intro p p' hp hp' q e2;exact q p.1 ⟨p.2,(h1 p hp).1,rfl,(h1 p hp).2⟩ ⟨p'.2,(h1 p' hp').1,by rw[e2],by rw[e2];exact(h1 p' hp').2⟩
 .rw[hm k,e,T9]
  constructor
  .rintro⟨e',he,z⟩;obtain⟨p,hp,rfl⟩:=T9.mp he;exact⟨p,hp,(El.inj (m:=M) ⟨p.2,(h1 p hp).1,rfl,(h1 p hp).2⟩ z)⟩
  .rintro⟨p,hp,rfl⟩;exact⟨_,T9.mpr ⟨p,hp,rfl⟩,p.2,(h1 p hp).1,rfl,(h1 p hp).2⟩
 .have:=PM List.length e;rw[T7,WI]at this;lia
theorem sO(F:Fr B L s.heap m)(hh:A.handled=none)(hS:uD prog w s.heap D ps)(T:Ci prog w s.heap L ps)(h64:ps.length<64)(q:∀(ps':List (List Int×XB))(h':Qe)(p:XB)(e:Nat) d tk,ps'.Perm ps->ps'.Pairwise (λx y=>dM x.1 y.1=true)->Fr B L h' m->(∀b o,b≠L->s.heap.get? b=some o->h'.get? b=some o)->s.heap.objs.size<=p->h'.get? p=some (seqObj "list" (ps'.map λz=>P8 z.2).toArray e)->s.toks<=tk->Q (.ref p) {s with heap:=h',drawn:=d,toks:=tk}):P2 (P7 prog w) A (call (.builtin "sorted") [.ref D]) Q E s:=by
 obtain⟨es,ep,t,o1,hp,g⟩:=hS;have hz:es.size=ps.length:=by have:=hp.length_eq;simpa using this
 refine Sq kind_sorted plain_sorted entry_sorted (args_sorted1 _) ?_;unfold Builtin.«sorted»;refine PU (m:=checkCount "sorted" 1 1 _) (PV ?_);refine PU (ur (by exact hh) o1 g (by rw[P4];lia) λvs h1 d1 tk1 hv k1 hsz ht1=>?_);obtain⟨ps1,p1,rfl⟩:=w9 (λp:List Int×XB=>P8 p.2) (hv.trans (by
  have z:=hp.map (·.2);rw[Uf]at z;exact z))
 refine PU (Tn ?_ (by rw[T7,p1.length_eq,P4];lia));have gL:(h1.push (seqObj "list" (ps1.map λz=>P8 z.2).toArray 0)).get? h1.objs.size=some (seqObj "list" (ps1.map λz=>P8 z.2).toArray 0):=P5 _ rfl;refine PU (Qa (Qp slot_list_sort ⟨_,gL,rfl⟩ entry_list_sort (Qz (pe (s:={s with heap:=h1,drawn:=d1,toks:=tk1}) (Q:=λ_ s'=>P2 (P7 prog w) A.in1 (ret (.ref h1.objs.size)) (λr s''=>∃v,r=.done (.ret v)/\Q v s'') E s') (F.kept k1) ((T.perm p1).keep λb o _ e=>k1 b o e) (by rw[p1.length_eq];exact h64) λps' h' c hp' pw F' k' ga=>?_) (λr s' z=>⟨_,z.1,z.2⟩) λ_ _ z=>z) (args_list_sort _)));exact PV ⟨_,rfl,q ps' h' _ c _ _ (hp'.trans p1) pw F' (λb o n e=>k' b o n (k1 b o e)) (V0 hsz) ga ht1⟩
end
theorem bE.hereS(x:bE P w H h a o):∃u,h.get? a=some u:=by
 cases o with
 |lst xs=>obtain⟨_,_,_,_,e⟩:=x;exact⟨_,e⟩
 |tup xs=>obtain⟨_,_,_,o,e,_⟩:=x;exact⟨_,e⟩
 |dK kvs=>obtain⟨_,_,_,_,o,_,_,e,_⟩:=x;exact⟨_,e⟩
 |dT kvs=>obtain⟨_,_,_,_,o,_,_,e,_⟩:=x;exact⟨_,e⟩
 |set S n=>obtain⟨o,_,_,_,e,_⟩:=x;exact⟨_,e⟩
 |ins C dx fs=>obtain⟨_,_,_,e,_⟩:=x;exact⟨_,e⟩
 |own y=>obtain⟨_,e⟩:=x;exact⟨_,e⟩
 |xd fs=>obtain⟨_,⟨_,_,_,e,_⟩,_⟩:=x;exact⟨_,e⟩
 |rng lo hi=>obtain⟨_,_,_,e⟩:=x;exact⟨_,e⟩
 |frz ob u=>obtain⟨e,_⟩:=x;exact⟨_,e⟩
 |tbl ps=>exact⟨_,(show h.get? a=some _ from x)⟩
 |met f y=>exact⟨_,(show h.get? a=some _ from x)⟩
 |ext φ=>obtain⟨_,⟨_,e⟩,_⟩:=x;exact⟨_,e⟩
section
theorem oF:∀(ps:List (List Int×XB)),aZ (ps.map λz=>V.ref z.2) (ps.map λz=>P8 z.2)
 | []=>.nil
 |p::ps=>.cons rfl (oF ps)
theorem ua:∀{k:List Int}{us:List h9},aZ (k.map V.int) us->ItemsAre (intKind P w) k us
 | [],_,.nil=>.nil
 |n::k,_,.cons r t=>by obtain⟨tk,rfl⟩:=r;exact .cons (intKind_is _ _ _ _) (ua t)
theorem wz(x:bE P w H h a (.tup (k.map V.int))):Qm (intKind P w) h k a:=by obtain⟨_,its,r,o,ho,hc,n,hd⟩:=x;exact⟨o,_,n,ho,hc,hd,ua r⟩
theorem pT{Pw:PQ}{σ:St}{H:Hp}{s:PZ}{Q:VK}(I:aJ X Pw σ H s){m:PN}(F:Fr X.Px X.env.locals s.heap m){h':Qe}{p:XB}{e tk:Nat}{d:Drawn}{ps':List (List Int×XB)}(F':Fr X.Px X.env.locals h' m)(kp:∀b o,b≠X.env.locals->s.heap.get? b=some o->h'.get? b=some o)(hle:s.heap.objs.size<=p)(ga:h'.get? p=some (seqObj "list" (ps'.map λz=>P8 z.2).toArray e))(hz:ps'.length<64)(q:H p=none->Q (.ref p) (upd H p (.lst (ps'.map λz=>V.ref z.2)))):EP X Pw σ Q (.ref p) {s with heap:=h',drawn:=d,toks:=tk}:=by
 have hD:s.heap.get? p=none:=RX hle;have hHD:H p=none:=by
  cases z:H p with
  |none=>rfl
  |some u=>
   obtain⟨o,e⟩:=(I.hok p u z).hereS;rw[hD]at e;cases e
 refine⟨.ref p,upd H p (.lst (ps'.map λz=>V.ref z.2)),?_,rfl,q hHD⟩;have hlenZ:(ps'.map λz=>V.ref z.2).length<=fv:=by rw[T7,P4];lia
 have neD:∀b u,H b=some u->b≠p:=λb u e=>ay e hHD;have neLH:∀b u,H b=some u->b≠X.env.locals:=λb u e=>ay e I.free;refine I.step (g':=s.gens) (d':=d) (ch:=[]) (λ_ z=>nomatch z) (λb o n _ _ e _=>kp b o n e) (λb o n _ _ e _=>⟨o.slots,kp b o n e⟩) (λb o _ e n=>?_) (λb o _ e=>?_)
  (λb xs e=>by rw[au (neD b _ e)];exact e) (λb o u e=>by rw[au (neD b _ e)];exact e) (λb ps e=>⟨#[],by rw[au (neD b _ e),e];simp⟩) (λm' hm=>?_) (λb u e=>?_) I.bare
 .rw[au (λz=>by rw[z,hD]at e;cases e)];exact n
 .by_cases hb:b=X.env.locals
  .obtain⟨o',_,_,e',_⟩:=F'.ns;rw[hb];exact⟨o',e'⟩
  .exact⟨o,kp b o hb e⟩
 .rw[hm.eq_nsMap,<-F.ns.eq_nsMap];exact F'.ns
 .by_cases hb:b=p
  .subst hb;rw[ah]at e;cases e;exact⟨hlenZ,_,_,oF ps',by simpa[seqObj]using ga⟩
  .rw[au hb]at e;refine(I.hok b u e).stay (λb' v hb' z=>kp b' v ?_ z) (λb' z=>by rw[au (neD b' _ z)];exact z) λb' xs z=>by rw[au (neD b' _ z)];exact z
   rcases hb' with rfl|hb'
   .exact neLH _ _ e
   .exact neLH _ _ hb'
def sP(P:P6)(w:P9)(K:Frag)(xs:List V)(H:Hp)(Q:VK):Prop:= ∃(d:XB)(ps:List (List Int×XB)),xs=[.ref d]/\aO K H d (ps.map λz=>V.ref z.2)/\(∀p∈ps,H p.2=some (.tup (p.1.map V.int)))/\ps.length+1<307/\
 ∀(q:XB)(ps':List (List Int×XB)),H q=none->(∀p∈ps',p∈ps)->(ps'.map (·.1)).Nodup->(∀k,k∈ps'.map (·.1)<->k∈ps.map (·.1))->Q (.ref q) (upd H q (.ext λh=>uD P w h q ps'))
def mK(P:P6)(w:P9)(xs:List V)(H:Hp)(Q:VK):Prop:= ∃(d:XB)(ps:List (List Int×XB)),xs=[.ref d]/\H d=some (.ext λh=>uD P w h d ps)/\(∀p∈ps,p.1≠[]/\H p.2=some (.tup (p.1.map V.int)))/\(ps.map (·.1)).Nodup/\ps.length<64/\
 ∀(ps':List (List Int×XB))(q:XB),ps'.Perm ps->ps'.Pairwise (λx y=>dM x.1 y.1=true)->H q=none->Q (.ref q) (upd H q (.lst (ps'.map λz=>V.ref z.2)))
theorem zJ{Pw:PQ}{σ:St}{H:Hp}{s:PZ}(I:aJ X Pw σ H s){ps:List (List Int×XB)}(hp:∀p∈ps,p.1≠[]/\H p.2=some (.tup (p.1.map V.int)))(nd:(ps.map (·.1)).Nodup):Ci X.prog X.w s.heap X.env.locals ps:=
 ⟨λp h=>⟨ay (hp p h).2 I.free,(hp p h).1,wz (I.hok _ _ (hp p h).2)⟩,nd⟩
theorem uw(hh:X.A.handled=none):bx X (.builtin "sorted") (mK X.prog X.w):=by intro Pw s σ H xs us Q I r h;obtain⟨d,ps,rfl,hd,hp,nd,h64,q⟩:=h;obtain⟨u,rfl,rx⟩:=dQ r;cases rx;obtain⟨pS,_,_⟩:=(show bE X.prog X.w H s.heap d (.ext _)from I.hok d _ hd);obtain⟨m,F⟩:=I.fr;refine sO F hh pS (zJ I hp nd) h64 λps' h' p e dr tk a1 a2 F' kp hle ga _=>?_;exact pT I F F' kp hle ga (by rw[a1.length_eq];exact h64) (q ps' p a1 a2)
theorem wc(hh:X.A.handled=none)(hu:X.A.units+4<QT):bx X (.type "set") (sP X.prog X.w X.K):=by
 intro Pw s σ H xs us Q I r h;obtain⟨d,ps,rfl,hq,hp,hb,q⟩:=h;obtain⟨u,rfl,rx⟩:=dQ r;cases rx;obtain⟨its,r',pl,hz⟩:=I.list hq;have hlen:=r'.length;rw[T7]at hlen;have hs:its.toArray.size=ps.length:=by rw[Uc,<-hlen]
 have hM:∀p∈ps,Qm (intKind X.prog X.w) s.heap p.1 p.2:=λp h=>wz (I.hok _ _ (hp p h));refine yk (λa=>∃p∈ps,p.2=a) (λi=>(ps.getD i ([],0)).1) hh pl.isList hu (λi v hv=>?_) (λa ⟨p,hp1,e⟩=>?_) (by rw[hs];exact hb) λh2 tk hS kp=>?_
 .rw[Vo]at hv;have hi:i<its.length:=(Um.mp hv).1;have hi2:i<ps.length:=by lia
  have hx:(ps.map λz=>V.ref z.2)[i]? =some (.ref ps[i].2):=by rw[Ub,Ua hi2];rfl
  obtain⟨u,hu,ru⟩:=r'.get hx;rw[hv]at hu;cases hu;have eg:ps.getD i ([],0)=ps[i]:=by simp[Ug,hi2]
  rw[eg];exact⟨_,ru,⟨_,Uv hi2,rfl⟩,hM _ (Uv hi2)⟩
 .obtain⟨o,_,_,ho,_⟩:=hM p hp1;rw[<-e];exact PY ho
 .rw[hs]at hS;have k2:∀b u,s.heap.get? b=some u->h2.get? b=some u:=λb u e=>kp b u (PY e) e;obtain⟨ps',s1,s2,s3,s4,_⟩:=hS.toP;have ho:∃o,h2.get? s.heap.objs.size=some o:=let ⟨_,_,_,⟨o,h1,_⟩,_⟩:=s1;⟨o,h1⟩;refine⟨.ref s.heap.objs.size,_,I.laid (t':=tk) k2 (VO _) (show bE X.prog X.w _ h2 _ (.ext λh=>uD X.prog X.w h s.heap.objs.size ps')from⟨s1,ho,λh1 h2 e k=>e.keep k⟩),rfl,q _ ps' (I.hok.fresh (VO _)) (λp h=>?_) s3 λk=>?_⟩
  .obtain⟨⟨p2,h2p,e2⟩,kk⟩:=s2 p h;obtain⟨o,items,n,g1,rr⟩:=hM p2 h2p;have:p2.1=p.1:=IsTupleKey.inj (knd:=intKind X.prog X.w) (h:=h2) (a:=p.2) (e2▸⟨o,items,n,k2 _ _ g1,rr⟩) kk;have:p2=p:=Prod.ext this e2;exact this▸h2p
  .rw[<-s4 k,decide_eq_true_eq,nv,T9,T9]
   constructor
   .rintro⟨i,hi,rfl⟩;have hi2:=Uh.mp hi;exact⟨ps[i],Uv hi2,by simp[Ug,hi2]⟩
   .rintro⟨p,h,rfl⟩;obtain⟨i,hi,rfl⟩:=UR h;exact⟨i,Uh.mpr hi,by simp[Ug,hi]⟩
end
end L2
namespace L2
open PySem PySem.Spec PyProof.Rows
section
variable{X:Cx}
def NS(to te:TE):TE:=λσ H Q=>to σ H λx H1=>match x with
 | .ref l=>(∃xs,H1 l=some (.lst xs))/\te σ H1 λy H2=>∃b xs zs,y=.ref b/\H2 l=some (.lst xs)/\H2 b=some (.lst zs)/\xs.length+zs.length<=fv/\Q .non (upd H2 l (.lst (xs++zs)))
 |_=>False
theorem BS{apos cpos:So}(ho:PE X o to)(he:PE X e te)(hbase:Qw o "extend" X.env (Qk o X.env)=Qk o X.env:=by rfl)(hfew:((Qh cpos (P1 [e] X.env)).all (λx=> !x.1)&&(RB cpos (Q7 [] X.env)).all (λx=>x.1.isSome)
   &&decide ([e].length+([]:List Q0).length+(if([]:List Q0).isEmpty then 0 else 1)<30))=true:=by rfl) (hline:(apos.endLine == cpos.line)=true:=by rfl) (hs:P1 [e] X.env=(false,Qk e X.env)::P1 [] X.env:=by rfl) (hplain:(Qh cpos (P1 [] X.env)).any (·.1)=false:=by rfl):PE X (.Call (.Attribute o "extend" apos) [e] [] cpos) (NS to te):=by
 intro Pw s σ H Q I h;refine QO hbase hfew hline rfl (bL (ho Pw s σ H _ I h) λv s1 ⟨x,H1,I1,r1,q1⟩=>?_);cases x with
 |ref l=>
  obtain⟨⟨xs0,e0⟩,q1⟩:=q1;have ty:Hm X.K "list" (.ref l) H1:=.inl ⟨rfl,xs0,aO.of e0⟩;obtain⟨h1,h2⟩:=jJ I1 r1 ty;refine⟨"list","list.extend",PySem.F.plainAttrs_list,PySem.F.slot_list_extend,PySem.F.type_list_extend,h1,h2,?_⟩;have hA:=(pa_cons he pan hs:PA X [e] (ba te cE)) cpos Pw s1 σ H1 (λvs H2=>mi (.ref l) vs H2 Q) I1 (by
   show te σ H1 λy H2=>mi (.ref l) [y] H2 Q;have:(λ(y:V)(H2:Hp)=>∃b xs zs,y=.ref b/\H2 l=some (.lst xs)/\H2 b=some (.lst zs)/\xs.length+zs.length<=fv/\Q .non (upd H2 l (.lst (xs++zs))))=λy H2=>mi (.ref l) [y] H2 Q:=by
    funext y H2;apply propext
    constructor
    .rintro⟨b,xs,zs,rfl,z⟩;exact⟨l,b,xs,zs,rfl,rfl,z⟩
    .rintro⟨l',b,xs,zs,e1,e2,z⟩;cases e1;have:y=.ref b:=by injection e2
     exact⟨b,xs,zs,this,z⟩
   rw[<-this];exact q1)
  rw[hs]at hA ⊢;refine Qu (by show(false||(Qh cpos (P1 [] X.env)).any (·.1))=false;rw[hplain]<;>rfl) (QA ?_)
  exact bL hA λus s2 ⟨vs,H2,I2,r2,q3⟩=>yT Pw s2 σ H2 _ vs v us Q I2 r1 r2 q3
 |_=>exact q1.elim
theorem Nj(P:P6)(w:P9)(K:Frag)(hr:cK j X.A)(hP:X.prog=P:=by rfl)(hw:X.w=w:=by rfl)(hK:X.K=K:=by rfl):bx X (.type "set") (sP P w K):=by subst hP hw hK;exact wc hr.hd (by have:=hr.units;lia)
theorem Js(P:P6)(w:P9)(hr:cK j X.A)(hP:X.prog=P:=by rfl)(hw:X.w=w:=by rfl):bx X (.builtin "sorted") (mK P w):=by subst hP hw;exact uw hr.hd
end
section
variable{P:P6}{w:P9}{K:Frag}{σ:St}{H:Hp}{Q:VK}{te to:TE}{u:TS}
theorem uZ(h:te σ H λv H1=>sP P w K [v] H1 λu H2=>mK P w [u] H2 Q):cB (mK P w) (ba (cB (sP P w K) (ba te cE)) cE) σ H Q:=h
def pk(x:Int×Int):List Int:=[x.1,x.2]
theorem qK(h:pk x=pk y):x=y:=by unfold pk at h;injection h with h1 h2;injection h2 with h2 _;exact Prod.ext h1 h2
theorem vc{ps:List (List Int×XB)}(hd:aO K H d (ps.map λz=>V.ref z.2))(hp:∀p∈ps,p.1≠[]/\H p.2=some (.tup (p.1.map V.int)))(hl:ps.length+1<307)(h64:∀l:List (List Int),l.Nodup->(∀k,k∈l<->k∈ps.map (·.1))->l.length<64)(q:∀(ps':List (List Int×XB))(q:XB)(H':Hp),(∀p∈ps',p∈ps)->(∀k,k∈ps'.map (·.1)<->k∈ps.map (·.1))->ps'.Pairwise (λx y=>dM x.1 y.1=true)->H q=none->aj H H'->H' q=some (.lst (ps'.map λz=>V.ref z.2))->Q (.ref q) H'):sP P w K [.ref d] H λu H2=>mK P w [u] H2 Q:=by
 refine⟨d,ps,rfl,hd,λp h=>(hp p h).2,hl,λq1 ps1 hq1 sub nd mem=>?_⟩;have z1:ps1.length<64:=by have:=h64 _ nd mem;rwa[T7]at this
 refine⟨q1,ps1,rfl,ah,λp h=>⟨(hp p (sub p h)).1,?_⟩,nd,z1,λps2 q2 pm pw hq2=>?_⟩
 .rw[au (ay (hp p (sub p h)).2 hq1)];exact(hp p (sub p h)).2
 .have n12:q2≠q1:=λz=>by rw[z,ah]at hq2;cases hq2
  have hq2':H q2=none:=by rw[au n12]at hq2;exact hq2
  refine q ps2 q2 _ (λp h=>sub p (pm.mem_iff.mp h)) (λk=>?_) pw hq2' (((aj.refl H).upd hq1).upd hq2) ah;rw[<-mem k];exact(pm.map _).mem_iff
end
def sdV(row:Str)(s:Int):V:=bX (row.cps.toList.getD s.toNat 0)
def dk(row:Str)(sd:Int)(aim:Str):List Int->List (Int×Int)
 | []=>[]
 |g::r=>if sdV row g=.non then(if aim="hit"then dk row sd aim r else(g, -1)::dk row sd aim r)else if¬sdV row g=.int sd/\¬aim="go"then [(g,g)]else []
def jumpL(row:Str)(sd:Int):List Int->List (Int×Int)
 |g::b::_=>if sdV row g=.int (1 - sd)/\sdV row b=.non then [(b,g)]else []
 |_=>[]
theorem k4(row:Str)(sd:Int)(aim:Str):∀l,(dk row sd aim l).length<=l.length
 | []=>VO _
 |g::r=>by
  have:=k4 row sd aim r;unfold dk;split
  .split<;>simp<;>lia
  .split<;>simp
theorem lu(row:Str)(sd:Int):∀l,(jumpL row sd l).length<=1
 | []=>VQ _
 | [_]=>VQ _
 |g::b::r=>by
  show(if sdV row g=.int (1 - sd)/\sdV row b=.non then [(b,g)]else []).length<=1;split
  .exact VO _
  .exact VQ _
def bB(H H':Hp)(q:XB)(l:List (Int×Int)):Prop:= ∃ps:List (List Int×XB),ps.map (·.1)=l.map pk/\H' q=some (.lst (ps.map λz=>V.ref z.2))/\∀p∈ps,H p.2=none/\H' p.2=some (.tup (p.1.map V.int))
theorem im:dk row sd aim (g::r)=if sdV row g=.non then(if aim="hit"then dk row sd aim r else(g, -1)::dk row sd aim r)else if¬sdV row g=.int sd/\¬aim="go"then [(g,g)]else []:=rfl
structure RowS(row:Str):Prop where
 len:row.length<=64
 asc:∀c∈row.cps.toList,c<128
def zV(K:Frag):Sp:=λvs H Q _=>∃(row aim:Str)(sd:Int)(p:XB)(path:List Int),vs=[.str row,.int sd,.str aim,.ref p]/\aO K H p (path.map V.int)/\RowS row/\(∀g∈path,0<=g/\g<row.length)/\path.length<=8/\
 ∀(q:XB)(H':Hp),H q=none->bB H H' q (dk row sd aim path)->aj H H'->Q (.ref q) H'
def zZ(K:Frag):Sp:=λvs H Q _=>∃(row:Str)(sd:Int)(p:XB)(path:List Int),vs=[.str row,.int sd,.ref p]/\aO K H p (path.map V.int)/\RowS row/\(∀g∈path,0<=g/\g<row.length)/\(sd=0\/sd=1)/\
 ∀(q:XB)(H':Hp),H q=none->bB H H' q (jumpL row sd path)->aj H H'->Q (.ref q) H'
structure CRs(P:P6)(w:P9)(K:Frag)(mg:PN)(Px:Qe):Prop where
 side_of:dG P w K mg Px "side_of" ["sign"] 1 mH
theorem RowS.at{row:Str}(R:RowS row){s:Int}(h0:0<=s)(h1:s<row.length):jd row.cps.toList s=some (row.cps.toList.getD s.toNat 0)/\row.cps.toList.getD s.toNat 0<128:=by
 have hl:s.toNat<row.cps.toList.length:=by have:row.length=row.cps.toList.length:=rfl;lia
 have e:row.cps.toList[s.toNat]? =some (row.cps.toList.getD s.toNat 0):=by rw[Ug,Ua hl];rfl
 have z:=bI e;rw[Wk h0]at z;exact⟨z,R.asc _ (Us e)⟩
theorem bB.nil:bB H (upd H q (.lst [])) q []:=⟨[],rfl,ah,λ_ z=>nomatch z⟩
theorem bB.add{l:List (Int×Int)}{x y:Int}{ps:List (List Int×XB)}(h1:ps.map (·.1)=l.map pk)(h2:H1 q=some (.lst (ps.map λz=>V.ref z.2)))(h3:∀p∈ps,H p.2=none/\H1 p.2=some (.tup (p.1.map V.int)))(s:aj H H1)(ht:H1 t=none):bB H (upd (upd H1 t (.tup [.int x,.int y])) q (.lst ((ps.map λz=>V.ref z.2)++[.ref t]))) q (l++[(x,y)]):=by
 have hqt:q≠t:=λz=>by rw[<-z,h2]at ht;cases ht
 refine⟨ps++[([x,y],t)],by rw[Uq,Uq,h1];rfl,by rw[ah,Uq];rfl,λp hp=>?_⟩
 rcases Ul.mp hp with z|z
 .obtain⟨a1,a2⟩:=h3 p z;refine⟨a1,?_⟩;rw[au (λw=>by rw[w]at a2;rw[h2]at a2;cases a2),au (λw=>by rw[w,ht]at a2;cases a2)];exact a2
 .rw[Ud.mp z];refine⟨?_,by rw[au (Ne.symm hqt),ah];rfl⟩;cases w:H t with
  |none=>rfl
  |some u=>have:=s t u w;rw[ht]at this;cases this
theorem zK(h:t σ H λc H1=>if c=true then R true H1 else u σ H1 R):Io t u σ H R:=h
section
variable{K:Frag}{c:Nat}{H:Hp}{Q:VK}
theorem Cz:a9 K .NotEq (bX c) (.int sd) H Q=Q (.bl (!decide (bX c=.int sd))) H:=by
 unfold bX
 by_cases h:c=46\/c=35
 .rw[PF h];show Q (.bl true) H=Q (.bl (!decide (V.non=V.int sd))) H;rw[PB (by intro z;cases z)];rfl
 .rw[PD h];show Q (.bl (!decide (_=sd))) H=Q (.bl (!decide (V.int _=V.int sd))) H;have:∀i:Int,decide (i=sd)=decide (V.int i=V.int sd):=λi=>by
   by_cases e:i=sd
   .rw[Pz e,Pz (PM V.int e)]
   .rw[PB e,PB (λz=>e (by injection z))]
  rw[this]
theorem vb:a9 K .IsNot (bX c) .non H Q=Q (.bl (!decide (bX c=.non))) H:=by
 unfold bX
 by_cases h:c=46\/c=35
 .rw[PF h];show Q (.bl false) H=Q (.bl (!decide (V.non=V.non))) H;rw[Pz rfl];rfl
 .rw[PD h];show Q (.bl true) H=Q (.bl (!decide (V.int _=V.non))) H;rw[PB (by intro z;cases z)];rfl
end
theorem oH(hc:Tv t σ H b)(h1:b=true->ta σ H Q)(h2:b=false->tb σ H Q):Ip t ta tb σ H Q:=hc _ (by
 cases b with
 |true=>exact iG (h1 rfl)
 |false=>exact gF (h2 rfl))
def rK(row:Str)(sd:Int)(so ai:Str)(path:List Int):List (Int×Int):=if so="jump"then jumpL row sd path else dk row sd ai (if so="leap"then path.take 1 else path)
theorem DJ(row:Str)(sd:Int)(so ai:Str)(h:path.length<=8):(rK row sd so ai path).length<=8:=by
 unfold rK;split
 .have:=lu row sd path;lia
 .have:=k4 row sd ai (if so="leap"then path.take 1 else path);have:(if so="leap"then path.take 1 else path).length<=8:=by
   split
   .rw[Uu];lia
   .exact h
  lia
structure bj where
 kd:Str
 so:Str
 ai:Str
 ax:Int
 up:Int
abbrev bj.vs(r:bj):List V:=[.str r.kd,.str r.so,.str r.ai,.int r.ax,.int r.up]
abbrev bj.dy(r:bj)(sd:Int):Int:=if sd=0 then r.up else -r.up
def sN(K:Frag)(cB:XB):Sp:=λvs H Q _=>∃(b r:XB)(row:Str)(sq sd wi hi:Int)(hs:List Int)(u:bj),vs=[.ref b,.str row,.int sq,.ref r]/\cr K cB H b wi hi hs/\da K H r u.vs/\RowS row/\(row.length:Int)=wi*hi/\0<=sq/\sq<wi*hi/\
 sdV row sq=.int sd/\(sd=0\/sd=1)/\¬(u.ax=0/\u.up=0)/\∀(n:Nat)(q:XB)(H':Hp),ie wi hi hs sq u.ax (u.dy sd) n->n<=8->H q=none->bB H H' q (rK row sd u.so u.ai (rayL wi sq u.ax (u.dy sd) n))->aj H H'->Q (.ref q) H'
structure CRb(P:P6)(w:P9)(K:Frag)(mg:PN)(Px:Qe)(cB:XB):Prop extends CRs P w K mg Px where
 ray:dG P w K mg Px "ray" ["board","square","across","up"] 3 (Ho K cB)
 jumped:dG P w K mg Px "jumped" ["row","side","path"] 2 (zZ K)
 slid:dG P w K mg Px "slid" ["row","side","aim","path"] 2 (zV K)
theorem qu(w1:1<=wi)(R:ie wi hi hs s ax up n):∀g∈rayL wi s ax up n,0<=g/\g<wi*hi/\¬g∈hs:=λg hg=>by
 unfold rayL at hg;obtain⟨j,hj,rfl⟩:=T9.mp hg;obtain⟨a,b,c,d,e⟩:=R.1 j (Uh.mp hj);refine⟨?_,?_,e⟩
 .unfold mF;have:=Wn c (by lia:0<=wi);lia
 .unfold mF;have z:(s / wi+((j+1:Nat):Int)*up)*wi<=(hi - 1)*wi:=Wp (by lia) (by lia);rw[Int.sub_mul,Wj,Wh hi wi]at z;lia
theorem bB.from(h:bB H1 H' q l)(s:aj H H1):bB H H' q l:=by
 obtain⟨ps,a,b,c⟩:=h;refine⟨ps,a,b,λp hp=>⟨?_,(c p hp).2⟩⟩;cases w:H p.2 with
 |none=>rfl
 |some u=>have:=s _ u w;rw[(c p hp).1]at this;cases this
theorem Hu(h:t σ H λvs H1=>sp vs H1 D.rt E0):cL (cY sp t) D σ H:=h
theorem NI(xs:List Int):cutV (xs.map V.int) none (some 1)=(xs.take 1).map V.int:=by
 unfold cutV;rw[HT.sIx_none];have:HT.sIx (xs.map V.int).length (xs.map V.int).length (some 1)=min 1 (xs.map V.int).length:=HT.sIx_nat _ _ 1;rw[this,U1,V8,UY];cases xs with
 |nil=>rfl
 |cons a l=>simp
theorem aj.tupY{K:Frag}{H H':Hp}{a:XB}{xs:List V}(e:aj H H')(h:da K H a xs):da K H' a xs:=by
 rcases h with(h|⟨o,h⟩)|h
 .exact .inl (.inl (e _ _ h))
 .exact .inl (.inr ⟨o,e _ _ h⟩)
 .exact .inr h
def eV(H:Hp)(us:List (bj×XB)):Prop:= ∀z∈us,H z.2=some (.tup z.1.vs)
theorem eV.same(h:eV H us)(s:aj H H'):eV H' us:=λz hz=>s _ _ (h z hz)
abbrev cI(us:List (bj×XB)):List V:=us.map λz=>V.ref z.2
def ofKind(us:List (bj×XB))(kd:Str):List (bj×XB):=us.filter λz=>decide (z.1.kd=kd)
def N9(us:List (bj×XB))(kd:Str)(v:V):Bool:=us.any λz=>decide (V.ref z.2=v/\z.1.kd=kd)
theorem Bc(h:eV H us)(hz:z∈us):N9 us kd (.ref z.2)=decide (z.1.kd=kd):=by
 unfold N9
 by_cases e:z.1.kd=kd
 .rw[Pz e,UD];exact⟨z,hz,Pz ⟨rfl,e⟩⟩
 .rw[PB e,UK];intro y hy w;obtain⟨e1,e2⟩:=PH w;have e1:y.2=z.2:=by injection e1
  have a:=h y hy;rw[e1,h z hz]at a;injection a with a;injection a with a;injection a with a _;injection a with a;exact e (a.trans e2)
theorem vP(h:eV H us):(cI us).filter (N9 us kd)=cI (ofKind us kd):=by unfold cI ofKind;rw[UW];congr 1;refine Vu λz hz=>?_;exact Bc h hz
def oP(cG:XB):Sp:=λvs H Q _=>∃(g b:XB)(kd:Str)(ks ts es:List V)(st:Str)(us:List (bj×XB)),vs=[.ref g,.str kd]/\gT cG H g b ks (cI us) ts es st/\eV H us/\us.length<=24/\
 ∀(q:XB)(H':Hp),H q=none->H' q=some (.lst (cI (ofKind us kd)))->aj H H'->Q (.ref q) H'
def fO(wi hi:Int)(hs:List Int)(row:Str)(sq sd:Int)(u:bj)(l:List (Int×Int)):Prop:= ∃n:Nat,ie wi hi hs sq u.ax (u.dy sd) n/\n<=8/\l=rK row sd u.so u.ai (rayL wi sq u.ax (u.dy sd) n)
theorem fO.uniq(h:fO wi hi hs row sq sd u l)(h':fO wi hi hs row sq sd u l'):l=l':=by obtain⟨n,a,_,rfl⟩:=h;obtain⟨m,b,_,rfl⟩:=h';rw[a.uniq b λ_=>Iff.rfl]
theorem fO.len(h:fO wi hi hs row sq sd u l):l.length<=8:=by obtain⟨n,a,b,rfl⟩:=h;exact DJ _ _ _ _ (by rw[hU];exact b)
inductive aV(wi hi:Int)(hs:List Int)(row:Str)(sq sd:Int):List (bj×XB)->List (Int×Int)->Prop
 |nil:aV wi hi hs row sq sd [] []
 |cons {z us l r}:fO wi hi hs row sq sd z.1 l->aV wi hi hs row sq sd us r->aV wi hi hs row sq sd (z::us) (l++r)
theorem aV.uniq:∀{us:List (bj×XB)}{l l':List (Int×Int)},aV wi hi hs row sq sd us l->aV wi hi hs row sq sd us l'->l=l'
 |_,_,_,.nil,.nil=>rfl
 |_,_,_,.cons a b,.cons c d=>by rw[a.uniq c,aV.uniq b d]
theorem aV.len:∀{us:List (bj×XB)}{l:List (Int×Int)},aV wi hi hs row sq sd us l->l.length<=8*us.length
 |_,_,.nil=>VQ _
 |_,_,.cons a b=>by have:=a.len;have:=aV.len b;rw[Uj,Ut];lia
theorem aV.add(h:fO wi hi hs row sq sd z.1 l):∀{us:List (bj×XB)}{r:List (Int×Int)},aV wi hi hs row sq sd us r->aV wi hi hs row sq sd (us++[z]) (r++l)
 |_,_,.nil=>by
  have:=aV.cons h aV.nil
  rwa[Uo]at this
 |_,_,.cons a b=>by rw[UX];exact .cons a (aV.add h b)
def nU(l l':List (Int×Int)):Prop:=(∀x,x∈l'<->x∈l)/\l'.Pairwise λx y=>dM (pk x) (pk y)=true
theorem nU.uniq:∀{a b:List (Int×Int)},nU l a->nU l b->a=b:=by
 have key:∀(a b:List (Int×Int)),(∀x,x∈a<->x∈b)->a.Pairwise (λx y=>dM (pk x) (pk y)=true)->b.Pairwise (λx y=>dM (pk x) (pk y)=true)->a=b:=by
  intro a
  induction a with
  |nil=>
   intro b h _ _;cases b with
   |nil=>rfl
   |cons y b=>exact PK ((h y).mpr Ui) (by simp)
  |cons x a ih=>
   intro b h pa pb;cases b with
   |nil=>exact PK ((h x).mp Ui) (by simp)
   |cons y b=>
    obtain⟨a1,a2⟩:=U4.mp pa;obtain⟨b1,b2⟩:=U4.mp pb;have e:x=y:=by
     rcases T8.mp ((h x).mp Ui)with z|z
     .exact z
     .rcases T8.mp ((h y).mpr Ui)with w|w
      .exact w.symm
      .have t1:=b1 x z;have t2:=a1 y w;rw[rh _ _ t1]at t2;cases t2
    subst e;rw[ih b (λz=>?_) a2 b2]
    constructor
    .intro hz
     rcases T8.mp ((h z).mp (Ue _ hz))with w|w
     .rw[w]at hz;have:=a1 x hz;rw[ko]at this;cases this
     .exact w
    .intro hz
     rcases T8.mp ((h z).mpr (Ue _ hz))with w|w
     .rw[w]at hz;have:=b1 x hz;rw[ko]at this;cases this
     .exact w
 intro a b ha hb;exact key a b (λx=>(ha.1 x).trans (hb.1 x).symm) ha.2 hb.2
def pZ(K:Frag)(cB cG:XB):Sp:=λvs H Q _=>∃(g b:XB)(row kd:Str)(sq sd wi hi:Int)(hs:List Int)(ks ts es:List V)(st:Str)(us:List (bj×XB)),vs=[.ref g,.str row,.int sq]/\gT cG H g b ks (cI us) ts es st/\cr K cB H b wi hi hs/\eV H us/\us.length<=12/\(∀z∈us,¬(z.1.ax=0/\z.1.up=0))/\
 RowS row/\(row.length:Int)=wi*hi/\0<=sq/\sq<wi*hi/\sdV row sq=.int sd/\(sd=0\/sd=1)/\lN (row.cps.toList.getD sq.toNat 0)=.str kd/\(∀l,aV wi hi hs row sq sd (ofKind us kd) l->∀m:List (Int×Int),m.Nodup->(∀x∈m,x∈l)->m.length<64)/\
 ∀(l l':List (Int×Int))(q:XB)(H':Hp),aV wi hi hs row sq sd (ofKind us kd) l->nU l l'->H q=none->bB H H' q l'->aj H H'->Q (.ref q) H'
structure CRg(P:P6)(w:P9)(K:Frag)(mg:PN)(Px:Qe)(cB cG:XB):Prop where
 kind_of:dG P w K mg Px "kind_of" ["sign"] 1 zY
 by_rule:dG P w K mg Px "by_rule" ["board","row","square","rule"] 4 (sN K cB)
 Game_rules_of:Cd P w K mg Px cG "rules_of" ["self","kind"] 1 (oP cG)
theorem Cq{l:List (Int×Int)}:∀{L:List (List Int)},(∀k∈L,k∈l.map pk)->∃m:List (Int×Int),L=m.map pk/\∀x∈m,x∈l
 | [],_=>⟨[],rfl,λ_ z=>nomatch z⟩
 |k::L,h=>by obtain⟨m,rfl,hm⟩:=Cq λk' hk'=>h k' (Ue _ hk');obtain⟨x,hx,rfl⟩:=T9.mp (h k Ui);exact⟨x::m,rfl,λy hy=>(T8.mp hy).elim (λz=>z▸hx) (hm y)⟩
theorem bB.cat{l l2:List (Int×Int)}{ps ps2:List (List Int×XB)}(h1:ps.map (·.1)=l.map pk)(h2:H2 q=some (.lst (ps.map λz=>V.ref z.2)))(h3:∀p∈ps,H p.2=none/\H2 p.2=some (.tup (p.1.map V.int)))(s:aj H H1)(g1:ps2.map (·.1)=l2.map pk)(g3:∀p∈ps2,H1 p.2=none/\H2 p.2=some (.tup (p.1.map V.int))):bB H (upd H2 q (.lst ((ps.map λz=>V.ref z.2)++ps2.map λz=>V.ref z.2))) q (l++l2):=by
 refine⟨ps++ps2,by rw[Uq,Uq,h1,g1],by rw[ah,Uq],λp hp=>?_⟩;have ne:∀{p:XB}{xs:List V},H2 p=some (.tup xs)->p≠q:=λa e=>by rw[e,h2]at a;cases a
 rcases Ul.mp hp with z|z
 .obtain⟨a1,a2⟩:=h3 p z;exact⟨a1,by rw[au (ne a2)];exact a2⟩
 .obtain⟨a1,a2⟩:=g3 p z;exact⟨s.free a1,by rw[au (ne a2)];exact a2⟩
theorem HP(ho:Ev to σ H (.ref l))(hl:H l=some (.lst xs))(q:te σ H λy H2=>∃b xs zs,y=.ref b/\H2 l=some (.lst xs)/\H2 b=some (.lst zs)/\xs.length+zs.length<=fv/\D.nx σ (upd H2 l (.lst (xs++zs)))):jy (NS to te) D σ H:=ho _ ⟨⟨xs,hl⟩,q⟩
theorem NV(h:t' σ H λvs H1=>sp vs H1 (λx H2=>t σ H2 λxs H3=>R (x::xs) H3) E0):ba (cY sp t') t σ H R:=h
structure jI(H:Hp)(d:XB)(ks:List Nat):Prop where
 at_:H d=some (.lst (ks.map strV))
 ltr:∀k∈ks,rT k
 l1:1<=ks.length
 l6:ks.length<=6
 nd:ks.Nodup
theorem jI.same(h:jI H d ks)(s:aj H H'):jI H' d ks:=⟨s _ _ h.at_,h.ltr,h.l1,h.l6,h.nd⟩
theorem w5{ss:List Str}{i:Int}(h0:0<=i)(h1:i<ss.length):∃s,jd (ss.map V.str) i=some (.str s)/\s∈ss:=by obtain⟨v,e1,e2⟩:=AG (xs:=ss.map V.str) h0 (by rw[T7];exact h1);obtain⟨s,hs,rfl⟩:=T9.mp e2;exact⟨s,e1,hs⟩
theorem jI.pick(h:jI H d ks)(i:Int):∃k∈ks,jd (ks.map strV) (i % ((ks.map strV).length:Int))=some (strV k):=by
 have hl:(0:Int)<((ks.map strV).length:Int):=by rw[T7];have:=h.l1;lia
 obtain⟨v,e1,e2⟩:=AG (xs:=ks.map strV) (Wb i (by lia)) (Wc i hl);obtain⟨k,hk,rfl⟩:=T9.mp e2;exact⟨k,hk,e1⟩
theorem gE(h:Ev te σ H v)(q:ta σ H (λxs H2=>Q (v::xs) H2)):ba te ta σ H Q:=h _ q
theorem tupY(q:t σ H (λvs H2=>vs.length<=fv/\∀p,H2 p=none->Q (.ref p) (upd H2 p (.tup vs)))):zL t σ H Q:=q
theorem AU(q:Q [] H):cE σ H Q:=q
structure kR(ks:List Nat)(u:bj):Prop where
 kd:∃c∈ks,u.kd=one c
 so:u.so∈sortsL
 ai:u.ai∈aimsL
 jh:u.so="jump"->u.ai="hit"
 ax: -(if u.so="leap"then 3 else 1)<=u.ax/\u.ax<=(if u.so="leap"then 3 else 1)
 up: -(if u.so="leap"then 3 else 1)<=u.up/\u.up<=(if u.so="leap"then 3 else 1)
 n0:¬(u.ax=0/\u.up=0)
def wN:Sp:=λvs H Q _=>∃(c:Int)(d:XB)(ks:List Nat),vs=[.int c,.ref d]/\jI H d ks/\∀(t:XB)(u:bj)(H':Hp),kR ks u->H t=none->H' t=some (.tup u.vs)->aj H H'->Q (.ref t) H'
theorem zj{ta:TA}{te:TE}{src:List (Option Nat)}{σ rest:St}{H:Hp}{Q:VK}{n:Int}(hl:∀Q':List V->Hp->Prop,(∀H',aj H H'->Q' [.int n] H')->ta σ H Q')(h0:0<=n)(h1:n<=1000)(hs:eW src σ=none::rest)(R:Nat->Hp->V->Prop)(hR:∀i H H' v,R i H v->aj H H'->R i H' v)(he:∀(i:Nat) H',i<n.toNat->aj H H'->∀Q:VK,(∀v H2,R i H2 v->aj H' H2->Q v H2)->te (some (.int (0+(i:Int)))::rest) H' Q)(q:∀d H' ys,aj H H'->H' d=none->ys.length=n.toNat->(∀i y,ys[i]? =some y->R i H' y)->Q (.ref d) (upd H' d (.lst ys))):tComp (nB ta) (gName 0) lF te src σ H Q:=by
 refine hl _ λH0 s0=>⟨n,rfl,by lia,by lia,?_⟩;refine nI n.toNat (λi ys σ' H'=>aj H H'/\(∃v,σ'=v::rest)/\ys.length=i/\∀j y,ys[j]? =some y->R j H' y) (by rw[P4];lia)
  (λi ys σ H h=>VY h.2.2.1) (λi ys σ H _ hi=>hi) (λys σ H _=>VO _) ⟨s0,⟨none,hs⟩,rfl,λj y hy=>by simp at hy⟩ ?_ ?_
 .rintro i ys _ H1 x H2 hi ⟨s1,⟨v0,rfl⟩,hl,hy⟩ ⟨rfl,rfl⟩ Kt Kf ht hf;simp only[gName,lF,Ve,if_true];exact(he i _ hi s1 _ λv H2 rv s2=>ht _ _ _ ⟨s1.trans s2,⟨_,rfl⟩,by rw[Uj,hl];rfl,λj y hm=>by
   by_cases hj:j<ys.length
   .rw[U7 hj]at hm;exact hR _ _ _ _ (hy j y hm) s2
   .rw[Vz (by lia)]at hm;have e0:j - ys.length=0:=by have:=(Um.mp hm).1;simp at this;exact this
    rw[e0]at hm;have:v=y:=by simpa using hm
    subst this;have:j=i:=by lia
    subst this;exact rv⟩)
 .rintro ys _ H1 dd ⟨s1,_,hl,hy⟩ hd;exact q dd H1 ys s1 hd hl hy
def ic(H:Hp)(zs:List ((Str×Str)×XB)):Prop:= ∀z∈zs,H z.2=some (.tup [.str z.1.1,.str z.1.2])
theorem ic.same(h:ic H zs)(s:aj H H'):ic H' zs:=λz hz=>s _ _ (h z hz)
abbrev bT(zs:List ((Str×Str)×XB)):List V:=zs.map λz=>V.ref z.2
structure xV(ks:List Nat)(zs:List ((Str×Str)×XB)):Prop where
 len:zs.length<=6
 kd:∀z∈zs,(∃a∈ks,z.1.1=one a)/\∃b∈ks,z.1.2=one b
 nd:(zs.map λz=>z.1.1).Nodup
 ap:∀z∈zs,∀y∈zs,¬z.1.2=y.1.1
def sI:Sp:=λvs H Q _=>∃(c:Int)(d:XB)(ks:List Nat),vs=[.int c,.ref d]/\jI H d ks/\∀(q:XB)(zs:List ((Str×Str)×XB))(H':Hp),xV ks zs->ic H' zs->H q=none->H' q=some (.lst (bT zs))->aj H H'->Q (.ref q) H'
theorem ke(h:one a=one b):a=b:=by unfold one at h;simp only[Str.mk.injEq]at h;have:=PM Array.toList h;simpa using this
theorem wZ(F:Nat->Str×Str):∀(ys:List V)(o:Nat),(∀i y,ys[i]? =some y->∃a,y=.ref a/\H a=some (.tup [.str (F (o+i)).1,.str (F (o+i)).2]))->∃zs:List ((Str×Str)×XB),ys=bT zs/\ic H zs/\zs.length=ys.length/\∀i z,zs[i]? =some z->z.1=F (o+i)
 | [],o,_=>⟨[],rfl,λ_ z=>(nomatch z),rfl,λi z h=>by simp at h⟩
 |y::ys,o,h=>by
  obtain⟨a,rfl,ha⟩:=h 0 y rfl;obtain⟨zs,rfl,h1,h2,h3⟩:=wZ F ys (o+1) λi y hy=>by obtain⟨a,e1,e2⟩:=h (i+1) y (by simpa using hy);exact⟨a,e1,by rw[show o+1+i=o+(i+1) by lia];exact e2⟩
  refine⟨(F o,a)::zs,rfl,λz hz=>?_,by simp,λi z hz=>?_⟩
  .rcases T8.mp hz with rfl|hz
   .exact ha
   .exact h1 z hz
  .cases i with
   |zero=>
    have:(F o,a)=z:=by simpa using hz
    rw[<-this];rfl
   |succ i=>
    rw[h3 i z (by simpa using hz),show o+1+i=o+(i+1) by lia]
theorem pi(s:aj H H1)(nx:H1 x=none)(nd:H1 dx=none)(sb:SameBut x (upd (upd H1 dx o1) x o2) H'):aj H H':=λb o e=>by have e1:=s b o e;have nbx:=ay e1 nx;have nbd:=ay e1 nd;exact sb b o (by rw[au nbx,au nbd];exact e1) nbx
theorem yZ{ks:List Nat}(h:H q=some (.lst (ks.map strV)))(hl:∀k∈ks,rT k)(nd:ks.Nodup)(k1:1<=ks.length)(k6:ks.length<=6):ny H (.ref q)=true:=by
 have e:lstOf H (.ref q)=some (ks.map strV):=by simp only[lstOf,h]
 unfold ny;rw[e];dsimp only;rw[T7,Pz ⟨k1,k6⟩,Ww,Ws];refine⟨UB.mpr λx hx=>?_,Pz ?_⟩
 .obtain⟨k,hk,rfl⟩:=T9.mp hx;exact Pz (p:=97<=k/\k<=122) (hl k hk)
 .rw[Uf];exact Ux.mpr (nd.imp λhab e=>hab (Jj.mp e))
theorem dG.imp{P:P6}{w:P9}{K:Frag}{mg:PN}{Px:Qe}{name:Str}{ps:List Str}{k:Nat}{sp sp':Sp}(C:dG P w K mg Px name ps k sp)(h:∀vs H Q E,sp' vs H Q E->sp vs H Q E):dG P w K mg Px name ps k sp':=by obtain⟨f,fd,F,a,b,c⟩:=C.ex;exact⟨f,fd,F.imp h,a,b,c⟩
theorem Kb{P:P6}{w:P9}{K:Frag}{mg:PN}{Px:Qe}(C:dG P w K mg Px "is_among" ["thing","least","most"] 2 mJ):dG P w K mg Px "is_among" ["thing","least","most"] 2 Hq:=dG.imp C λvs H Q E h=>by obtain⟨t,a,b,rfl,q⟩:=h;exact⟨.int t,a,b,rfl,trivial,q⟩
theorem Dm(g:kR ks u):jA u.vs (ks.map one)=true:=by
 obtain⟨c,hc,e⟩:=g.kd;show(wordB (.str u.kd) (ks.map one)&&decide (u.so∈sortsL)&&decide (u.ai∈aimsL)&& !(decide (u.so="jump")&& !decide (u.ai="hit"))&&lG u.so (.int u.ax) (.int u.up))=true;have h1:wordB (.str u.kd) (ks.map one)=true:=Pz (T9.mpr ⟨c,hc,e.symm⟩);have h2:(!(decide (u.so="jump")&& !decide (u.ai="hit")))=true:=by
  by_cases z:u.so="jump"
  .rw[g.jh z];simp
  .simp[z]
 have h3:lG u.so (.int u.ax) (.int u.up)=true:=by
  have a:=g.ax;have b:=g.up;have n:=g.n0;unfold lG amongB limS;have e1:decide (-(if u.so="leap"then(3:Int)else 1)<=u.ax/\u.ax<=if u.so="leap"then 3 else 1)=true:=Pz a;have e2:decide (-(if u.so="leap"then(3:Int)else 1)<=u.up/\u.up<=if u.so="leap"then 3 else 1)=true:=Pz b;dsimp only;rw[e1,e2]
  by_cases z:u.ax=0
  .have z2:¬u.up=0:=λw=>n ⟨z,w⟩;simp[z,z2]
  .simp[z]
 rw[h1,Pz g.so,Pz g.ai,h2,h3];rfl
theorem vL(h:H a=some (.lst xs)):lstOf H (.ref a)=some xs:=by simp only[lstOf,h]
theorem pU(h:H a=some (.tup xs)):tupOf H (.ref a)=some xs:=by simp only[tupOf,h]
theorem yr(h:H d=some (.lst (cI us)))(R:eV H us)(g:∀z∈us,kR ks z.1)(h24:us.length<=24):fK H (.ref d) (ks.map one)=true:=by unfold fK;rw[vL h];show(decide ((cI us).length<=24)&&(cI us).all λx=>eO H x (ks.map one))=true;rw[T7,Pz h24,Ww,UB];intro x hx;obtain⟨z,hz,rfl⟩:=T9.mp hx;unfold eO;rw[pU (R z hz)];exact Dm (g z hz)
theorem oX(h:H d=some (.lst (bT zs)))(R:ic H zs)(g:∀z∈zs,z.1.1∈A/\z.1.2∈B)(h6:zs.length<=6):pairsB H (.ref d) A B=true:=by unfold pairsB;rw[vL h];show(decide ((bT zs).length<=6)&&(bT zs).all λx=>eS H x A B)=true;rw[T7,Pz h6,Ww,UB];intro x hx;obtain⟨z,hz,rfl⟩:=T9.mp hx;unfold eS;rw[pU (R z hz)];show(decide (z.1.1∈A)&&decide (z.1.2∈B))=true;rw[Pz (g z hz).1,Pz (g z hz).2];rfl
theorem ya(h:H d=some (.lst (bT zs)))(R:ic H zs)(g:xV ks zs):gc H (.ref d) (ks.map one)=true:=by
 unfold gc;rw[oX h R (λz hz=>?_) g.len,vL h,Ww]
 .have e1:(bT zs).map (cA H)=zs.map λz=>z.1.1:=by rw[Uf];refine UG λz hz=>?_;show cA H (.ref z.2)=_;unfold cA;rw[pU (R z hz)]
  show(!((bT zs).any λx=>decide (gW H x∈(bT zs).map (cA H)))&&decide (((bT zs).map (cA H)).Nodup))=true;rw[e1,Pz g.nd,WB,Wz,UK];intro x hx w;obtain⟨z,hz,rfl⟩:=T9.mp hx;have w:=PH w;have e2:gW H (.ref z.2)=z.1.2:=by unfold gW;rw[pU (R z hz)]
  rw[e2]at w;obtain⟨y,hy,e⟩:=T9.mp w;exact g.ap z hz y hy e.symm
 .obtain⟨⟨a,ha,e1⟩,b,hb,e2⟩:=g.kd z hz;exact⟨T9.mpr ⟨a,ha,e1.symm⟩,T9.mpr ⟨b,hb,e2.symm⟩⟩
theorem iV(a:Nat):(one a).length<=1000:=by show 1<=1000;decide
theorem Ix(h:s∈sortsL):s.length<=1000:=(by decide:∀s∈sortsL,s.length<=1000) s h
theorem Kd(h:s∈aimsL):s.length<=1000:=(by decide:∀s∈aimsL,s.length<=1000) s h
theorem JW(h:s∈iD):s.length<=1000:=(by decide:∀s∈iD,s.length<=1000) s h
theorem IC(h:H d=some (.lst (cI us)))(R:eV H us)(g:∀z∈us,kR ks z.1):gb H 2 (.ref d):=by
 refine lC.n (lC.lst h λx hx=>?_);obtain⟨z,hz,rfl⟩:=T9.mp hx;refine lC.tup (R z hz) λy hy=>?_;obtain⟨c,_,e⟩:=(g z hz).kd;simp only[bj.vs,T8,Uk,or_false]at hy
 rcases hy with rfl|rfl|rfl|rfl|rfl
 .exact lC.flat (show z.1.kd.length<=1000 by rw[e];exact iV c) rfl
 .exact lC.flat (Ix (g z hz).so) rfl
 .exact lC.flat (Kd (g z hz).ai) rfl
 .exact lC.flat trivial rfl
 .exact lC.flat trivial rfl
theorem AD(h:H d=some (.lst (bT zs)))(R:ic H zs)(g:∀z∈zs,z.1.1.length<=1000/\z.1.2.length<=1000):gb H 2 (.ref d):=by
 refine lC.n (lC.lst h λx hx=>?_);obtain⟨z,hz,rfl⟩:=T9.mp hx;refine lC.tup (R z hz) λy hy=>?_;simp only[T8,Uk,or_false]at hy
 rcases hy with rfl|rfl
 .exact lC.flat (g z hz).1 rfl
 .exact lC.flat (g z hz).2 rfl
theorem Jy(h:jI H d ks):gb H 1 (.ref d):=by refine lC.n (lC.lst h.at_ λx hx=>?_);obtain⟨c,_,rfl⟩:=T9.mp hx;exact lC.flat (iV c) rfl
structure kS(K:Frag)(cB cG:XB)(H:Hp)(g b kq:XB)(wi hi:Int)(hs:List Int)(ks:List Nat)(us:List (bj×XB))(ts es:List ((Str×Str)×XB))(st:Str):Prop where
 gm:gT cG H g b (ks.map strV) (cI us) (bT ts) (bT es) st
 bd:cr K cB H b wi hi hs
 ltr:∀k∈ks,rT k
 k1:1<=ks.length
 k6:ks.length<=6
 knd:ks.Nodup
 rl:eV H us
 r12:us.length<=12
 rg:∀z∈us,kR ks z.1
 tt:ic H ts
 tg:xV ks ts
 et:ic H es
 e6:es.length<=6
 eg:∀z∈es,z.1.1∈iD/\∃b∈ks,z.1.2=one b
 sg:st∈iN
theorem kS.same{K:Frag}{cB cG:XB}{H H':Hp}{g b kq:XB}{wi hi:Int}{hs:List Int}{ks:List Nat}{us:List (bj×XB)}{ts es:List ((Str×Str)×XB)}{st:Str}(x:kS K cB cG H g b kq wi hi hs ks us ts es st)(s:aj H H'):kS K cB cG H' g b kq wi hi hs ks us ts es st:=
 ⟨x.gm.same s,x.bd.same s,x.ltr,x.k1,x.k6,x.knd,x.rl.same s,x.r12,x.rg,x.tt.same s,x.tg,x.et.same s,x.e6,x.eg,x.sg⟩
theorem HD(h:t σ H λvs H1=>∀x dx,H1 x=none->H1 dx=none->dx≠x->sp (.ref x::vs) (upd (upd H1 dx (.own x)) x (.ins C dx [])) (λv H2=>v=.non/\Q (.ref x) H2) E0):xO C sp t σ H Q:=h
def wO(K:Frag)(cB cG:XB):Sp:=λvs H Q _=>∃(a:XB)(ns:List Int),vs=[.ref a]/\aO K H a (ns.map V.int)/\∀(g b kq:XB)(wi hi:Int)(hs:List Int)(ks:List Nat)(us:List (bj×XB))(ts es:List ((Str×Str)×XB))(st:Str)(H':Hp),
 kS K cB cG H' g b kq wi hi hs ks us ts es st->hs.length<=2->(hs.length:Int)<wi*hi->aj H H'->Q (.ref g) H'
structure LGg(P:P6)(w:P9)(K:Frag)(mg:PN)(Px:Qe)(cB cG:XB):Prop extends LG1 P w K mg Px where
 _law_board:dG P w K mg Px "_law_board" ["_law_script"] 2 (sK K)
 _law_kinds:dG P w K mg Px "_law_kinds" ["_law_cell"] 1 sJ
 _law_rule:dG P w K mg Px "_law_rule" ["_law_cell","_law_kinds_here"] 1 wN
 _law_turns:dG P w K mg Px "_law_turns" ["_law_cell","_law_kinds_here"] 1 sI
 Board:pR P w K mg Px "Board" cB ["self","wide","high","holes"] 4 (qa K cB)
 Game:pR P w K mg Px "Game" cG ["self","board","kinds","rules","turns","ends","stuck"] 6 (wP K cG)
theorem eV.add(h:eV H us)(s:aj H H')(ht:H' t=some (.tup u.vs)):eV H' (us++[(u,t)]):=λz hz=>by
 rcases Ul.mp hz with w|w
 .exact s _ _ (h z w)
 .rw[Ud.mp w];exact ht
theorem ic.add(h:ic H zs)(s:aj H H')(ht:H' t=some (.tup [.str x,.str y])):ic H' (zs++[((x,y),t)]):=λz hz=>by
 rcases Ul.mp hz with w|w
 .exact s _ _ (h z w)
 .rw[Ud.mp w];exact ht
theorem eV.put(h:eV H us)(hq:H q=some (.lst xs)):eV (upd H q (.lst ys)) us:=λz hz=>by rw[au (λw=>by have:=h z hz;rw[w,hq]at this;cases this)];exact h z hz
theorem ic.put(h:ic H zs)(hq:H q=some (.lst xs)):ic (upd H q (.lst ys)) zs:=λz hz=>by rw[au (λw=>by have:=h z hz;rw[w,hq]at this;cases this)];exact h z hz
theorem MF(h:xO C sp t σ H D.rt):cL (xO C sp t) D σ H:=h
def jY:Sp:=λvs H Q _=>∃c:Nat,vs=[.str (one c)]/\Sg c/\Q (bX c) H
def me(K:Frag)(cB cG:XB):Sp:=λvs H Q _=>∃(g b:XB)(wi hi s ax up:Int)(hs:List Int)(ks rs ts es:List V)(st:Str),vs=[.ref g,.int s,.int ax,.int up]/\gT cG H g b ks rs ts es st/\cr K cB H b wi hi hs/\Q (oI (Kl wi hi hs s ax up)) H
theorem xS:c∈("abcdefghijklmnopqrstuvwxyz":Str).cps.toList<->rT c:=by
 have e:("abcdefghijklmnopqrstuvwxyz":Str).cps.toList=(List.range 26).map (97+ ·):=by decide+kernel
 rw[e,T9];unfold rT
 constructor
 .rintro⟨i,hi,rfl⟩;have:=Uh.mp hi;lia
 .intro h;exact⟨c - 97,Uh.mpr (by lia),by lia⟩
structure wo(row:Str)(hs:List Int):Prop extends RowS row where
 sg:∀c∈row.cps.toList,Sg c
 nh:∀s:Int,0<=s->s<row.length->¬s∈hs->¬row.cps.toList.getD s.toNat 0=35
theorem IF(w8:wi<=8)(h8:hi<=8)(w1:1<=wi)(s0:0<=s)(s1:s<wi*hi)(n0:¬(ax=0/\up=0)):∃n,ie wi hi hs s ax up n/\n<=8:=by
 have key:∀m:Nat,(∀j<m,oY wi hi hs s ax up (j+1))\/∃n,n<m/\ie wi hi hs s ax up n:=by
  intro m
  induction m with
  |zero=>exact .inl λj hj=>PK hj (Nat.not_lt_zero _)
  |succ m ih=>
   rcases ih with ih|⟨n,h1,h2⟩
   .by_cases h:oY wi hi hs s ax up (m+1)
    .refine .inl λj hj=>?_
     by_cases e:j=m
     .rw[e];exact h
     .exact ih j (by lia)
    .exact .inr ⟨m,by lia,ih,h⟩
   .exact .inr ⟨n,by lia,h2⟩
 rcases key 9 with h|⟨n,h1,h2⟩
 .have:=vG w8 h8 w1 s0 s1 n0 (h 8 (by lia));lia
 .exact⟨n,h2,by lia⟩
theorem mV(R:ie wi hi hs s ax up n)(hj:j<=n):(if oY wi hi hs s ax up (j+1)then some (mF wi s ax up (j+1))else none)=(rayL wi s ax up n)[j]? :=by
 unfold rayL;rw[Ub]
 by_cases e:j<n
 .rw[PF (R.1 j e),UI e];rfl
 .have:j=n:=by lia
  subst this;rw[PD R.2,Uz (by simp)];rfl
def oS(K:Frag)(cB cG:XB):Sp:=λvs H Q _=>∃(g b r:XB)(row:Str)(sq sd wi hi:Int)(hs:List Int)(u:bj)(ks rs ts es:List V)(st:Str),vs=[.ref g,.str row,.int sq,.ref r]/\gT cG H g b ks rs ts es st/\cr K cB H b wi hi hs/\da K H r u.vs/\wo row hs/\(row.length:Int)=wi*hi/\0<=sq/\sq<wi*hi/\
 sdV row sq=.int sd/\(sd=0\/sd=1)/\¬(u.ax=0/\u.up=0)/\∀(l:List (Int×Int))(q:XB)(H':Hp),fO wi hi hs row sq sd u l->H q=none->bB H H' q l->aj H H'->Q (.ref q) H'
structure CLb(P:P6)(w:P9)(K:Frag)(mg:PN)(Px:Qe)(cB cG:XB):Prop where
 _law_side:dG P w K mg Px "_law_side" ["_law_sign"] 1 jY
 _law_step:dG P w K mg Px "_law_step" ["_law_game_here","_law_square","_law_across","_law_up"] 1 (me K cB cG)
theorem wo.look{row:Str}{hs:List Int}(R:wo row hs){s:Int}(h0:0<=s)(h1:s<row.length)(hn:¬s∈hs):∃c,jd row.cps.toList s=some c/\Sg c/\sdV row s=bX c/\(one c="."<->sdV row s=.non):=by
 obtain⟨a,b⟩:=R.toRowS.at h0 h1;refine⟨_,a,?_,rfl,?_⟩
 .obtain⟨j,_,e,_⟩:=jt a;exact R.sg _ (Us (by assumption))
 .have nh:=R.nh s h0 h1 hn;unfold sdV;generalize row.cps.toList.getD s.toNat 0=c at nh;unfold bX
  constructor
  .intro z;rw[PF (.inl (ke (b:=46) (z.trans (by decide+kernel))))]
  .intro z
   by_cases w:c=46\/c=35
   .rcases w with w|w
    .rw[w];decide+kernel
    .exact PK w nh
   .rw[PD w]at z;cases z
theorem uf{K:Frag}{σ:St}{H:Hp}{t:TA}{tb:TE}{c:Nat}{v:Int}(h:Av t σ H [.str (one c)])(hc:Sg c)(hb:Ev tb σ H (.int v)):Ev (dE K .Eq (cY jY t) tb) σ H (.bl (decide (bX c=.int v))):=λQ q=>h _ ⟨c,rfl,hc,hb _ (by rw[qd];exact q)⟩
def oC(row:Str)(ai:Str)(x:Int):List (Int×Int):=if sdV row x=.non/\¬ai="hit"then [(x, -1)]else []
def rQ(row:Str)(sd:Int)(ai:Str)(x:Int):List (Int×Int):=if sdV row x=.int (1 - sd)/\¬ai="go"then [(x,x)]else []
theorem Ab(hsd:sd=0\/sd=1):dk row sd ai (x::r)=(oC row ai x++rQ row sd ai x)++(if sdV row x=.non then dk row sd ai r else []):=by
 by_cases h:sdV row x=.non
 .have a2:rQ row sd ai x=[]:=by unfold rQ;rw[PD (λz=>by have:=z.1;rw[h]at this;cases this)]
  rw[im,PF h,PF h,a2,Uo];unfold oC
  by_cases a:ai="hit"
  .rw[PF a,PD (λz=>z.2 a)];rfl
  .rw[PD a,PF ⟨h,a⟩];rfl
 .have a1:oC row ai x=[]:=by unfold oC;rw[PD (λz=>h z.1)]
  rw[im,PD h,PD h,a1,List.nil_append,Uo];unfold rQ;have e:(¬sdV row x=.int sd/\¬ai="go")<->(sdV row x=.int (1 - sd)/\¬ai="go"):=by
   refine and_congr_left' ?_;have:∃v:Int,sdV row x=.int v/\(v=0\/v=1):=by
    unfold sdV bX at h ⊢;split
    .rename_i z;rw[PF z]at h;exact PK rfl h
    .refine⟨_,rfl,?_⟩;split
     .exact .inl rfl
     .exact .inr rfl
   obtain⟨v,e,hv⟩:=this;rw[e]
   constructor
   .intro z;have:¬v=sd:=λw=>z (by rw[w]);have:v=1 - sd:=by lia
    rw[this]
   .intro z w;have z:v=1 - sd:=by injection z
    have w:v=sd:=by injection w
    lia
  by_cases z:¬sdV row x=.int sd/\¬ai="go"
  .rw[PF z,PF (e.mp z)]
  .rw[PD z,PD (λw=>z (e.mpr w))]
theorem DR(row:Str)(sd:Int)(ai:Str)(x:Int):(oC row ai x).length<=1/\(rQ row sd ai x).length<=1:=by
 unfold oC rQ
 constructor<;>(split<;>simp)
end L2
namespace L2
open PySem PySem.W PySem.Calls PySem.Spec PyProof.Rows
section
theorem qb(F:Fr B L s.heap m)(hl:s.heap.IsList D (ps.map λz=>P8 z.2).toArray)(T:Ci prog w s.heap L ps)(h64:ps.length<64)(q:∀(ps':List (List Int×XB))(h':Qe)(p:XB)(e:Nat),ps'.Perm ps->ps'.Pairwise (λx y=>dM x.1 y.1=true)->Fr B L h' m->(∀b o,b≠L->s.heap.get? b=some o->h'.get? b=some o)->s.heap.objs.size<=p->h'.get? p=some (seqObj "list" (ps'.map λz=>P8 z.2).toArray e)->Q (.ref p) {s with heap:=h'}):P2 (P7 prog w) A (call (.builtin "sorted") [.ref D]) Q E s:=by
 refine Sq kind_sorted plain_sorted entry_sorted (args_sorted1 _) ?_;unfold Builtin.«sorted»;refine PU (m:=checkCount "sorted" 1 1 _) (PV ?_);refine PU (collect_list hl ?_ (by rw[T7,P4];lia));have k1:∀b o,s.heap.get? b=some o->((s.heap.push (seqObj "list" #[] 0)).update s.heap.objs.size (QE (· ++(ps.map λz=>P8 z.2).toArray))).get? b=some o:=λb o e=>by rw[Heap.get?_update_ne _ _ _ _ (VP (PY e))];exact PX _ e
 have hsz:s.heap.objs.size<=((s.heap.push (seqObj "list" #[] 0)).update s.heap.objs.size (QE (· ++(ps.map λz=>P8 z.2).toArray))).objs.size:=by rw[Heap.size_update,size_push'];exact VT _
 generalize(s.heap.push (seqObj "list" #[] 0)).update s.heap.objs.size (QE (· ++(ps.map λz=>P8 z.2).toArray))=h1 at k1 hsz;refine PU (Tn ?_ (by rw[T7,P4];lia));have gL:(h1.push (seqObj "list" (ps.map λz=>P8 z.2).toArray 0)).get? h1.objs.size=some (seqObj "list" (ps.map λz=>P8 z.2).toArray 0):=P5 _ rfl;refine PU (Qa (Qp slot_list_sort ⟨_,gL,rfl⟩ entry_list_sort (Qz (pe (s:={s with heap:=h1}) (Q:=λ_ s'=>P2 (P7 prog w) A.in1 (ret (.ref h1.objs.size)) (λr s''=>∃v,r=.done (.ret v)/\Q v s'') E s') (F.kept k1) (T.keep λb o _ e=>k1 b o e) h64 λps' h' c hp' pw F' k' ga=>?_) (λr s' z=>⟨_,z.1,z.2⟩) λ_ _ z=>z) (args_list_sort _)));exact PV ⟨_,rfl,q ps' h' _ c hp' pw F' (λb o n e=>k' b o n (k1 b o e)) hsz ga⟩
end
section
theorem lg:∀{ps:List (List Int×XB)}{us:List h9},aZ (ps.map λz=>V.ref z.2) us->us=ps.map λz=>P8 z.2
 | [],_,.nil=>rfl
 |p::ps,_,.cons r t=>by cases r;rw[lg t];rfl
def u9(K:Frag)(xs:List V)(H:Hp)(Q:VK):Prop:= ∃(d:XB)(ps:List (List Int×XB)),xs=[.ref d]/\aO K H d (ps.map λz=>V.ref z.2)/\(∀p∈ps,p.1≠[]/\H p.2=some (.tup (p.1.map V.int)))/\(ps.map (·.1)).Nodup/\ps.length<64/\
 ∀(ps':List (List Int×XB))(q:XB),ps'.Perm ps->ps'.Pairwise (λx y=>dM x.1 y.1=true)->H q=none->Q (.ref q) (upd H q (.lst (ps'.map λz=>V.ref z.2)))
theorem ux:bx X (.builtin "sorted") (u9 X.K):=by intro Pw s σ H xs us Q I r h;obtain⟨d,ps,rfl,hd,hp,nd,h64,q⟩:=h;obtain⟨u,rfl,rx⟩:=dQ r;cases rx;obtain⟨its,r',pl,hz⟩:=I.list hd;have e:=lg r';subst e;obtain⟨m,F⟩:=I.fr;refine qb F pl.isList (zJ I hp nd) h64 λps' h' p e a1 a2 F' kp hle ga=>?_;exact pT I F F' kp hle ga (by rw[a1.length_eq];exact h64) (q ps' p a1 a2)
theorem Jt(K:Frag)(hK:X.K=K:=by rfl):bx X (.builtin "sorted") (u9 K):=by subst hK;exact ux
end
theorem kC:∀{k k':List Int},k.map V.int=k'.map V.int->k=k'
 | [],[],_=>rfl
 | [],_::_,h=>by cases h
 |_::_,[],h=>by cases h
 |x::k,y::k',h=>by injection h with h1 h2;injection h1 with h1;rw[h1,kC h2]
theorem Kc{k k':List Int}:((List.range (min (k.map V.int).length (k'.map V.int).length)).all (λi=>eqV (.int (k.getD i 0)) (.int (k'.getD i 0)))&&(k.map V.int).length == (k'.map V.int).length)=decide (k=k'):=by
 rw[T7,T7]
 by_cases e:k=k'
 .subst e;rw[Pz rfl,beq_self_eq_true,WB,UB];intro i _;exact BH rfl
 .rw[PB e]
  by_cases hl:k.length=k'.length
  .rw[hl,beq_self_eq_true,WB];cases hh:(List.range (min k'.length k'.length)).all λi=>eqV (.int (k.getD i 0)) (.int (k'.getD i 0))with
   |false=>rfl
   |true=>
    refine PK (List.ext_getElem hl λi h1 h2=>?_) e;have:=UB.mp hh i (Uh.mpr (by lia));have:=PH (show decide (k.getD i 0=k'.getD i 0)=true from this);simpa[Ug,h1,h2]using this
  .rw[show(k.length == k'.length)=false by simpa using hl,WA]
theorem xF{K:Frag}{H:Hp}{n:Nat}{a b:XB}{k k':List Int}(ha:H a=some (.tup (k.map V.int)))(hb:H b=some (.tup (k'.map V.int))):wv K H (n+1) (.ref a) (.ref b) (decide (k=k')):=by
 by_cases e:a=b
 .subst e;rw[ha]at hb;have hb:k.map V.int=k'.map V.int:=by injection hb with z;injection z
  have:k=k':=kC hb;rw[Pz this];exact .same
 .rw[<-Kc];refine .tup (da.of ha) (da.of hb) e λi x y hx hy=>?_;have h1:i<k.length:=by have:=(Um.mp hx).1;rwa[T7]at this
  have h2:i<k'.length:=by have:=(Um.mp hy).1;rwa[T7]at this
  rw[Ub,Ua h1]at hx;rw[Ub,Ua h2]at hy;cases hx;cases hy;have z:=wv.flat (K:=K) (H:=H) (n:=n) (x:=.int k[i]) (y:=.int k'[i]) rfl rfl;rw[Ug,Ug,Ua h1,Ua h2];exact z
section
variable{X:Cx}{a b:Qx}{ta tb:TE}{pos:So}
def O7(K:Frag)(op:S4)(x y:V)(H:Hp)(Q:VK):Prop:=match op,x,y with
 | .NotIn,.ref c,.ref d=>∃(k:List Int)(ps:List (List Int×XB)),H c=some (.tup (k.map V.int))/\aO K H d (ps.map λz=>V.ref z.2)/\(∀p∈ps,H p.2=some (.tup (p.1.map V.int)))/\Q (.bl (!decide (k∈ps.map (·.1)))) H
 |_,_,_=>False
theorem Je(op:S4)(hu:X.A.units+20<QT):iJ X (Qs op) (O7 X.K op):=by
 intro Pw s σ H x y v u Q I rx ry h;unfold O7 at h;split at h
 .rename_i c d;obtain⟨k,ps,hc,hd,hp,q⟩:=h;cases rx;cases ry;obtain⟨its,r',pl,hz⟩:=I.list hd;have e:=lg r';subst e;refine SeqAt.notIn_listAt (λv=>ps.any λp=>(match v with| .ref a=>a == p.2|_=>false)&&decide (p.1=k)) pl.isList (λy hy=>?_) (fin_bl I q ?_)
  .have hy:y∈ps.map λz=>P8 z.2:=by simpa using hy
   obtain⟨p,hpp,rfl⟩:=T9.mp hy;have z:=nF I (xF (K:=X.K) (n:=0) (hp p hpp) hc) X.A.in1 (by show X.A.units+1+(0+1)<QT;lia) (u:=.ref p.2) (v:=.ref c) rfl rfl;have e:(ps.any λp'=>(p.2 == p'.2)&&decide (p'.1=k))=decide (p.1=k):=by
    by_cases h:p.1=k
    .rw[Pz h,UD];exact⟨p,hpp,by rw[beq_self_eq_true,Pz h];rfl⟩
    .rw[PB h,UK];intro p' hp' w;rw[Ws]at w;have e1:p.2=p'.2:=by simpa using w.1
     have e2:=PH w.2;have a1:=hp p hpp;rw[e1]at a1;have z1:=xF (K:=X.K) (n:=0) a1 (hp p' hp');have:p.1.map V.int=p'.1.map V.int:=by have a2:=hp p' hp';rw[a1]at a2;injection a2 with a2;injection a2
     exact h ((kC this).trans e2)
   show Tx X.A.in1 s (.ref p.2) (.ref c) (ps.any λp'=>(p.2 == p'.2)&&decide (p'.1=k));rw[e];exact z
  .congr 1;have:((ps.map λz=>P8 z.2).toArray.any λv=>ps.any λp=>(match v with| .ref a=>a == p.2|_=>false)&&decide (p.1=k))=decide (k∈ps.map (·.1)):=by
    rw[List.any_toArray,Va]
    by_cases h:k∈ps.map (·.1)
    .rw[Pz h,UD];obtain⟨p,hpp,e⟩:=T9.mp h;refine⟨p,hpp,?_⟩;show(ps.any λp'=>(p.2 == p'.2)&&decide (p'.1=k))=true;rw[UD];exact⟨p,hpp,by rw[beq_self_eq_true,Pz e];rfl⟩
    .rw[PB h,UK];intro p hpp w;have w:(ps.any λp'=>(p.2 == p'.2)&&decide (p'.1=k))=true:=w;obtain⟨p',hp',w⟩:=UD.mp w;rw[Ws]at w;exact h (T9.mpr ⟨p',hp',PH w.2⟩)
   rw[this]
 .exact h.elim
def NR(K:Frag)(op:S4)(ta tb:TE):TE:=λσ H Q=>ta σ H λx H1=>tb σ H1 λy H2=>O7 K op x y H2 Q
theorem Nh(K:Frag)(hu:X.A.units+20<QT)(ha:PE X a ta)(hb:PE X b tb)(hm:behindInMarks op b=false:=by first|exact jN _|with_unfolding_all rfl)(hK:X.K=K:=by rfl):PT X (.Compare a [op] [b] pos) (dD (NR K op ta tb)):=by subst hK;exact wB (Je op hu) ha hb hm
end
end L2
namespace L2
open PySem PySem.Spec PyProof.Rows
theorem kh{α:Type}[DecidableEq α]:∀{m C:List α},m.Nodup->(∀x∈m,x∈C)->m.length<=C.length
 | [],_,_,_=>VQ _
 |x::m,C,nd,h=>by obtain⟨n1,n2⟩:=UP.mp nd;have hx:=h x Ui;have z:=kh (C:=C.erase x) n2 (λy hy=>(Vr (a:=y) (b:=x) (λe=>n1 (by rw[<-e];exact hy))).mpr (h y (Ue _ hy)));rw[Vq hx]at z;have:0<C.length:=Vb hx;rw[Ut];lia
def prG(row:Str)(g:Int):Int×Int:=(g,if sdV row g=.non then -1 else g)
theorem mf(row:Str)(sd:Int)(ai:Str):∀path:List Int,(dk row sd ai path).Sublist (path.map (prG row))
 | []=>List.Sublist.refl _
 |g::r=>by
  rw[im,Uw];have ih:=mf row sd ai r
  by_cases h:sdV row g=.non
  .rw[PF h]
   by_cases a:ai="hit"
   .rw[PF a];exact ih.cons _
   .rw[PD a];have:prG row g=(g, -1):=by unfold prG;rw[PF h]
    rw[this];exact ih.cons₂ _
  .rw[PD h];have:prG row g=(g,g):=by unfold prG;rw[PD h]
   rw[this];split
   .exact(List.nil_sublist _).cons₂ _
   .exact List.nil_sublist _
theorem IE(w1:1<=wi)(n0:¬(ax=0/\up=0))(R:ie wi hi hs s ax up n):(rayL wi s ax up n).Nodup:=by
 unfold rayL;rw[UC,Ux];refine(UC.mp Vc).imp_of_mem ?_;intro i j hi hj hij e;obtain⟨a1,a2,_⟩:=R.1 i (Uh.mp hi);obtain⟨b1,b2,_⟩:=R.1 j (Uh.mp hj);obtain⟨x1,x2⟩:=pW (up:=up) w1 a1 a2;obtain⟨y1,y2⟩:=pW (up:=up) w1 b1 b2;rw[e]at x1 x2;have e1:((i+1:Nat):Int)*ax=((j+1:Nat):Int)*ax:=by omega
 have e2:((i+1:Nat):Int)*up=((j+1:Nat):Int)*up:=by omega
 have key:∀d:Int,d≠0->((i+1:Nat):Int)*d=((j+1:Nat):Int)*d->False:=λd hd z=>by have:=Int.eq_of_mul_eq_mul_right hd z;lia
 by_cases z:ax=0
 .exact key up (λw=>n0 ⟨z,w⟩) e2
 .exact key ax z e1
theorem v4{u:bj}{sd:Int}(n0:¬(u.ax=0/\u.up=0)):¬(u.ax=0/\u.dy sd=0):=λz=>n0 ⟨z.1,by have:=z.2;unfold bj.dy at this;split at this<;>lia⟩
theorem Jo(row:Str){path:List Int}(h:path.Nodup):(path.map (prG row)).Nodup:=by rw[UC,Ux];refine(UC.mp h).imp λz e=>z ?_;exact PM Prod.fst e
theorem fO.nd(w1:1<=wi)(n0:¬(u.ax=0/\u.up=0))(h:fO wi hi hs row sq sd u l):l.Nodup:=by
 obtain⟨n,ry,_,rfl⟩:=h;have rn:=IE w1 (v4 n0) ry;unfold rK;split
 .have:=lu row sd (rayL wi sq u.ax (u.dy sd) n);generalize jumpL row sd (rayL wi sq u.ax (u.dy sd) n)=l at this
  match l,this with
  | [],_=>exact U5
  | [_],_=>simp
  |_::_::_,h=>simp at h
 .refine(mf row sd u.ai _).nodup (Jo row ?_);split
  .exact(Vk _ _).nodup rn
  .exact rn
def HU:List (Int×Int):=[(-1, -1),(-1,0),(-1,1),(0, -1),(0,1),(1, -1),(1,0),(1,1)]
theorem DD(x1: -1<=x)(x2:x<=1)(y1: -1<=y)(y2:y<=1)(n0:¬(x=0/\y=0)):(x,y)∈HU:=by
 have hx:x= -1\/x=0\/x=1:=by lia
 have hy:y= -1\/y=0\/y=1:=by lia
 rcases hx with rfl|rfl|rfl<;>rcases hy with rfl|rfl|rfl<;>first|decide|exact PK ⟨rfl,rfl⟩ n0
theorem HV(w8:wi<=8)(h8:hi<=8)(w1:1<=wi)(s0:0<=sq)(s1:sq<wi*hi):∀{us:List (bj×XB)}{l:List (Int×Int)},aV wi hi hs row sq sd us l->(∀z∈us,kR ks z.1)->∃(D C:List (Int×Int))(a:Nat),D.Nodup/\(∀e∈D,e∈HU)/\D.length+a<=us.length/\C.length<=7*D.length+a/\(∀e∈D,∃n,ie wi hi hs sq e.1 e.2 n/\∀g∈rayL wi sq e.1 e.2 n,prG row g∈C)/\∀x∈l,x∈C
 |_,_,.nil,_=>⟨[],[],0,U5,λ_ z=>(nomatch z),VO _,VO _,λ_ z=>(nomatch z),λ_ z=>(nomatch z)⟩
 |_,_,@aV.cons _ _ _ _ _ _ z us l r hl hr,hg=>by
  obtain⟨D,C,a,c1,c2,c3,c4,c5,c6⟩:=HV w8 h8 w1 s0 s1 hr λy hy=>hg y (Ue _ hy);have g:=hg z Ui;obtain⟨n,ry,n8,rfl⟩:=hl
  by_cases hs':z.1.so="slide"
  .have e:rK row sd z.1.so z.1.ai (rayL wi sq z.1.ax (z.1.dy sd) n)=dk row sd z.1.ai (rayL wi sq z.1.ax (z.1.dy sd) n):=by unfold rK;rw[hs',PD (by decide),PD (by decide)]
   rw[e];have sub:=λx hx=>(mf row sd z.1.ai (rayL wi sq z.1.ax (z.1.dy sd) n)).subset (a:=x) hx
   by_cases hD:(z.1.ax,z.1.dy sd)∈D
   .refine⟨D,C,a,c1,c2,by rw[Ut];lia,c4,c5,λx hx=>?_⟩
    rcases Ul.mp hx with hx|hx
    .obtain⟨m,rm,hm⟩:=c5 _ hD;have:=rm.uniq ry λ_=>Iff.rfl;subst this;obtain⟨gg,g1,rfl⟩:=T9.mp (sub x hx);exact hm gg g1
    .exact c6 x hx
   .have n7:n<=7:=by
     rcases V9 n with h|h
     .lia
     .have:=vG w8 h8 w1 s0 s1 (v4 g.n0) (ry.1 (n - 1) (by lia));lia
    have ax:=g.ax;have up:=g.up;rw[hs',PD (by decide)]at ax up;have dyb: -1<=z.1.dy sd/\z.1.dy sd<=1:=by unfold bj.dy;split<;>lia
    refine⟨(z.1.ax,z.1.dy sd)::D,(rayL wi sq z.1.ax (z.1.dy sd) n).map (prG row)++C,a,UP.mpr ⟨hD,c1⟩,λe he=>?_,by rw[Ut,Ut];lia,by rw[Uj,T7,hU,Ut];lia,λe he=>?_,λx hx=>?_⟩
    .rcases T8.mp he with rfl|he
     .exact DD ax.1 ax.2 dyb.1 dyb.2 (v4 g.n0)
     .exact c2 e he
    .rcases T8.mp he with rfl|he
     .exact⟨n,ry,λgg hgg=>UJ _ (T9.mpr ⟨gg,hgg,rfl⟩)⟩
     .obtain⟨m,rm,hm⟩:=c5 e he;exact⟨m,rm,λgg hgg=>Ur _ (hm gg hgg)⟩
    .rcases Ul.mp hx with hx|hx
     .exact UJ _ (sub x hx)
     .exact Ur _ (c6 x hx)
  .have l1:(rK row sd z.1.so z.1.ai (rayL wi sq z.1.ax (z.1.dy sd) n)).length<=1:=by
    have so:=g.so;simp only[sortsL,T8,Uk,or_false]at so;unfold rK
    rcases so with e|e|e
    .rw[e,PD (by decide),PF rfl];refine VR (k4 ..) ?_;rw[Uu];lia
    .exact PK e hs'
    .rw[e,PF rfl];exact lu ..
   refine⟨D,rK row sd z.1.so z.1.ai (rayL wi sq z.1.ax (z.1.dy sd) n)++C,a+1,c1,c2,by rw[Ut];lia,by rw[Uj];lia,λe he=>?_,λx hx=>?_⟩
   .obtain⟨m,rm,hm⟩:=c5 e he;exact⟨m,rm,λgg hgg=>Ur _ (hm gg hgg)⟩
   .rcases Ul.mp hx with hx|hx
    .exact UJ _ hx
    .exact Ur _ (c6 x hx)
theorem NB(w8:wi<=8)(h8:hi<=8)(w1:1<=wi)(s0:0<=sq)(s1:sq<wi*hi)(h12:us.length<=12)(hg:∀z∈us,kR ks z.1)(h:aV wi hi hs row sq sd us l)(m:List (Int×Int))(nd:m.Nodup)(hm:∀x∈m,x∈l):m.length<64:=by obtain⟨D,C,a,c1,c2,c3,c4,_,c6⟩:=HV w8 h8 w1 s0 s1 h hg;have d8:D.length<=8:=kh c1 c2;have:=kh nd λx hx=>c6 x (hm x hx);lia
def mI(K:Frag)(cB cG:XB):Sp:=λvs H Q _=>∃(g b:XB)(row kd:Str)(sq sd wi hi:Int)(hs:List Int)(ks ts es:List V)(st:Str)(us:List (bj×XB)),vs=[.ref g,.str row,.int sq]/\gT cG H g b ks (cI us) ts es st/\cr K cB H b wi hi hs/\eV H us/\us.length<=12/\(∀z∈us,¬(z.1.ax=0/\z.1.up=0))/\
 wo row hs/\(row.length:Int)=wi*hi/\0<=sq/\sq<wi*hi/\sdV row sq=.int sd/\(sd=0\/sd=1)/\lN (row.cps.toList.getD sq.toNat 0)=.str kd/\(∀l,aV wi hi hs row sq sd (ofKind us kd) l->∀m:List (Int×Int),m.Nodup->(∀x∈m,x∈l)->m.length<64)/\
 ∀(l l':List (Int×Int))(q:XB)(H':Hp),aV wi hi hs row sq sd (ofKind us kd) l->nU l l'->H q=none->bB H H' q l'->aj H H'->Q (.ref q) H'
structure CLs(P:P6)(w:P9)(K:Frag)(mg:PN)(Px:Qe)(cB cG:XB):Prop where
 _law_by_rule:dG P w K mg Px "_law_by_rule" ["_law_game_here","_law_row_here","_law_square","_law_rule_here"] 2 (oS K cB cG)
def C7(ps2:List (List Int×XB))(ks:List (List Int))(v:V):Bool:= !(ps2.any λz=>decide (V.ref z.2=v/\z.1∈ks))
theorem xf{H:Hp}{ps2:List (List Int×XB)}{ks:List (List Int)}(h:∀p∈ps2,H p.2=some (.tup (p.1.map V.int))){z:List Int×XB}(hz:z∈ps2):C7 ps2 ks (.ref z.2)= !decide (z.1∈ks):=by
 unfold C7;congr 1
 by_cases e:z.1∈ks
 .rw[Pz e,UD];exact⟨z,hz,Pz ⟨rfl,e⟩⟩
 .rw[PB e,UK];intro y hy w;obtain⟨e1,e2⟩:=PH w;have e1:y.2=z.2:=by injection e1
  have a:=h y hy;rw[e1,h z hz]at a;injection a with a;injection a with a;rw[<-kC a]at e2;exact e e2
theorem tP{H:Hp}{ps2:List (List Int×XB)}{ks:List (List Int)}(h:∀p∈ps2,H p.2=some (.tup (p.1.map V.int))):(ps2.map λz=>V.ref z.2).filter (C7 ps2 ks)=(ps2.filter λz=> !decide (z.1∈ks)).map λz=>V.ref z.2:=by rw[UW];congr 1;refine Vu λz hz=>?_;exact xf h hz
theorem t6{ps ps2:List (List Int×XB)}{m l2:List (Int×Int)}(h1:ps.map (·.1)=m.map pk)(h2:ps2.map (·.1)=l2.map pk):(ps2.filter λz=> !decide (z.1∈ps.map (·.1))).map (·.1)=(l2.filter λx=> !decide (x∈m)).map pk:=by
 have e1:(ps2.filter λz=> !decide (z.1∈ps.map (·.1))).map (·.1)=(ps2.map (·.1)).filter λk=> !decide (k∈ps.map (·.1)):=by rw[UW];rfl
 rw[e1,h2,h1,UW];congr 1;refine Vu λx _=>?_;show(!decide (pk x∈m.map pk))= !decide (x∈m);congr 1
 by_cases h:x∈m
 .rw[Pz h,Pz (T9.mpr ⟨x,h,rfl⟩)]
 .rw[PB h,PB λw=>?_];obtain⟨y,hy,e⟩:=T9.mp w;exact h (qK e▸hy)
theorem JG{K:Frag}{ta tb:TE}{σ:St}{H:Hp}{c d:XB}{k:List Int}{ps:List (List Int×XB)}(ha:Ev ta σ H (.ref c))(hb:Ev tb σ H (.ref d))(hc:H c=some (.tup (k.map V.int)))(hd:aO K H d (ps.map λz=>V.ref z.2))(hp:∀p∈ps,H p.2=some (.tup (p.1.map V.int))):Tv (dD (NR K .NotIn ta tb)) σ H (!decide (k∈ps.map (·.1))):=λR q=>ha _ (hb _ ⟨k,ps,hc,hd,hp,q⟩)
theorem A3{m l l2:List (Int×Int)}(h:∀x,x∈m<->x∈l)(x:Int×Int):x∈m++(l2.filter λx=> !decide (x∈m))<->x∈l++l2:=by
 rw[Ul,Ul,UA,<-h x]
 constructor
 .rintro(z|⟨z,_⟩)
  .exact .inl z
  .exact .inr z
 .rintro(z|z)
  .exact .inl z
  .by_cases w:x∈m
   .exact .inl w
   .exact .inr ⟨z,by rw[PB w];rfl⟩
theorem C9{m l2:List (Int×Int)}(h:m.Nodup)(h2:l2.Nodup):(m++(l2.filter λx=> !decide (x∈m))).Nodup:=by rw[U2];refine⟨h,List.filter_sublist.nodup h2,λa ha b hb e=>?_⟩;have:=(UA.mp hb).2;rw[<-e,Pz ha]at this;cases this
theorem nU.of{l m l':List (Int×Int)}(h:∀x,x∈m<->x∈l){ps ps':List (List Int×XB)}(e:ps.map (·.1)=m.map pk)(pm:ps'.Perm ps)(pw:ps'.Pairwise λx y=>dM x.1 y.1=true)(e':ps'.map (·.1)=l'.map pk):nU l l':=by
 have mem:∀k,k∈ps'.map (·.1)<->k∈ps.map (·.1):=λk=>(pm.map _).mem_iff;refine⟨λx=>?_,?_⟩
 .rw[<-h x];have z:=mem (pk x);rw[e,e']at z;have inj:∀l:List (Int×Int),pk x∈l.map pk<->x∈l:=λl=>⟨λw=>by
   obtain⟨y,hy,ey⟩:=T9.mp w;exact qK ey▸hy,λw=>T9.mpr ⟨x,w,rfl⟩⟩
  rw[inj,inj]at z;exact z
 .have z:(ps'.map (·.1)).Pairwise λx y=>dM x y=true:=Ux.mpr pw;rw[e']at z;exact Ux.mp z
theorem Nn(h:lN c=.str kd):kd=one (lo1 c):=by
 unfold lN at h;split at h
 .cases h
 .injection h with h;exact h.symm
theorem ni:ofKind (us++[z]) kd=ofKind us kd++if z.1.kd=kd then [z]else []:=by
 unfold ofKind;rw[Vp];congr 1
 by_cases h:z.1.kd=kd
 .rw[PF h,UV,PF (Pz h)];rfl
 .rw[PD h,UV,PD (by rw[PB h];decide)];rfl
theorem Fl.keepS{K:Frag}{H H':Hp}{p:XB}{f:Str}{x:V}(h:Fl K H p f x)(s:aj H H'):Fl K H' p f x:=by obtain⟨C,dx,fs,a,r⟩:=h;exact⟨C,dx,fs,s _ _ a,r⟩
theorem rE{K:Frag}{sp:Sp}{t:TA}{vs:List V}{g:TG}{tt:TT}{te:TE}{src:List (Option Nat)}{σ:St}{H:Hp}{Q:VK}(h:Av t σ H vs)(q:sp vs H (λx H2=>∃a,x=.ref a/\(∃xs,aO K H2 a xs)/\dC g tt te src σ Q (Ck K a) H2) E0):tComp (pC K (cY sp t)) g tt te src σ H Q:=h _ q
theorem Cw{K:Frag}{te:TE}{σ:St}{H:Hp}{Q:VK}{d:XB}{ps:List (List Int×XB)}(h:Ev te σ H (.ref d))(hd:aO K H d (ps.map λz=>V.ref z.2))(hp:∀p∈ps,p.1≠[]/\H p.2=some (.tup (p.1.map V.int)))(nd:(ps.map (·.1)).Nodup)(h64:ps.length<64)(q:∀(ps':List (List Int×XB))(q:XB),ps'.Perm ps->ps'.Pairwise (λx y=>dM x.1 y.1=true)->H q=none->Q (.ref q) (upd H q (.lst (ps'.map λz=>V.ref z.2)))):cB (u9 K) (ba te cE) σ H Q:=h _ ⟨d,ps,rfl,hd,hp,nd,h64,q⟩
abbrev kRefs(ps:List (List Int×XB)):List V:=ps.map λz=>V.ref z.2
def nX(H:Hp)(ps:List (List Int×XB)):Prop:= ∀p∈ps,H p.2=some (.tup (p.1.map V.int))
theorem nX.same(h:nX H ps)(s:aj H H'):nX H' ps:=λp hp=>s _ _ (h p hp)
def sB:Sp:=λvs H Q _=>∃n:Int,vs=[.int n]/\Q (.bl true) H
section
variable{K:Frag}{σ:St}{H:Hp}{ta tb te:TE}
theorem JT(h:Ev te σ H (.ref a))(ha:H a=some (.tup xs)):Ev (DH T te) σ H (.bl (cW .tuple T)):=λQ q=>h _ (Dj ha q)
theorem JQ(h1:Ev ta σ H (.ref a))(h2:Ev tb σ H (.ref b))(h:wu K H 20 (.ref a) (.ref b) k):Ev (dE K .NotEq ta tb) σ H (.bl (!k)):=λQ q=>h1 _ (h2 _ ⟨k,h,q⟩)
theorem J1(h:ta σ H λx H1=>tb σ H1 λy H2=>a9 K op x y H2 (eT R)):dD (dE K op ta tb) σ H R:=h
theorem uq{tt:TT}{tl:TE}{src:List (Option Nat)}{rest:St}{Q:VK}{d:XB}{xs:List V}(hl:Ev tl σ H (.ref d))(hx:da K H d xs)(hz:xs.length<=fv)(hs:eW src σ=none::rest)(p:V->Bool)(f:V->V)(ht:∀x∈xs,Tv tt (some x::rest) H (p x))(he:∀x∈xs,p x=true->Ev te (some x::rest) H (f x))(q:∀d',H d'=none->Q (.ref d') (upd H d' (.lst ((xs.filter p).map f)))):tComp (JH K tl) (gName 0) tt te src σ H Q:=
 hl _ ⟨d,rfl,⟨xs,hx⟩,jb hz hs p f (λi hi=>⟨xs,xs[i],hx,Ua hi⟩) ⟨xs,hx,VO _⟩ (λi v H' _ y=>⟨y.1,y.2 xs hx⟩) ht he q⟩
end
theorem Dz{K:Frag}{H:Hp}{n:Nat}{a b:XB}(ha:H a=some (.lst []))(hb:H b=some (.lst [])):wu K H (n+1) (.ref a) (.ref b) true:=by have z:=wu.lst (n:=n) (es:=λ_=>true) (aO.of (K:=K) ha) (aO.of hb) rfl (λi x y hx=>by simp at hx);exact z
theorem yi(h:bX c=.int v):lN c=.str (one (lo1 c))/\(v=0\/v=1):=by
 unfold bX at h;unfold lN;split at h
 .cases h
 .rename_i z;rw[PD z];injection h with h;refine⟨rfl,?_⟩;rw[<-h];split
  .exact .inl rfl
  .exact .inr rfl
theorem zp{K:Frag}{op:S4}{sp:Sp}{t:TA}{tb:TE}{σ:St}{H:Hp}{R:Bool->Hp->Prop}{vs:List V}(h:Av t σ H vs)(q:sp vs H (λx H1=>tb σ H1 λy H2=>a9 K op x y H2 (eT R)) E0):dD (dE K op (cY sp t) tb) σ H R:=h _ q
structure DT(wi hi:Int)(hs:List Int)(ks:List Nat)(z:Str):Prop where
 len:z.length=(wi*hi).toNat
 at_:∀(s c:Nat),z.cps.toList[s]? =some c->lP ks c (if(s:Int)∈hs then 35 else 46)=true
theorem nM{ks:List Nat}{c:Nat}{hs:List Int}{s:Int}(h:lP ks c (if s∈hs then 35 else 46)=true):(s∈hs/\c=35)\/(¬s∈hs/\(c=46\/c∈ks\/c∈ks.map (· - 32))):=by
 unfold lP at h
 by_cases m:s∈hs
 .rw[PF m,PF rfl]at h;exact .inl ⟨m,PH h⟩
 .rw[PD m,PD (by decide)]at h;exact .inr ⟨m,PH h⟩
theorem xL{ks:List Nat}{c:Nat}(hl:∀k∈ks,rT k)(h:c=46\/c∈ks\/c∈ks.map (· - 32)):Sg c/\c≠35:=by
 unfold Sg
 rcases h with h|h|h
 .lia
 .have:=hl c h;unfold rT at this;lia
 .obtain⟨k,hk,rfl⟩:=T9.mp h;have:=hl k hk;unfold rT at this;lia
theorem DT.g(R:DT wi hi hs ks z)(hl:∀k∈ks,rT k)(m:wi*hi<=64):wo z hs:=by
 have sg:∀c∈z.cps.toList,Sg c:=λc hc=>by
  obtain⟨s,hs'⟩:=Vf hc
  rcases nM (R.at_ s c hs')with⟨_,h⟩|⟨_,h⟩
  .exact .inr (.inl h)
  .exact(xL hl h).1
 refine⟨⟨by rw[R.len];lia,λc hc=>(sg c hc).lt⟩,sg,λs s0 s1 hn=>?_⟩;have hlt:s.toNat<z.cps.toList.length:=by have:z.length=z.cps.toList.length:=rfl;lia
 have e:z.cps.toList[s.toNat]? =some (z.cps.toList.getD s.toNat 0):=by rw[Ug,Ua hlt];rfl
 have:=R.at_ _ _ e;rw[show((s.toNat:Nat):Int)=s by lia]at this
 rcases nM this with⟨h,_⟩|⟨_,h⟩
 .exact PK h hn
 .exact(xL hl h).2
theorem qt(h:te σ H D.rt):cL te D σ H:=h
theorem rY{K:Frag}{te:TE}{src:List (Option Nat)}{σ rest:St}{H:Hp}{Q:VK}{d:XB}{xs:List V}(hx:H d=some (.lst xs))(hz:xs.length<=fv)(hs:eW src σ=none::rest)(R:Nat->Hp->V->Prop)(hR:∀i H H' v,R i H v->aj H H'->R i H' v)(he:∀(i:Nat) x H',xs[i]? =some x->aj H H'->∀Q:VK,(∀v H2,R i H2 v->aj H' H2->Q v H2)->te (some x::rest) H' Q)(q:∀d' H' ys,aj H H'->H' d'=none->ys.length=xs.length->(∀i y,ys[i]? =some y->R i H' y)->Q (.ref d') (upd H' d' (.lst ys))):dC (gName 0) lF te src σ Q (Ck K d) H:=by
 refine nI xs.length (λi ys σ' H'=>aj H H'/\(∃v,σ'=v::rest)/\ys.length=i/\∀j y,ys[j]? =some y->R j H' y) hz (λi ys σ H h=>VY h.2.2.1)
  (λi ys σ H' h hi=>⟨xs,xs[i],aO.of (h.1 _ _ hx),Ua hi⟩) (λys σ H' h=>⟨xs,aO.of (h.1 _ _ hx),VO _⟩) ⟨aj.refl H,⟨none,hs⟩,rfl,λj y e=>by simp at e⟩ ?_ ?_
 .rintro i ys _ H1 x H2 hi ⟨s1,⟨v0,rfl⟩,hl,hy⟩ ⟨rfl,hyy⟩ Kt Kf ht hf;have ex:=hyy xs (aO.of (s1 _ _ hx));simp only[gName,lF,Ve,if_true];refine he i x _ ex s1 _ λv H2 rv s2=>ht _ _ _ ⟨s1.trans s2,⟨_,rfl⟩,by simp[hl],λj y e=>?_⟩
  by_cases q:j<ys.length
  .rw[U7 q]at e;exact hR _ _ _ _ (hy j y e) s2
  .by_cases q2:j=ys.length
   .subst q2;simp at e;subst e;rw[hl];exact rv
   .rw[Uz (by simp;lia)]at e;cases e
 .rintro ys _ H1 dd ⟨s1,_,hl,hy⟩ hd;exact q dd H1 ys s1 hd hl hy
theorem xo{α:Type}{H0 H:Hp}(f:α->List Int):∀(l:List α)(ys:List V),ys.length=l.length->(∀(i:Nat)(y:V),ys[i]? =some y->∃x t,l[i]? =some x/\y=.ref t/\H0 t=none/\H t=some (.tup ((f x).map V.int)))->∃ps:List (List Int×XB),ys=kRefs ps/\ps.map (·.1)=l.map f/\∀p∈ps,H0 p.2=none/\H p.2=some (.tup (p.1.map V.int))
 | [],[],_,_=>⟨[],rfl,rfl,λ_ z=>nomatch z⟩
 |x::l,y::ys,hl,h=>by
  obtain⟨x',t,e1,rfl,e3,e4⟩:=h 0 y rfl;have e1:x=x':=by simpa using e1
  subst e1;obtain⟨ps,rfl,p2,p3⟩:=xo f l ys (by simpa using hl) λi y hy=>h (i+1) y (by simpa using hy);refine⟨(f x,t)::ps,rfl,by rw[Uw,Uw,p2],λp hp=>?_⟩
  rcases T8.mp hp with rfl|hp
  .exact⟨e3,e4⟩
  .exact p3 p hp
 | [],_::_,hl,_=>by simp at hl
 |_::_,[],hl,_=>by simp at hl
def Kn(wi hi:Int)(hs:List Int)(row:Str)(us:List (bj×XB))(sd sq:Int)(l':List (Int×Int)):Prop:= ∃l,aV wi hi hs row sq sd (ofKind us (one (lo1 (row.cps.toList.getD sq.toNat 0)))) l/\nU l l'
theorem Kn.uniq(h:Kn wi hi hs row us sd sq l)(h':Kn wi hi hs row us sd sq l'):l=l':=by obtain⟨m,a,b⟩:=h;obtain⟨m',a',b'⟩:=h';have e:=a.uniq a';subst e;exact b.uniq b'
def tk3(s:Int)(x:Int×Int):List Int:=[s,x.1,x.2]
inductive jR(wi hi:Int)(hs:List Int)(row:Str)(us:List (bj×XB))(sd:Int):List Int->List (List Int)->Prop
 |nil:jR wi hi hs row us sd [] []
 |cons {s ss l m}:Kn wi hi hs row us sd s l->jR wi hi hs row us sd ss m->jR wi hi hs row us sd (s::ss) (l.map (tk3 s)++m)
theorem jR.uniq:∀{ss:List Int}{m m':List (List Int)},jR wi hi hs row us sd ss m->jR wi hi hs row us sd ss m'->m=m'
 |_,_,_,.nil,.nil=>rfl
 |_,_,_,.cons a b,.cons c d=>by rw[a.uniq c,jR.uniq b d]
theorem jR.add(h:Kn wi hi hs row us sd s l):∀{ss:List Int}{m:List (List Int)},jR wi hi hs row us sd ss m->jR wi hi hs row us sd (ss++[s]) (m++l.map (tk3 s))
 |_,_,.nil=>by
  have:=jR.cons h jR.nil
  rwa[Uo]at this
 |_,_,.cons a b=>by rw[UX];exact .cons a (jR.add h b)
theorem jR.len3:∀{ss:List Int}{m:List (List Int)},jR wi hi hs row us sd ss m->∀k∈m,k.length=3
 |_,_,.nil,_,z=>nomatch z
 |_,_,.cons a b,k,z=>by
  rcases Ul.mp z with w|w
  .obtain⟨x,_,rfl⟩:=T9.mp w;rfl
  .exact jR.len3 b k w
def pQ(H H':Hp)(q:XB)(m:List (List Int)):Prop:= ∃ps:List (List Int×XB),ps.map (·.1)=m/\H' q=some (.lst (kRefs ps))/\∀p∈ps,H p.2=none/\H' p.2=some (.tup (p.1.map V.int))
theorem wA(h1:ps.map (·.1)=m)(hq:∀xs,¬H2 q=some (.tup xs))(h3:∀p∈ps,H p.2=none/\H2 p.2=some (.tup (p.1.map V.int)))(s:aj H H1)(g1:ps2.map (·.1)=m2)(g3:∀p∈ps2,H1 p.2=none/\H2 p.2=some (.tup (p.1.map V.int))):pQ H (upd H2 q (.lst (kRefs ps++kRefs ps2))) q (m++m2):=by
 refine⟨ps++ps2,by rw[Uq,h1,g1],by rw[ah,show kRefs (ps++ps2)=kRefs ps++kRefs ps2 from Uq ..],λp hp=>?_⟩;have ne:∀{p:XB}{xs:List V},H2 p=some (.tup xs)->p≠q:=λa e=>hq _ (e▸a)
 rcases Ul.mp hp with z|z
 .obtain⟨a1,a2⟩:=h3 p z;exact⟨a1,by rw[au (ne a2)];exact a2⟩
 .obtain⟨a1,a2⟩:=g3 p z;exact⟨s.free a1,by rw[au (ne a2)];exact a2⟩
def wD(row:Str)(sd:Int)(n:Nat):List Int:=((List.range n).filter λi=>decide (bX (row.cps.toList.getD i 0)=.int sd)).map λ(i:Nat)=>(i:Int)
theorem uY:wD row sd (n+1)=wD row sd n++if sdV row (n:Int)=.int sd then [(n:Int)]else []:=by
 unfold wD;rw[UU,Vp,Uq];congr 1
 by_cases h:sdV row (n:Int)=.int sd
 .rw[PF h,UV,PF (Pz (p:=bX (row.cps.toList.getD n 0)=.int sd) h)];rfl
 .rw[PD h,UV,PD (by rw[PB (p:=bX (row.cps.toList.getD n 0)=.int sd) h];decide)];rfl
theorem oM(h:s∈sqsOf row sd):0<=s/\s<row.length/\sdV row s=.int sd:=by obtain⟨n,hn,rfl⟩:=T9.mp h;obtain⟨a,b⟩:=UA.mp hn;have:=Uh.mp a;exact⟨by lia,by lia,PH b⟩
theorem oN:(sqsOf row sd).length<=row.length:=by unfold sqsOf;rw[T7];refine VR (UN _ _) ?_;rw[UH];exact VO _
theorem Iu(h:nU l l'):l'.Nodup:=by rw[UC];refine h.2.imp λh e=>?_;rw[e,ko]at h;cases h
theorem xz{K:Frag}{cB cG:XB}{H:Hp}{g b kq:XB}{wi hi:Int}{hs:List Int}{ks:List Nat}{us:List (bj×XB)}{ts es:List ((Str×Str)×XB)}{st row:Str}{sq sd:Int}{Q:VK}(G:kS K cB cG H g b kq wi hi hs ks us ts es st)(R:wo row hs)(rl:(row.length:Int)=wi*hi)(s0:0<=sq)(s1:sq<row.length)(hsd:sdV row sq=.int sd)(q:∀(l':List (Int×Int))(q:XB)(H':Hp),Kn wi hi hs row us sd sq l'->l'.length<64->H q=none->bB H H' q l'->aj H H'->Q (.ref q) H'):pZ K cB cG [.ref g,.str row,.int sq] H Q E0/\mI K cB cG [.ref g,.str row,.int sq] H Q E0:=by
 have B:=G.bd;obtain⟨ekd,sd2⟩:=yi (c:=row.cps.toList.getD sq.toNat 0) hsd;have few:∀l,aV wi hi hs row sq sd (ofKind us (one (lo1 (row.cps.toList.getD sq.toNat 0)))) l->∀m:List (Int×Int),m.Nodup->(∀x∈m,x∈l)->m.length<64:=λl hl m nd hm=>
  NB B.w8 B.h8 B.w1 s0 (by lia) (VR (UN _ _) G.r12) (λz hz=>G.rg z (UA.mp hz).1) hl m nd hm
 have rg0:∀z∈us,¬(z.1.ax=0/\z.1.up=0):=λz hz=>(G.rg z hz).n0;have k:∀(l l':List (Int×Int))(q:XB)(H':Hp),aV wi hi hs row sq sd (ofKind us (one (lo1 (row.cps.toList.getD sq.toNat 0)))) l->nU l l'->H q=none->bB H H' q l'->aj H H'->Q (.ref q) H':=λl l' t H' h1 h2 h3 h4 h5=>
  q l' t H' ⟨l,h1,h2⟩ (few l h1 l' (Iu h2) λx hx=>(h2.1 x).mp hx) h3 h4 h5
 exact⟨⟨g,b,row,_,sq,sd,wi,hi,hs,ks.map strV,bT ts,bT es,st,us,rfl,G.gm,G.bd,G.rl,G.r12,rg0,R.toRowS,rl,s0,by lia,hsd,sd2,ekd,few,k⟩,
  ⟨g,b,row,_,sq,sd,wi,hi,hs,ks.map strV,bT ts,bT es,st,us,rfl,G.gm,G.bd,G.rl,G.r12,rg0,R,rl,s0,by lia,hsd,sd2,ekd,few,k⟩⟩
def jX(K:Frag)(cB cG:XB):Sp:=λvs H Q _=>∃(g b kq p:XB)(row:Str)(sd wi hi:Int)(hs:List Int)(ks:List Nat)(us:List (bj×XB))(ts es:List ((Str×Str)×XB))(st:Str),vs=[.ref g,.ref p]/\kS K cB cG H g b kq wi hi hs ks us ts es st/\da K H p [.str row,.int sd]/\wo row hs/\(row.length:Int)=wi*hi/\
 ∀(m:List (List Int))(q:XB)(H':Hp),jR wi hi hs row us sd (sqsOf row sd) m->m.length<=4096->H q=none->pQ H H' q m->aj H H'->Q (.ref q) H'
structure CMv(P:P6)(w:P9)(K:Frag)(mg:PN)(Px:Qe)(cB cG:XB):Prop where
 squares_of:dG P w K mg Px "squares_of" ["row","side"] 2 oO
 goals:dG P w K mg Px "goals" ["game","row","square"] 5 (pZ K cB cG)
structure CLm(P:P6)(w:P9)(K:Frag)(mg:PN)(Px:Qe)(cB cG:XB):Prop where
 _law_side:dG P w K mg Px "_law_side" ["_law_sign"] 1 jY
 _law_goals:dG P w K mg Px "_law_goals" ["_law_game_here","_law_row_here","_law_square"] 3 (mI K cB cG)
theorem wy{K:Frag}{src:List (Option Nat)}{σ:St}{H0 H:Hp}{Q:VK}{d:XB}{l':List (Int×Int)}{ps:List (List Int×XB)}{sq:Int}{te:TE}(s0:aj H0 H)(p1:ps.map (·.1)=l'.map pk)(hx:H d=some (.lst (kRefs ps)))(p3:∀p∈ps,H p.2=some (.tup (p.1.map V.int)))(l64:l'.length<64)(hs:eW src σ=[none,some (.int sq)])(ht:∀(a:XB)(x y:Int)(H':Hp)(Q:VK),H' a=some (.tup [.int x,.int y])->(∀t,H' t=none->Q (.ref t) (upd H' t (.tup [.int sq,.int x,.int y])))->te [oR a,oJ sq] H' Q)(q:∀d' H' ps2,aj H H'->H' d'=none->ps2.map (·.1)=l'.map (tk3 sq)->(∀p∈ps2,H0 p.2=none/\H' p.2=some (.tup (p.1.map V.int)))->Q (.ref d') (upd H' d' (.lst (kRefs ps2)))):dC (gName 0) lF te src σ Q (Ck K d) H:=by
 have z:=PM List.length p1;rw[T7,T7]at z;refine rY (rest:=[oJ sq]) hx (by rw[T7,P4];lia) hs (λj H' v=>∃x t,l'[j]? =some x/\v=.ref t/\H0 t=none/\H' t=some (.tup ((tk3 sq x).map V.int))) (λi H H' v h s=>?_) (λi x H' hx' s' Q' q'=>?_) (λd' H' ys s' hd hl hy=>?_)
 .obtain⟨x,t,a,b,c,e⟩:=h;exact⟨x,t,a,b,c,s _ _ e⟩
 .have hi:i<ps.length:=by
   have:=(Um.mp hx').1
   rwa[T7]at this
  have hi2:i<l'.length:=by lia
  rw[Ub,Ua hi]at hx';obtain rfl:V.ref ps[i].2=x:=PL hx';have e:ps[i].1=pk l'[i]:=by
   have a:(ps.map (·.1))[i]? =some ps[i].1:=by rw[Ub,Ua hi];rfl
   rw[p1,Ub,Ua hi2]at a;exact(PL a).symm
  have h4:=s' _ _ (p3 _ (Uv hi));rw[e]at h4;refine ht _ l'[i].1 l'[i].2 H' Q' h4 λt ht=>q' _ _ ⟨l'[i],t,Ua hi2,rfl,(s0.trans s').free ht,ah⟩ ((aj.refl H').upd ht)
 .obtain⟨ps2,rfl,e1,e2⟩:=xo (tk3 sq) l' ys (by rw[hl,T7];exact z) hy;exact q d' H' ps2 s' hd e1 e2
theorem zg{K:Frag}{σ:St}{H:Hp}{t:TA}{tb:TE}{c:Nat}{sd:Int}(h:Av t σ H [.str (one c)])(hc:Sg c)(hb:Ev tb σ H (.int sd)):Ev (dE K .Eq (cY jY t) tb) σ H (.bl (decide (bX c=.int sd))):=λQ q=>h _ ⟨c,rfl,hc,hb _ (by rw[qd];exact q)⟩
theorem BX(h:t σ H λvs H1=>sp vs H1 Q E0):cY sp t σ H Q:=h
theorem No{K:Frag}{ta ti:TE}{σ:St}{H:Hp}{Q:VK}(h:ta σ H λx H1=>ti σ H1 λy H2=>JE K x y H2 Q):xP K ta ti σ H Q:=h
theorem J4(h:Av t σ H vs)(q:sp vs H (eT R) E0):dD (cY sp t) σ H R:=h _ q
theorem jm:plainId "dict.update.loop"=true:=by decide+kernel
theorem pH:TL table "dict.update.loop"=some Builtin.«dict.update.loop» :=entryFor_of_fast (by kernel_rfl)
section
variable{prog:P6}{w:P9}
variable{K:Type}[DecidableEq K]{knd:KeyKind prog w K}
def gU(kvs:List (K×h9)):List (K×h9)->List (K×h9)
 | []=>kvs
 |p::ps=>gU (T0 kvs p.1 p.2) ps
theorem uW{kvs:List (K×h9)}{k:K}{v:h9}:(T0 kvs k v).length<=kvs.length+1:=by
 unfold T0;split
 .rw[T7];lia
 .rw[Uj];exact VO _
end
theorem DI(h:x∈rK row sd so ai path):x.1∈path/\(x.2= -1\/x.2∈path):=by
 have sl:∀p:List Int,(∀y∈p,y∈path)->x∈dk row sd ai p->x.1∈path/\(x.2= -1\/x.2∈path):=λp hp hx=>by
  obtain⟨g,hg,rfl⟩:=T9.mp ((mf row sd ai p).subset hx);refine⟨hp g hg,?_⟩;unfold prG;show(if sdV row g=.non then(-1:Int)else g)= -1\/(if sdV row g=.non then(-1:Int)else g)∈path;split
  .exact .inl rfl
  .exact .inr (hp g hg)
 unfold rK at h;split at h
 .match path,h with
  | [],h=>simp[jumpL]at h
  | [_],h=>simp[jumpL]at h
  |a::b::r,h=>
   have h:x∈(if sdV row a=.int (1 - sd)/\sdV row b=.non then [(b,a)]else []):=h;split at h
   .have e:=Ud.mp h;rw[e];exact⟨by simp,.inr (by simp)⟩
   .simp at h
 .refine sl _ (λy hy=>?_) h;split at hy
  .exact UO hy
  .exact hy
structure Pp(wi hi:Int)(hs:List Int)(row:Str)(sd s gl t:Int):Prop where
 s0:0<=s
 s1:s<row.length
 sd:sdV row s=.int sd
 g0:0<=gl
 g1:gl<wi*hi
 gn:¬gl∈hs
 tk:t= -1\/(0<=t/\t<wi*hi/\¬t∈hs)
theorem aV.inn(w1:1<=wi):∀{us:List (bj×XB)}{l:List (Int×Int)},aV wi hi hs row sq sd us l->∀x∈l,(0<=x.1/\x.1<wi*hi/\¬x.1∈hs)/\(x.2= -1\/(0<=x.2/\x.2<wi*hi/\¬x.2∈hs))
 |_,_,.nil,_,h=>nomatch h
 |_,_,.cons a b,x,h=>by
  rcases Ul.mp h with w|w
  .obtain⟨n,ry,_,rfl⟩:=a;obtain⟨h1,h2⟩:=DI w;refine⟨qu w1 ry _ h1,?_⟩
   rcases h2 with e|e
   .exact .inl e
   .exact .inr (qu w1 ry _ e)
  .exact aV.inn w1 b x w
theorem jR.ok(w1:1<=wi):∀{ss:List Int}{m:List (List Int)},jR wi hi hs row us sd ss m->(∀s∈ss,0<=s/\s<row.length/\sdV row s=.int sd)->∀k∈m,∃s gl t,k=[s,gl,t]/\Pp wi hi hs row sd s gl t
 |_,_,.nil,_,_,z=>nomatch z
 |_,_,@jR.cons _ _ _ _ _ _ s ss l m a b,hss,k,z=>by
  rcases Ul.mp z with w|w
  .obtain⟨x,hx,rfl⟩:=T9.mp w;obtain⟨l0,hl,hs'⟩:=a;obtain⟨i1,i2⟩:=hl.inn w1 x ((hs'.1 x).mp hx);obtain⟨a1,a2,a3⟩:=hss s Ui;exact⟨s,x.1,x.2,rfl,a1,a2,a3,i1.1,i1.2.1,i1.2.2,i2⟩
  .exact jR.ok w1 b (λy hy=>hss y (Ue _ hy)) k w
theorem Jr{K:Frag}{t:TA}{ti:TE}{σ:St}{H:Hp}{Q:VK}{vs:List V}{v:V}{i:Int}(h:Av t σ H vs)(hz:vs.length<=1000)(hi:∀H',aj H H'->Ev ti σ H' (.int i))(e:jd vs i=some v)(q:∀H',aj H H'->Q v H'):xP K (uU t) ti σ H Q:=h _ ⟨VR hz (by decide),λp hp=>hi _ ((aj.refl H).upd hp) _ ⟨vs,v,.inl (aO.of ah),e,q _ ((aj.refl H).upd hp)⟩⟩
theorem Dv{K:Frag}{h:Qe}{C:XB}{bmB:List h9}{newId:String}(X:K.In h)(q:Xb K C bmB newId=true):∃bm N nm qn bs hdct sn sub ab col dd k0 k1 k2 k3 k5 mN,h.get? C=some (excClassObj nm qn C N bs bm hdct sn sub ab col dd k0 k1 k2 k3 k5 newId)/\h.Ns N mN/\mN "__init__"=none/\OwnTail h bmB bm:=by
 unfold Xb at q;split at q
 .rename_i dd cd sl ho;split at q
  .rename_i C' bm k0 k1 k2 k3 n k5 hm hs;simp only[Ws,beq_iff_eq,Wz]at q;obtain⟨⟨⟨⟨⟨rfl,rfl⟩,hdel⟩,ht⟩,hok⟩,hni⟩:=q;obtain⟨nm,bs,mro,ns,qn,hd,sn,sub,ab,col,del⟩:=cd;dsimp only at hm hdel hok hni;subst hm hdel;have hsl:sl= #[k0,k1,k2,k3,some (.builtin n),k5]:=by obtain⟨l⟩:=sl;simp only at hs;rw[hs]
   subst hsl;exact⟨bm,ns,nm,qn,bs,hd,sn,sub,ab,col,dd,k0,k1,k2,k3,k5,_,X _ _ ho,.of_isNs (PySem.W.isNs_of_in X hok),PySem.W.nsMap_none_of_in X hok hni,PySem.W.tail_of_in X ht⟩
  .cases q
 .cases q
def Im(ta:TA)(G:Hp->Prop):TS:=λ_ σ H=>ta σ H λvs H1=>vs.length<=fv/\G H1
theorem AA{X:Cx}{x:Str}{C:XB}{e₀:Qx}{rest:List Qx}{np cpos pos:So}{ta:TA}{G:Hp->Prop}{bmB:List h9}{B newId initId:String}(FB:ExcBaseFacts B newId initId bmB)(hc:X.calm=true)(hg:Gl X x)(hm:X.mg x=some (.ref C))(q:Xb X.K C bmB newId=true)(ha:PA X (e₀::rest) ta)(hx:∀Pw σ H s h' e vs,aJ X Pw σ H s->Heap.MadeExcOf s.heap h' e (.ref C) vs->G H->X.xe (.ref e) {s with heap:=h'})(he:P1 (e₀::rest) X.env=(false,Qk e₀ X.env)::P1 rest X.env:=by rfl)(hpl:(Qh cpos (P1 rest X.env)).any (·.1)=false:=by rfl)(hdb:(x == ("__debug__":Str))=false:=by decide):PS X (.Raise (some (.Call (.Name x np) (e₀::rest) [] cpos)) none pos) (Im ta G):=by
 intro Pw s σ H D I h;obtain⟨tl,N,nm,qn,bs,hdct,sn,sub,ab,col,dd,k0,k1,k2,k3,k5,mN,hC,hN,hni,T⟩:=Dv I.ok.mod.kin q;refine wpAny_Raise_call_subT (C:=C) (nm:=nm) (q:=qn) (N:=N) (bs:=bs) (bm:=tl) (hdct:=hdct) (sn:=sn) (sub:=sub) (ab:=ab) (col:=col) (dd:=dd) (k0:=k0) (k1:=k1) (k2:=k2) (k3:=k3) (k5:=k5)
  FB (mN:=mN) (T.hasType FB.hasBase) (I.ok.hd hc) (by rw[he];show(false||(Qh cpos (P1 rest X.env)).any (·.1))=false;rw[hpl];rfl) hni (iq I hg hm ⟨rfl,?_⟩ hdb)
 have h2:=ha cpos Pw s σ H _ I h;rw[he]at h2 ⊢;refine QA (bL h2 λus s2 ⟨vs,H1,I1,r,z,g⟩=>?_);exact⟨rfl,by rw[<-r.length];exact z,I1.bk _ _ hC,hN.keeps I1.bk,T.keeps I1.bk,λh' e hm=>hx Pw σ H1 s2 h' e us I1 hm g⟩
theorem bE.obj(x:bE P w H h a o):∃u,h.get? a=some u:=by
 cases o with
 |lst xs=>obtain⟨_,_,_,_,e⟩:=x;exact⟨_,e⟩
 |tup xs=>obtain⟨_,_,_,o,e,_⟩:=x;exact⟨o,e⟩
 |dK kvs=>obtain⟨_,_,_,_,o,_,_,e,_⟩:=x;exact⟨o,e⟩
 |dT kvs=>obtain⟨_,_,_,_,o,_,_,e,_⟩:=x;exact⟨o,e⟩
 |set S n=>obtain⟨o,_,_,_,e,_⟩:=x;exact⟨o,e⟩
 |ins C dx fs=>obtain⟨_,_,_,e,_⟩:=x;exact⟨_,e⟩
 |own y=>exact x
 |xd fs=>obtain⟨_,⟨o,_,_,e,_⟩,_⟩:=x;exact⟨o,e⟩
 |rng lo hi=>obtain⟨_,_,_,e⟩:=x;exact⟨_,e⟩
 |frz ob u=>obtain⟨e,_⟩:=x;exact⟨_,e⟩
 |tbl ps=>exact⟨_,(show h.get? a=some _ from x)⟩
 |met f y=>exact⟨_,(show h.get? a=some _ from x)⟩
 |ext φ=>obtain⟨_,e,_⟩:=x;exact e
def Ic(P:P6)(w:P9):zA:=λPy H s E e s'=>∃(a:XB)(cls a0:h9)(B:Qe)(H':Hp),e=.ref a/\s'.os=s.os/\RW s'.gens/\s.heap.get? a=none/\H' a=none/\
 Heap.FlyingW B Py a cls a0 s'.heap/\jT P w H' B/\Un (jU Py) [] H H' s.heap s'.heap/\(∀b o,s.heap.get? b=some o->H b=none->b∉jU Py->B.get? b=some o)/\
 (∀b o,s.heap.get? b=some o->b∉jU Py->∃o',B.get? b=some o')/\E cls none H'
theorem tX{P:P6}{w:P9}{K:Frag}{mg:PN}{Px:Qe}{N:List Str}{qual:Str}{scope:RS}{f:XB}{cd:h9}{A:QD}{Py:List Tz}{s:PZ}{H:Hp}{E:XK}{C:XB}:∀Pw σ H1 s1 h' e vs,aJ (l8 (Ic P w) P w K mg Px N qual scope f cd A Py s H E) Pw σ H1 s1->Heap.MadeExcOf s1.heap h' e (.ref C) vs->E (.ref C) none H1->(l8 (Ic P w) P w K mg Px N qual scope f cd A Py s H E).xe (.ref e) {s1 with heap:=h'}:=by
 intro Pw σ H1 s1 h' e vs I hm hE;have fr:(A.deeper (Rj qual scope s.heap.objs.size f cd)).frames=some (Rj qual scope s.heap.objs.size f cd::Py):=I.ok.frames;have ST:s1.heap.FunFrames Px (Rj qual scope s.heap.objs.size f cd::Py):=I.stack;have BU:Un (jU Py) [] H H1 s.heap s1.heap:=I.Px;have hin:∀env∈(Rj qual scope s.heap.objs.size f cd::Py),∀b,env.frame=some b->b∈jU (Rj qual scope s.heap.objs.size f cd::Py):=λenv he b hb=>UF.mpr ⟨env,he,hb⟩;have sub:∀b,b∈jU Py->b∈jU (Rj qual scope s.heap.objs.size f cd::Py):=λb hb=>by obtain⟨env,he,hf⟩:=UF.mp hb;exact UF.mpr ⟨env,Ue _ he,hf⟩
 have notin:∀b o,s.heap.get? b=some o->b∉jU Py->b∉jU (Rj qual scope s.heap.objs.size f cd::Py):=λb o q nb hb=>by
  obtain⟨env,he,hf⟩:=UF.mp hb
  rcases T8.mp he with rfl|he
  .have:s.heap.objs.size=b:=PL hf;rw[<-this]at q;exact PK (PY q) (VV _)
  .exact nb (UF.mpr ⟨env,he,hf⟩)
 show P2 _ _ (leaving _ _) _ _ _;refine wpAny_leaves_madeW (base:=Xn s1.heap (jU (Rj qual scope s.heap.objs.size f cd::Py))) fr rfl (λb o q=>Xo _ q) (PySem.W.funFrames_hide ST hin) hm λh2 t x1 x2 x3 x4=>?_;have data:∀b o,s1.heap.get? b=some o->b∈jU Py->∃sl,h2.get? b=some {o with slots:=sl}:=λb o q hb=>by obtain⟨_,o',q',nd⟩:=ST.mem (sub b hb);rw[q]at q';cases q';exact x4 b o (hm.keeps b o q) nd
 refine⟨e,_,_,_,H1,rfl,I.os,I.bare,?_,?_,x1,?_,⟨λb o q n hb hx=>?_,λb o q n hb hx=>?_,BU.free,λb o q hx=>?_,BU.tups,BU.frzs,BU.tbls⟩,λb o q n hb=>?_,λb o q hb=>?_,hE⟩
 .cases q:s.heap.get? e with
  |none=>rfl
  |some o=>
   obtain⟨o',q'⟩:=BU.there e o q (by simp);rw[hm.new]at q';cases q'
 .cases q:H1 e with
  |none=>rfl
  |some o=>
   obtain⟨o',q'⟩:=(I.hok e o q).obj;rw[hm.new]at q';cases q'
 .intro b o q;refine(I.hok b o q).stay (λc v hc z=>W6 _ z λhb=>?_) (λ_ z=>z) λ_ _ z=>z;have fz:=I.stkFree c hb
  rcases hc with rfl|hc
  .rw[q]at fz;cases fz
  .rw[hc]at fz;cases fz
 .exact x1.1 b o (W6 _ (BU.keep b o q n hb hx) (notin b o q hb))
 .obtain⟨sl,q1⟩:=BU.slot b o q n hb hx;obtain⟨sl',q2⟩:=data b _ q1 hb;exact⟨sl',q2⟩
 .obtain⟨o',q1⟩:=BU.there b o q hx
  by_cases hb:b∈jU Py
  .obtain⟨sl,q2⟩:=data b _ q1 hb;exact⟨_,q2⟩
  .exact⟨o',x1.1 b o' (W6 _ q1 (notin b o q hb))⟩
 .exact W6 _ (BU.keep b o q n hb (by simp)) (notin b o q hb)
 .obtain⟨o',q1⟩:=BU.there b o q (by simp);exact⟨o',W6 _ q1 (notin b o q hb)⟩
theorem cZ.okX{P:P6}{w:P9}{K:Frag}{mg:PN}{Px:Qe}{x qual:Str}{st:Ql}{f:XB}{fd:Qf}{N ps:List Str}{k:Nat}{sp:Sp}(F:cZ K x qual st f fd)(S:aD N ps (am st))(len:∀vs H Q E,sp vs H Q E->vs.length=ps.length)(hbody:∀(cdv:h9)(A:QD)(Py:List Tz)(s:PZ)(H:Hp)(vs:List V)(Q:VK)(E:XK),cK k (A.deeper (Rj qual (am st) s.heap.objs.size f cdv))->sp vs H Q E->
   ∃t,oE (l8 (Ic P w) P w K mg Px N qual (am st) f cdv A Py s H E) (dj st) t/\t {nx:=λ_ H'=>Q .non H',rt:=Q} (start N vs) H):bh P w K mg Px (Ic P w) (k+1) f fd ps sp:=by
 obtain⟨oc,od,kV,doc,pm,an,cdv,ct,osl,rfl,lk,hcd⟩:=F.ex;exact HN lk hcd S len λA Py s H vs Q E hr hsp=>hbody cdv A Py s H vs Q E hr hsp
section
variable{X:Cx}{Pw:PQ}{σ:St}{H H':Hp}{s s':PZ}
abbrev Cx.hand(X:Cx)(e:XB):Cx:={X with A:=X.A.mark (some (.ref e)),calm:=false}
theorem aJ.hand(I:aJ X Pw σ H s)(e:XB):aJ (X.hand e) Pw σ H s:=
 ⟨⟨I.ok.mod,I.ok.kind,I.ok.glob,I.ok.blt,I.ok.above,I.ok.inj,I.ok.has,I.ok.cab,λz=>(Bool.noConfusion z),I.ok.frames,I.ok.stk,I.ok.exf,I.ok.bs,I.ok.bsz,I.ok.noex,I.ok.exfs,I.ok.funs,I.ok.frf⟩,I.os,I.bare,I.Px,I.loc,I.cell,I.free,I.freeC,I.pin,I.hok,I.len⟩
theorem aJ.unhand(ok:X.Ok)(I:aJ (X.hand e) Pw σ H s):aJ X Pw σ H s:=⟨ok,I.os,I.bare,I.Px,I.loc,I.cell,I.free,I.freeC,I.pin,I.hok,I.len⟩
theorem aJ.flown{a:XB}{cls a0:h9}{B h5:Qe}(I:aJ X Pw σ H s)(os:s'.os=s.os)(bare:RW s'.gens)(ff:s'.heap.FunFrames B X.stack)(fl:B.StaysIn h5)(hok:jT X.prog X.w H' B)(un:Un (jU X.stack) [] H H' s.heap s'.heap)(u:s'.heap.UpToSlots h5)(c1:∀b o,s.heap.get? b=some o->H b=none->b∉jU X.stack->B.get? b=some o)(c2:∀b o,s.heap.get? b=some o->b∉jU X.stack->∃o',B.get? b=some o'):aJ X Pw σ H' {s' with heap:=h5}:=by
 refine I.call' (s':={s' with heap:=h5}) (ch:=[]) os ⟨λb o q n hb _=>fl b o (c1 b o q n hb),λb o q n hb hx=>?_,un.free,λb o q hx=>?_,un.tups,un.frzs,un.tbls⟩ (hok.kept fl) bare (λb z=>PK z (by simp))
 .obtain⟨sl,q1⟩:=un.slot b o q n hb hx;obtain⟨_,o',q',nd⟩:=ff.mem hb;rw[q1]at q';cases q';obtain⟨sl',q2⟩:=u b _ q1 nd;exact⟨sl',q2⟩
 .by_cases hb:b∈jU X.stack
  .obtain⟨_,o',q',nd⟩:=ff.mem hb;obtain⟨sl',q2⟩:=u b _ q' nd;exact⟨_,q2⟩
  .obtain⟨o',q'⟩:=c2 b o q hb;exact⟨o',fl b o' q'⟩
def Ch(cls:h9)(a:XB):HO:=.ext λh=>∃o,h.get? a=some o/\o.cls=cls
theorem aJ.track(I:aJ X Pw σ H s)(ho:∃o,s.heap.get? a=some o/\o.cls=cls)(hn:H a=none)(I1:aJ X Pw σ H1 s1)(new:s1.heap.get? a=none):aJ X Pw σ (upd H a (Ch cls a)) s:=by
 have neq:∀b u,s1.heap.get? b=some u->b≠a:=λb u q z=>by rw[z,new]at q;cases q
 have neH:∀b u,H b=some u->b≠a:=λb u q z=>by rw[z,hn]at q;cases q
 refine⟨I.ok,I.os,I.bare,⟨I.Px.keep,I.Px.slot,λb o q n hx=>?_,I.Px.there,λb xs q=>?_,λb o u q=>?_,λb ps q=>?_⟩,I.loc,I.cell,?_,λx c q=>?_,λp hp=>?_,λb u q=>?_,I.len⟩
 .obtain⟨o',q'⟩:=I1.Px.there b o q hx;rw[au (neq b o' q')];exact I.Px.free b o q n hx
 .rw[au (neH b _ (I.Px.tups b xs q))];exact I.Px.tups b xs q
 .rw[au (neH b _ (I.Px.frzs b o u q))];exact I.Px.frzs b o u q
 .obtain⟨m,z⟩:=I.Px.tbls b ps q;exact⟨m,by rw[au (neH b _ z)];exact z⟩
 .obtain⟨m,⟨o,_,_,q,_⟩,_⟩:=I1.loc;rw[au (neq _ o q)];exact I.free
 .obtain⟨v,o,z,_⟩:=I1.cell x c q;rw[au (neq c o z)];exact I.freeC x c q
 .obtain⟨e,n,ne,nf,d⟩:=I.pin p hp;exact⟨e,by rw[au (neq _ _ (I1.pin p hp).1)];exact n,ne,nf,d⟩
 .by_cases hb:b=a
  .subst hb;rw[ah]at q;cases q;obtain⟨o,h1,h2⟩:=ho;exact⟨⟨o,h1,h2⟩,⟨o,h1⟩,λg1 g2 ⟨o',y1,y2⟩ k=>⟨o',k o' y1,y2⟩⟩
  .rw[au hb]at q;exact(I.hok b u q).stay (λ_ _ _ z=>z) (λc z=>by rw[au (neH c _ z)];exact z) λc xs z=>by rw[au (neH c _ z)];exact z
theorem aJ.forget(I:aJ X Pw σ H s)(hn':h'.Ns X.env.locals m')(hs:QL X.env.locals s.heap h'):aJ X Pw (List.replicate X.N.length none) H {s with heap:=h',toks:=t'}:=by
 obtain⟨m,hn,_⟩:=id I.loc;obtain⟨oL,_,_,hoL,_⟩:=id hn;have old:∀b o,X.s₀.heap.get? b=some o->h'.get? b=s.heap.get? b:=λb o e=>hs.2 b (VP (VS (PY e) I.ok.above));refine⟨I.ok,I.os,I.bare,⟨λb o e n hb hx=>?_,λb o e n hb hx=>?_,I.Px.free,λb o e hx=>?_,I.Px.tups,I.Px.frzs,I.Px.tbls⟩,⟨_,hn',λj y v e1 e2 e3=>?_⟩,λy c e=>?_,I.free,I.freeC,λp hp=>?_,λb ob e=>?_,by simp⟩
 .exact(old b o e).trans (I.Px.keep b o e n hb hx)
 .obtain⟨sl,e1⟩:=I.Px.slot b o e n hb hx;exact⟨sl,(old b o e).trans e1⟩
 .obtain⟨o',e1⟩:=I.Px.there b o e hx;exact⟨o',(old b o e).trans e1⟩
 .rw[VA]at e2;split at e2<;>cases e2
 .obtain⟨w',z⟩:=I.cell y c e;exact⟨w',z.sameBut hs (I.cne y c e)⟩
 .obtain⟨e,n,ne,nf,d⟩:=I.pin p hp;exact⟨(hs.2 p.1 ne).trans e,n,ne,nf,d⟩
 .refine(I.hok b ob e).stay (λc w' hc q=>(hs.2 c ?_).trans q) (λ_ q=>q) λ_ _ q=>q;rintro rfl;have fz:=I.free
  rcases hc with z|hc
  .rw[z,e]at fz;cases fz
  .rw[hc]at fz;cases fz
end
def Hn(K:Frag)(C0:XB)(sp:Sp)(i:Nat)(ta:TA)(ts:TS)(q:iI->St->VK):TS:=λD σ H=>ta σ H λvs H1=>sp vs H1 (q D σ) λcls _ H2=>Xc K cls (.ref C0)=some true/\
 ∀a,H2 a=none->ts {nx:=λ_ _=>False,rt:=D.rt} (σ.set i (some (.ref a))) (upd H2 a (Ch cls a))
structure DW(P:P6)(w:P9)(K:Frag)(mg:PN)(Px:Qe)(name:Str)(ps:List Str)(k:Nat)(sp:Sp):Prop where
 ex:∃f fd,bh P w K mg Px (Ic P w) k f fd ps sp/\mg name=some (.ref f)/\W1 K (.ref f)=true/\ig K fd ps []
section
variable{X:Cx}{e:Qx}{es:List Qx}{ta:TA}{ts:TS}{p pos bpos np hpos tpos:So}{sp:Sp}{k j i:Nat}{name xc n:Str}{ps:List Str}{C0:XB}{b₀:Ql}{suite:List Ql}
theorem OZ{Pw:PQ}{σ:St}{H1:Hp}{s1 s':PZ}{D:iI}{e:h9}{E:XK}(I1:aJ X Pw σ H1 s1)(hn:∀e s,X.xe e s->False)(hstk:X.stack=X.env::X.Py)(hfr:X.env.frame=some X.env.locals)(hgc:Gl X xc)(hmc:X.mg xc=some (.ref C0))(hN:X.N.Nodup)(hi:X.N[i]? =some n)(hx:X.env.scope.names.lookup n=some .local)(hs:∀a,oE (X.hand a) (b₀::suite) ts)(z:Ic X.prog X.w X.stack H1 s1 E e s')(hE:∀cls d H2,E cls d H2->Xc X.K cls (.ref C0)=some true/\∀a,H2 a=none->ts {nx:=λ_ _=>False,rt:=D.rt} (σ.set i (some (.ref a))) (upd H2 a (Ch cls a)))(hdb:(xc == ("__debug__":Str))=false):P2 (P7 X.prog X.w) X.A (noteFrame e X.env) (λ_ s₂=>P2 (P7 X.prog X.w) X.A (setFlight e none) (λ_ s₃=>P2 (P7 X.prog X.w) X.A (handleBy e X.env [.ExceptHandler (some (.Name xc np)) (some n) (b₀::suite) hpos]) (SP X Pw D) X.xe s₃) X.xe s₂) X.xe s':=by
 obtain⟨a,cls,a0,B,H',rfl,os,bare,new,ha,fl,hok,un,c1,c2,hE'⟩:=z;obtain⟨hit,hts⟩:=hE _ _ _ hE';have ff:=fl.2.2.1;rw[hstk]at fl;refine wpAny_looks_onW (I1.ok.frames.trans (by rw[hstk])) hfr fl λh4 hl4 u4=>?_;refine wpAny_landsW hl4 λh5 fl5 u5=>?_;have I5:aJ X Pw σ H' {s' with heap:=h5}:=I1.flown (a:=a) (cls:=cls) (a0:=a0) os bare ff fl5.1 hok un (u4.trans u5) c1 c2;have J5:=I5.hand a;refine wpAny_handleBy_cons (codeAny_handlers_test (iq (X:=X.hand a) J5 hgc hmc ?_ hdb)) (by intro q;cases q);have LT:PySem.W.Looks (P7 X.prog X.w) h5 (TZ (.ref a)) cls:=by obtain⟨ob,hob,hc⟩:=fl5.there;subst hc;exact(PySem.W.Looks.ld hob).andThen .now
 refine(PySem.W.exm_one (h:=h5) I5.kIn LT hit).here ?_;refine codeAny_handlers_suite_as ?_;refine lands_againW fl5 λh6 fl6 u6=>?_;have I6:aJ X Pw σ H' {s' with heap:=h6}:=I1.flown (a:=a) (cls:=cls) (a0:=a0) os bare ff fl6.1 hok un ((u4.trans u5).trans u6) c1 c2;have I7:=I6.track (cls:=cls) fl6.there ha I1 new;refine mE (X:=X.hand a) (v:=.ref a) (I7.hand a) hN hi (.inl hx) rfl (λs7 I8=>?_) (.inr hx);refine Qz (hs a Pw s7 _ _ _ I8 (hts a ha)) (λf s8 q=>?_) λ_ _ q=>(hn _ _ q).elim;cases f with
 |next=>obtain⟨_,_,_,q⟩:=q;exact q.elim
 |brk=>obtain⟨_,_,_,q⟩:=q;exact q.elim
 |cont=>obtain⟨_,_,_,q⟩:=q;exact q.elim
 |ret u=>
  obtain⟨v,σ',H8,J8,rv,q⟩:=q;have K8:=J8.unhand I1.ok;obtain⟨m,hm,_⟩:=K8.loc;refine wpAny_nameGoes hx hm (by rw[K8.ok.kind];rfl) λh9 m9 hm9 sb=>?_;exact⟨v,_,H8,K8.forget hm9 sb,rv,q⟩
theorem CD{f:XB}{fd:Qf}{CX:zA}{E:XK}{Pw:PQ}{σ:St}{H:Hp}{s:PZ}{Q:VK}{us:List h9}{vs:List V}{E':PP}(F:bh X.prog X.w X.K X.mg X.Px CX k f fd ps sp)(hr:cK k X.A)(hb:ig X.K fd ps [])(I:aJ X Pw σ H s)(r:aZ vs us)(h:sp vs H Q E)(hx:∀e s',CX X.stack H s E e s'->E' e s'):P2 (P7 X.prog X.w) X.A (call (.ref f) us) (EP X Pw σ Q) E' s:=by
 have hl:(us++[]).length=ps.length:=by rw[Uo,<-r.length];exact F.len _ _ _ _ h
 have hb':=hb s us I.kIn hl;rw[Uo]at hb';refine Rv (QP (F.run X.A X.stack s H ⟨us,[]⟩ us vs Q E hr I.env0 hb' r h) λr s' hq=>?_);cases r with
 |error e=>exact hx e s' hq
 |ok fl=>
  cases fl with
  |ret u=>exact I.after hq
  |next=>exact False.elim hq
  |brk=>exact False.elim hq
  |cont=>exact False.elim hq
theorem NO{Pw:PQ}{σ:St}{H:Hp}{s:PZ}{Q:VK}{E:XK}{E':PP}(C:DW X.prog X.w X.K X.mg X.Px name ps k sp)(hr:cK j X.A)(hkj:k<=j)(hn:∀e s,X.xe e s->False)(ha:PA X (e::es) ta)(I:aJ X Pw σ H s)(h:ta σ H λvs H1=>sp vs H1 Q E)(hx:∀H1 s1 e s',aJ X Pw σ H1 s1->Ic X.prog X.w X.stack H1 s1 E e s'->E' e s')(hg:Gl X name)(hdb:(name == ("__debug__":Str))=false)(hp:(e::es).all eX=true):P2 (P7 X.prog X.w) X.A (Qk (.Call (.Name name p) (e::es) [] pos) X.env) (EP X Pw σ Q) E' s:=by obtain⟨f,fd,F,hm,hk,hb⟩:=C.ex;have hp':=hp;rw[Uy,Ws]at hp';refine Qt (iq I hg hm ?_ hdb);refine Xa (h₀:=X.Px) I.ok.mod.kin hk (Qz (ha pos Pw s σ H _ I h) (λus s1 ⟨vs,H1,I1,r,q⟩=>⟨I1.kIn,?_⟩) λ_ _ z=>(hn _ _ z).elim) (eC hp'.1) (fZ hp'.2);exact CD F (hr.mono hkj) hb I1 r q λe s' z=>hx _ _ e s' I1 z
theorem CQ(C:DW X.prog X.w X.K X.mg X.Px name ps k sp)(hr:cK j X.A)(hn:∀e s,X.xe e s->False)(ha:PA X (e::es) ta)(hmc:X.mg xc=some (.ref C0))(hN:X.N.Nodup)(hi:X.N[i]? =some n)(hs:∀a,oE (X.hand a) (b₀::suite) ts)(hkj:k<=j:=by decide)(hstk:X.stack=X.env::X.Py:=by rfl)(hfr:X.env.frame=some X.env.locals:=by rfl)(hx:X.env.scope.names.lookup n=some .local:=by rfl)(hgc:Gl X xc:=by rfl)(hg:Gl X name:=by rfl)(hdb:(name == ("__debug__":Str))=false:=by decide)(hdc:(xc == ("__debug__":Str))=false:=by decide)(hp:(e::es).all eX=true:=by rfl):PS X (.Try [.Return (some (.Call (.Name name p) (e::es) [] pos)) bpos] [.ExceptHandler (some (.Name xc np)) (some n) (b₀::suite) hpos] [] [] tpos) (Hn X.K C0 sp i ta ts λD _=>D.rt):=by intro Pw s σ H D I h;refine wpAny_Try_except (RT (Su (Qz (NO C hr hkj hn ha I h (λH1 s1 e s' I1 z=>?_) hg hdb hp) (λv s1 ⟨x,H2,I2,r,z⟩=>⟨x,σ,H2,I2,r,z⟩) λ_ _ z=>z)));exact OZ I1 hn hstk hfr hgc hmc hN hi hx hs z (λ_ _ _ z=>z) hdc
end
end L2
namespace PySem.W
open PySem PySem.Spec PySem.Calls PyProof.Rows Builtin Builtin.ObjectAttr Builtin.Getset_descriptor
structure ExcC(K:Frag)(D:XB):Prop where
 ga:findIn K (.ref D) "__getattribute__"=some (some (.builtin "BaseException.__getattribute__"))
 gh:findIn K (.ref D) "__getattr__"=some none
 ha:findIn K (.ref D) "__class__"=some (some (.builtin "object.__class__"))
 hn:specialIn K (.builtin "object.__class__") "__get__"=some (some (.builtin "getset_descriptor.__get__"))
 htk:takesIn K (.builtin "object.__class__")=some true
 hm:mroIn K D (.type "object")=some true
 hb:mroIn K D (.type "BaseException")=some true
 hc:(clsIn K D).isSome=true
section
variable{prog:P6}{w:P9}{A:QD}{E:PP}{s:PZ}{K:Frag}{x D:XB}{o:Obj}
theorem N5(ho:h.get? x=some o)(hc:o.cls=.ref D):Looks M h (TZ (.ref x)) (.ref D):=hc▸(Looks.ld ho).andThen .now
theorem My(F:ExcC K D)(X:K.In h):Looks M h (find (.ref x) (.ref D) "__class__") (.bind (.builtin "getset_descriptor.__get__") (.builtin "object.__class__")):=
 (TJ X F.ha).andThen ((show Looks M h (getOf (some (.builtin "object.__class__"))) (some (.builtin "getset_descriptor.__get__"))from looks_specialIn X F.hn).andThen
  ((show Looks M h (dataDescriptor? (some (.builtin "object.__class__")) (some (.builtin "getset_descriptor.__get__"))) (some (.builtin "getset_descriptor.__get__",.builtin "object.__class__"))from(looks_takesIn X F.htk).andThen .now).andThen (Looks.tag .now)))
theorem x6(F:ExcC K D)(X:K.In s.heap)(ho:s.heap.get? x=some o)(hc:o.cls=.ref D)(h:R (.ok (.ret (.ref D))) s):Rr (P7 prog w) A (.call (.builtin "getset_descriptor.__get__") ⟨[.builtin "object.__class__",.ref x,tp],[]⟩) R s:=by
 obtain⟨hh,g,dr,t,os⟩:=s;have L0:=N5 (M:=P7 prog w) ho hc;have L1:=looks_mroIn (M:=P7 prog w) X F.hm;refine Rh KF.slot_gs.plain KF.entry_gs (KF.slot_gs.check _ _ _ _ _ _ _ _ KF.type_class (KF.args_gs _ _ _) ?_);unfold Builtin.«getset_descriptor.__get__» descrGet;rw[dga_obj];refine PU (PV ?_);unfold descrGetter descrCheckInstance descrNameAndClass isInstance;simp only[KF.owner_class]
 repeat lk
 refine⟨Sl _ (by decide+kernel),Qn KF.entry_class ?_⟩;unfold Builtin.«object.__class__» shownTypeOf
 repeat lk
 first|exact h|(rw[hc];exact h)|skip
theorem Ig(F:ExcC K D)(X:K.In s.heap)(ho:s.heap.get? x=some o)(hc:o.cls=.ref D)(hq:Q () s):P2 M A (SN "BaseException.__getattribute__" ⟨[.ref x,nameV],[]⟩) Q E s:=by
 obtain⟨hh,g,dr,t,os⟩:=s;have L0:=N5 (M:=M) ho hc;have L1:=looks_mroIn (M:=M) X F.hb;have LI:Looks M hh (isInstance (.ref x) (.type "BaseException")) true:=L0.andThen L1;have hk:builtinKind "BaseException.__getattribute__"=some .slot:=by decide+kernel
 have hsplit:splitId "BaseException.__getattribute__"=some ("BaseException","__getattribute__"):=by decide+kernel
 have ha:=PySem.F.args_bexc_ga (.ref x) nameV;simp only[SN,hk,hsplit];refine PU (LI.at ?_)
 repeat (any_goals (first|assumption|wp_step))
theorem Ie(F:ExcC K D)(X:K.In s.heap)(ho:s.heap.get? x=some o)(hc:o.cls=.ref D)(h:Q (some (.ref D)) {s with toks:=s.toks+1}):P2 (P7 prog w) A (getAttr? (.ref x) "__class__") Q E s:=by obtain⟨hh,g,d,t,os⟩:=s;have L0:=N5 (M:=P7 prog w) ho hc;have L1:=TJ (M:=P7 prog w) X F.ga;have L2:=TJ (M:=P7 prog w) X F.gh;have L3:=My (M:=P7 prog w) (x:=x) F X;unfold getAttr? getAttrBy? getAttrBy;refine PU (wpAny_mkText (PU (Q5 (Qa (PU (L0.at (PU (L1.at ?_))))))));dsimp only;rw[PD (λz:(onTheHeap (P8 D)&&(Tq "BaseException.__getattribute__" == Tq "object.__getattribute__"))=true=>PK (WC.mp z).2 (by decide+kernel))];unfold getAttrByItsOwn hookBefore;rw[PF (show onTheHeap (P8 D)=true from rfl)];refine PU (L2.at ?_);refine PU (Q5 (Qa ?_));unfold callGetattribute;rw[PD (by decide)];unfold boundAndCalled;refine PU (Ss (PySem.F.attr_ValueError.ga.bind (.ref x)) ?_);refine Rv (Rh PySem.F.attr_ValueError.ga.plain PySem.F.entry_bexc_ga (Ig F X ho hc ?_));unfold Builtin.«object.__getattribute__»;refine PU (PV ?_);refine PU (PV ?_);refine PU (L0.at ?_);refine PU (L3.at ?_);show P2 _ _ (Sw [_] (call (.builtin "getset_descriptor.__get__") [.builtin "object.__class__",.ref x,.ref D]) >>= ret) _ _ _;refine PU (Qa (Rv (x6 (s:=⟨hh,g,d,t+1,os⟩) F X ho hc ?_)));refine PV ?_;exact handed_on rfl (PV h)
theorem kitx_exc(F:ExcC K D):KitX K (.ref x) (.ref D) (λh=>∃o,h.get? x=some o/\o.cls=.ref D) where
 ty:=λ_ _ _ ⟨o,ho,hc⟩=>N5 ho hc
 it:=λ_ _ X _=>by
  obtain⟨cdD,hcD⟩:=WS.mp F.hc;unfold clsIn at hcD;split at hcD
  .rename_i c' d' cd' sl' ho;intro A' Q' E' s' k q;unfold isType loadHead;exact PU (wpAny_loadPart (k _ _ (X _ _ ho)) (PV q))
  .cases hcD
 ne:=λh tp dd its n sl X htp=>by
  obtain⟨cdD,hcD⟩:=WS.mp F.hc;refine WE.mpr λq=>?_;have e:D=tp:=Value.ref.inj (beq_iff_eq.mp q);subst e;unfold clsIn at hcD;split at hcD
  .rename_i c' d' cd' sl' ho;have z:=(X _ _ ho).symm.trans htp;cases z
  .cases hcD
 ca:=λX ⟨o,ho,hc⟩ k=>Ie F X ho hc k
end
end PySem.W
namespace L2
open PySem PySem.Spec PyProof.Rows
section
variable{X:Cx}{a b e o:Qx}{p pos:So}{es:List Qx}{t:TA}
def O6(K:Frag):List V->Hp->VK->Prop:=λvs H Q=>∃(a D:XB)(y:V)(cv:h9)(b:Bool),vs=[.ref a,y]/\(∀u,aQ y u->u=cv)/\H a=some (Ch (.ref D) a)/\PySem.W.ExcC K D/\WX K (.ref D) cv=some b/\Q (.bl b) H
theorem cX(K:Frag)(hK:X.K=K:=by rfl):bx X (.builtin "isinstance") (O6 K):=by subst hK;intro Pw s σ H xs us Q I r h;obtain⟨a,D,y,cv,b,rfl,hy,ha,F,hb,q⟩:=h;obtain⟨u,v,rfl,ru,rv⟩:=r.two;cases ru;cases hy v rv;have hx:bE X.prog X.w H s.heap a (.ext λh=>∃o,h.get? a=some o/\o.cls=.ref D):=I.hok a _ ha;obtain⟨p,_,_⟩:=hx;exact WZ (PySem.W.kitx_exc F) I.kIn p hb (λz=>nomatch z) λtk=>⟨.bl b,H,I.tok tk,rfl,q⟩
theorem nH:∀{xs:List V}{us:List h9},aZ xs us->xs.all flatV=true->us.countP (uh x)=xs.countP λy=>eqV y x
 |_,_,.nil,_=>rfl
 |y::xs,u::us,.cons r t,f=>by rw[Uy,Ws]at f;rw[List.countP_cons,List.countP_cons,v2 r f.1,nH t f.2]
def NT(to te:TE):TE:=λσ H Q=>to σ H λx H1=>match x with
 | .ref l=>(∃xs,H1 l=some (.lst xs))/\te σ H1 λy H2=>∃xs,H2 l=some (.lst xs)/\flatV y=true/\xs.all flatV=true/\Q (.int (xs.countP λz=>eqV z y:Nat)) H2
 |_=>False
theorem A1:Pq X "list.count" (λx vs H Q=>∃l xs y,x=.ref l/\vs=[y]/\H l=some (.lst xs)/\flatV y=true/\xs.all flatV=true/\Q (.int (xs.countP λz=>eqV z y:Nat)) H):=by intro Pw s σ H x vs v us Q I rx rv h;obtain⟨l,xs,y,rfl,rfl,hH,fy,fx,q⟩:=h;cases rx;obtain⟨u,rfl,ru⟩:=rv.one;obtain⟨z,its,n,r,hl,e⟩:=I.lstM hH;refine SV F.slot_list_count ⟨_,e,rfl⟩ F.entry_list_count (F.args_list_count_2 _ _) (SeqAt.list_countAt l its.toArray n none #[] u (uh y)) ⟨e,λw hw=>hZ ru fy r fx w (by simpa using hw),?_⟩;rw[show its.toArray.toList=its from rfl,nH r fx];exact⟨.int (xs.countP λz=>eqV z y:Nat),H,I.tok _,⟨_,rfl⟩,q⟩
theorem J2{apos cpos:So}(ho:PE X o to)(he:PE X e te)(hbase:Qw o "count" X.env (Qk o X.env)=Qk o X.env:=by rfl)(hfew:((Qh cpos (P1 [e] X.env)).all (λx=> !x.1)&&(RB cpos (Q7 [] X.env)).all (λx=>x.1.isSome)
   &&decide ([e].length+([]:List Q0).length+(if([]:List Q0).isEmpty then 0 else 1)<30))=true:=by rfl) (hline:(apos.endLine == cpos.line)=true:=by rfl) (hs:P1 [e] X.env=(false,Qk e X.env)::P1 [] X.env:=by rfl) (hplain:(Qh cpos (P1 [] X.env)).any (·.1)=false:=by rfl):PE X (.Call (.Attribute o "count" apos) [e] [] cpos) (NT to te):=by
 intro Pw s σ H Q I h;refine QO hbase hfew hline rfl (bL (ho Pw s σ H _ I h) λv s1 ⟨x,H1,I1,r1,q1⟩=>?_);cases x with
 |ref l=>
  obtain⟨⟨xs0,e0⟩,q1⟩:=q1;have ty:Hm X.K "list" (.ref l) H1:=.inl ⟨rfl,xs0,aO.of e0⟩;obtain⟨h1,h2⟩:=jJ I1 r1 ty;refine⟨"list","list.count",PySem.F.plainAttrs_list,PySem.F.slot_list_count,PySem.F.type_list_count,h1,h2,?_⟩;have hA:=(pa_cons he pan hs:PA X [e] (ba te cE)) cpos Pw s1 σ H1 (λvs H2=>∃y,vs=[y]/\∃xs,H2 l=some (.lst xs)/\flatV y=true/\xs.all flatV=true/\Q (.int (xs.countP λz=>eqV z y:Nat)) H2) I1 (by
   show te σ H1 λy H2=>∃y',[y]=[y']/\_;have:(λ(y:V)(H2:Hp)=>∃xs,H2 l=some (.lst xs)/\flatV y=true/\xs.all flatV=true/\Q (.int (xs.countP λz=>eqV z y:Nat)) H2)=λy H2=>∃y',[y]=[y']/\∃xs,H2 l=some (.lst xs)/\flatV y'=true/\xs.all flatV=true/\Q (.int (xs.countP λz=>eqV z y':Nat)) H2:=by
    funext y H2;apply propext
    constructor
    .intro z;exact⟨y,rfl,z⟩
    .rintro⟨y',e,z⟩;have:y=y':=by injection e
     subst this;exact z
   rw[<-this];exact q1)
  rw[hs]at hA ⊢;refine Qu (by show(false||(Qh cpos (P1 [] X.env)).any (·.1))=false;rw[hplain]<;>rfl) (QA ?_)
  exact bL hA λus s2 ⟨vs,H2,I2,r2,y,e,xs,q3,q4,q5,q6⟩=>A1 Pw s2 σ H2 _ vs v us Q I2 r1 r2 ⟨l,xs,y,rfl,e,q3,q4,q5,q6⟩
 |_=>exact q1.elim
structure lQ(k:Nat)(A:QD):Prop where
 dp:A.depth+3*k+5<Sc
 un:A.units+16*k+200<QT
theorem cK.n(r:cK k A)(v:Option h9):lQ k (A.mark v):=⟨r.dp,r.un⟩
structure Pu(P:P6)(w:P9)(K:Frag)(mg:PN)(Px:Qe)(k:Nat)(f:XB)(fd:Qf)(ps:List Str)(sp:Sp):Prop where
 len:∀vs H Q E,sp vs H Q E->vs.length=ps.length
 run:∀(A:QD)(Py:List Tz)(s:PZ)(H:Hp)(args:Args)(us:List h9)(vs:List V)(Q:VK),lQ k A->rR P w K mg Px A Py s H->Tl s fd args (ps.zip us)->aZ vs us->sp vs H Q E0->
  Rr (P7 P w) A (.call (.ref f) args) (CR dm Py P w H s Q E0) s
abbrev Cx.uncalm(X:Cx)(A:QD):Cx:={X with A:=A,calm:=false}
theorem aJ.uncalm{X:Cx}{Pw:PQ}{σ:St}{H:Hp}{s:PZ}(I:aJ X Pw σ H s){A:QD}(hA:A.frames=some X.stack):aJ (X.uncalm A) Pw σ H s:=
 ⟨⟨I.ok.mod,I.ok.kind,I.ok.glob,I.ok.blt,I.ok.above,I.ok.inj,I.ok.has,I.ok.cab,λz=>(Bool.noConfusion z),hA,I.ok.stk,I.ok.exf,I.ok.bs,I.ok.bsz,I.ok.noex,I.ok.exfs,I.ok.funs,I.ok.frf⟩,I.os,I.bare,I.Px,I.loc,I.cell,I.free,I.freeC,I.pin,I.hok,I.len⟩
abbrev Pe(P:P6)(w:P9)(K:Frag)(mg:PN)(Px:Qe)(N:List Str)(qual:Str)(scope:RS)(f:XB)(cd:h9)(A:QD)(Py:List Tz)(s:PZ)(H:Hp):Cx:=
 ((l8 dm P w K mg Px N qual scope f cd {A with handled:=none} Py s H E0).uncalm (A.deeper (Rj qual scope s.heap.objs.size f cd))).nox
theorem cZ.okN{P:P6}{w:P9}{K:Frag}{mg:PN}{Px:Qe}{x qual:Str}{st:Ql}{f:XB}{fd:Qf}{N ps:List Str}{k:Nat}{sp:Sp}(F:cZ K x qual st f fd)(S:aD N ps (am st))(len:∀vs H Q E,sp vs H Q E->vs.length=ps.length)(hbody:∀(cdv:h9)(A:QD)(Py:List Tz)(s:PZ)(H:Hp)(vs:List V)(Q:VK),lQ k (A.deeper (Rj qual (am st) s.heap.objs.size f cdv))->sp vs H Q E0->
   ∃t,oE (Pe P w K mg Px N qual (am st) f cdv A Py s H) (dj st) t/\t {nx:=λ_ H'=>Q .non H',rt:=Q} (start N vs) H):Pu P w K mg Px (k+1) f fd ps sp:=by
 obtain⟨oc,od,kV,doc,pm,an,cdv,ct,osl,rfl,lk,hcd⟩:=F.ex;refine⟨len,λA Py s H args us vs Q hr e0 hb r hsp=>?_⟩;have hl:=len _ _ _ _ hsp;have KX:K.In s.heap:=e0.mod.kin.keeps λb o e=>(e0.bs b o e).1;have lim:s.heap.NoLimit:=e0.mod.nolimit.keeps λb o e=>(e0.bs b o e).1;have hkind:∀y∈ps.zip us,(am st).names.lookup y.1=some .local\/((am st).names.lookup y.1=some .cell/\((TW (s.heap.objs.size+1) (am st).names []).lookup y.1).isSome=true):=λ⟨n,v⟩ hy=>by
  rcases S.par n (U6 hy).1 with q|q
  .exact .inl q
  .exact .inr ⟨q,Xl _ _ _ (.inl q)⟩
 have hdp:A.depth<Sc:=by have:=hr.dp;lia
 refine Ta hdp (KX _ _ lk) rfl S.co S.gen rfl (Xv KX hcd) (hb _ _ _ _ ?_);refine R9 S.kind hkind λenv he s1 x=>?_;subst he;refine⟨lim.keeps x.toInCall.keep,codeAny_func ?_⟩;have hr':lQ k (A.deeper (Rj qual (am st) s.heap.objs.size f cdv)):=⟨by have:=hr.dp;show A.depth+1+3*k+5<_;lia,by have:=hr.un;show A.units+3+16*k+200<_;lia⟩;obtain⟨t,ht,hq⟩:=hbody cdv A Py s H vs Q hr' hsp;have e0':rR P w K mg Px {A with handled:=none} Py s H:=⟨e0.frames,e0.mod,e0.bs,e0.bsz,e0.funs,e0.frf,e0.hok,e0.bare⟩;have I0:aJ (l8 dm P w K mg Px N qual (am st) f cdv {A with handled:=none} Py s H E0) [] (start N vs) H s1:=pB S rfl e0' hl r x;have I:aJ (Pe P w K mg Px N qual (am st) f cdv A Py s H) [] (start N vs) H s1:=(I0.uncalm (Around.frames_deeper e0.frames)).wish _;refine Qz (ht [] s1 (start N vs) H _ I hq) (λfl s' hs=>?_) λe s' hs=>hs.elim;have fin:∀{σ':St}{H':Hp}{v:V}{u:h9},aJ (Pe P w K mg Px N qual (am st) f cdv A Py s H) [] σ' H' s'->aQ v u->Q v H'->CE Py P w H s Q u s':=
  λ{σ' H' v u} J rv q=>⟨v,H',J.os,J.bare,J.Px,J.hok,rv,q⟩
 cases fl with
 |ret u=>
  obtain⟨v,σ',H',J,rv,q⟩:=hs;exact fin J rv q
 |next=>
  obtain⟨σ',H',J,q⟩:=hs;exact fin (v:=V.non) (u:=QZ) J rfl q
 |brk=>
  obtain⟨_,_,_,q⟩:=hs;exact False.elim q
 |cont=>
  obtain⟨_,_,_,q⟩:=hs;exact False.elim q
structure Kj(P:P6)(w:P9)(K:Frag)(mg:PN)(Px:Qe)(name:Str)(ps:List Str)(k:Nat)(sp:Sp):Prop where
 ex:∃f fd,Pu P w K mg Px k f fd ps sp/\mg name=some (.ref f)/\W1 K (.ref f)=true/\ig K fd ps []
theorem Jz(C:Kj X.prog X.w X.K X.mg X.Px name ps k sp)(hr:lQ j X.A)(ha:PA X (e::es) t)(hkj:k<=j:=by decide)(hp:(e::es).all eX=true:=by rfl)(hg:Gl X name:=by rfl)(hdb:(name == ("__debug__":Str))=false:=by decide):PE X (.Call (.Name name p) (e::es) [] pos) (cY sp t):=by
 obtain⟨f,fd,F,hm,hk,hb⟩:=C.ex;have hp':=hp;rw[Uy,Ws]at hp';intro Pw s σ H Q I h;refine Qt (iq I hg hm ?_ hdb);refine Xa (h₀:=X.Px) I.ok.mod.kin hk (bL (ha pos Pw s σ H _ I h) λus s1 ⟨vs,H1,I1,r,q⟩=>⟨I1.kIn,?_⟩) (eC hp'.1) (fZ hp'.2);have hl:(us++[]).length=ps.length:=by rw[Uo,<-r.length];exact F.len _ _ _ _ q
 have hb':=hb s1 us I1.kIn hl;rw[Uo]at hb';have hrk:lQ k X.A:=⟨by have:=hr.dp;lia,by have:=hr.un;lia⟩;refine Rv (QP (F.run X.A X.stack s1 H1 ⟨us,[]⟩ us vs Q hrk I1.env0 hb' r q) λr s' hq=>?_);cases r with
 |error e=>exact False.elim hq
 |ok fl=>
  cases fl with
  |ret u=>exact I1.after hq
  |next=>exact False.elim hq
  |brk=>exact False.elim hq
  |cont=>exact False.elim hq
end
theorem oB:Qc "ValueError"=some (.type "ValueError"):=by decide+kernel
def wS(D:XB):Sp:=λvs H Q _=>∃a,vs=[.ref a]/\H a=some (Ch (.ref D) a)/\∀H',aj H H'->Q (.bl true) H'
structure AlC(mg:PN)(K:Frag)(D:XB)(b1 b2 b3 b4 b5 b6 b7 b8 b9:Bool):Prop where
 x:PySem.W.ExcC K D
 f1:∃c,mg "BadBoard"=some (.ref c)/\WX K (.ref D) (.ref c)=some b1
 f2:∃c,mg "BadGame"=some (.ref c)/\WX K (.ref D) (.ref c)=some b2
 f3:∃c,mg "BadLine"=some (.ref c)/\WX K (.ref D) (.ref c)=some b3
 f4:∃c,mg "BadPlace"=some (.ref c)/\WX K (.ref D) (.ref c)=some b4
 f5:∃c,mg "NoMove"=some (.ref c)/\WX K (.ref D) (.ref c)=some b5
 f6:∃c,mg "TooWide"=some (.ref c)/\WX K (.ref D) (.ref c)=some b6
 f7:∃c,mg "NoWord"=some (.ref c)/\WX K (.ref D) (.ref c)=some b7
 f8:∃c,mg "Over"=some (.ref c)/\WX K (.ref D) (.ref c)=some b8
 f9:∃c,mg "NothingBack"=some (.ref c)/\WX K (.ref D) (.ref c)=some b9
 v:WX K (.ref D) (.type "ValueError")=some true
 one:([V.bl b1,.bl b2,.bl b3,.bl b4,.bl b5,.bl b6,.bl b7,.bl b8,.bl b9].countP λz=>eqV z (.bl true))=1
theorem v8{K:Frag}{D:XB}{v:h9}{b:Bool}(h:W9 K D v=some b):(PySem.W.clsIn K D).isSome=true:=by
 unfold W9 at h;cases e:PySem.W.clsIn K D with
 |none=>rw[e]at h;cases h
 |some _=>rfl
theorem wX:∀u,aQ (.ref c) u->u=.ref c:=λ_ h=>h
theorem ID:∀u,aQ (.ty n) u->u=.type n:=λ_ h=>h
theorem vY{K:Frag}{σ:St}{H:Hp}{t:TA}{a D:XB}{y:V}{cv:h9}{b:Bool}(h:Av t σ H [.ref a,y])(hy:∀u,aQ y u->u=cv)(ha:H a=some (Ch (.ref D) a))(F:PySem.W.ExcC K D)(hb:WX K (.ref D) cv=some b):Ev (cB (O6 K) t) σ H (.bl b):=λQ q=>h _ ⟨a,D,y,cv,b,rfl,hy,ha,F,hb,q⟩
theorem lQ.hu(r:lQ k A):A.units+20<QT:=by have:=r.un;lia
theorem Pf(F:List Int)(lo hi:Option Int):∃ss:List Int,cutV (F.map V.int) lo hi=ss.map V.int/\ss.length<=F.length:=by
 refine⟨(F.drop (HT.sIx (F.map V.int).length 0 lo)).take (HT.sIx (F.map V.int).length (F.map V.int).length hi - HT.sIx (F.map V.int).length 0 lo),?_,?_⟩
 .unfold cutV;rw[UY,List.map_drop]
 .rw[Uu,U8];lia
theorem Hs{K:Frag}{te:TE}{tl th:TO}{σ:St}{H:Hp}{Q:VK}(h:te σ H λx H1=>tl σ H1 λl H2=>th σ H2 λu H3=>Iz K x l u H3 Q):BY K te tl th σ H Q:=h
theorem xK{K:Frag}{tl:TE}{g:TG}{tt:TT}{te:TE}{src:List (Option Nat)}{σ:St}{H:Hp}{Q:VK}(q:tl σ H λx H2=>∃a,x=.ref a/\(∃xs,aO K H2 a xs)/\dC g tt te src σ Q (Ck K a) H2):tComp (pC K tl) g tt te src σ H Q:=q
theorem Mz{K:Frag}{C0:XB}{sp:Sp}{i:Nat}{ta:TA}{ts u:TS}{q0:iI->St->VK}{D:iI}{σ:St}{H:Hp}{vs:List V}(h:Av ta σ H vs)(q:sp vs H (q0 {D with nx:=u D} σ) λcls _ H2=>Xc K cls (.ref C0)=some true/\
  ∀a,H2 a=none->ts {nx:=λ_ _=>False,rt:=D.rt} (σ.set i (some (.ref a))) (upd H2 a (Ch cls a))):bg (Hn K C0 sp i ta ts q0) u D σ H:=h _ q
theorem zR(z:Str):z.length=z.cps.toList.length:=by show z.cps.size=_;rw[WI]
theorem bQ(x y:Str):(x++y).length=x.length+y.length:=by show(x.cps++y.cps).size=_;rw[WO];rfl
def Cm(te:TE)(σ:St)(H:Hp)(m:Nat):Prop:= ∀Q:VK,(∀(z:Str) H',z.length<=m->aj H H'->Q (.str z) H')->te σ H Q
section
variable{K:Frag}{σ:St}{H:Hp}{n n' m m':Nat}{ta tb te:TE}
theorem v1(h:Ev te σ H (.str z))(hz:z.length<=m):Cm te σ H m:=λQ q=>h _ (q _ _ hz (aj.refl H))
theorem jo(h1:Cm ta σ H m)(h2:∀H1,aj H H1->Cm tb σ H1 m')(hn:m+m'<=1000):Cm (kJ .Add ta tb) σ H (m+m'):=λQ q=>iE (h1 _ λz H1 zm s1=>h2 H1 s1 _ λz' H2 zm' s2=>
 (show z.length+z'.length<=fv/\Q (.str (z++z')) H2 from⟨by rw[P4];lia,q _ _ (by rw[bQ];lia) (s1.trans s2)⟩))
theorem vZ{z:Str}{lo hi:Option Int}(ha:Ev ta σ H (.str z))(hl:∀Q:Option Int->Hp->Prop,Q lo H->tl σ H Q)(hh:∀Q:Option Int->Hp->Prop,Q hi H->th σ H Q)(hz:z.length<=m)(hm:m<=1000):Cm (BY K ta tl th) σ H m:=v1 (ND ha hl hh (by rw[P4];lia)) (VR (um _ _ _) hz)
theorem JP(ha:Ev ta σ H (.str z))(hz:z.length<=1000)(hc:∀c∈z.cps.toList,c<128):Ev (wf Hl ta) σ H (.str ⟨z.cps.map up1⟩):=λQ q=>ha _ (by
 show Hl (.str z) [] H Q;rw[IG];exact⟨by rw[P4];lia,hc,q⟩)
end
end L2
local macro_rules| `(tactic|walk_at "rd")=> `(tactic|simp only[L2.bg,L2.ju,L2.cL,L2.tAsg,L2.gName,L2.mz,L2.jy,L2.ci,L2.tC,L2.kJ,L2.kL,L2.dE,L2.a9,L2.eqB,L2.dD,L2.eT,L2.uy,L2.DG,L2.xN,L2.BZ,L2.DH,L2.uJ,L2.xP,L2.JE,L2.BY,L2.Iz,L2.nP,L2.ik,L2.cB,L2.ba,L2.cE,L2.NP,L2.wf,L2.cY,L2.zM,L2.zQ,L2.Io,L2.Ip,L2.ly,L2.kH,L2.tW,L2.M9,L2.Ct,L2.y7,L2.swA,L2.Hl,L2.Ph,Vv,Vw,Ve,VL])
namespace L2
open PySem PySem.Spec PyProof.Rows
def wG:Sp:=λvs H Q _=>∃n:Int,vs=[.int n]/\0<=n/\n<10 ^ 60/\∀H',aj H H'->Q (.str (QC (toString n))) H'
theorem B5{α:Type}{xs:List α}{i:Int}(h0:0<=i)(h1:i<xs.length):∃v,jd xs i=some v/\xs[i.toNat]? =some v:=by
 have hx:xs[i.toNat]? =some (xs[i.toNat]'(by lia)):=Ua (by lia);refine⟨_,?_,hx⟩;have e:i=((i.toNat:Nat):Int):=by lia
 have:=bI hx;rw[<-e]at this;exact this
def lS(w s:Int):Str:=⟨#[(97+s % w).toNat,(49+s / w).toNat]⟩
theorem wl{xs:List Nat}{n a:Nat}(hx:∀k<n,xs[k]? =some (a+k)){i:Int}(h0:0<=i)(h1:i<n):jd xs i=some (a+i).toNat:=by
 have e:i=((i.toNat:Nat):Int):=by lia
 have:=bI (hx i.toNat (by lia));rw[<-e]at this;rw[this];congr 1;lia
theorem Cb(h0:0<=i)(h1:i<26):jd ("abcdefghijklmnopqrstuvwxyz":Str).cps.toList i=some (97+i).toNat:=by rw[show("abcdefghijklmnopqrstuvwxyz":Str).cps.toList=[97,98,99,100,101,102,103,104,105,106,107,108,109,110,111,112,113,114,115,116,117,118,119,120,121,122]from by decide+kernel];exact wl (n:=26) (a:=97) (by decide) h0 h1
theorem DS(h0:0<=i)(h1:i<8):jd ("abcdefgh":Str).cps.toList i=some (97+i).toNat:=by rw[show("abcdefgh":Str).cps.toList=[97,98,99,100,101,102,103,104]from by decide+kernel];exact wl (n:=8) (a:=97) (by decide) h0 h1
theorem Du(h0:0<=i)(h1:i<8):jd ("12345678":Str).cps.toList i=some (49+i).toNat:=by rw[show("12345678":Str).cps.toList=[49,50,51,52,53,54,55,56]from by decide+kernel];exact wl (n:=8) (a:=49) (by decide) h0 h1
theorem AQ{r:Int}(h0:0<=r)(h1:r<8):QC (toString (r+1))=⟨#[(49+r).toNat]⟩:=by
 obtain rfl|rfl|rfl|rfl|rfl|rfl|rfl|rfl:r=0\/r=1\/r=2\/r=3\/r=4\/r=5\/r=6\/r=7:=by lia
 all_goals decide+kernel
theorem xR(a b:Nat):(⟨#[a]⟩++⟨#[b]⟩:Str)=⟨#[a,b]⟩:=by apply ma;rw[fS];rfl
theorem bn(w s:Int):(lS w s).length=2:=rfl
theorem gH{w s s':Int}(w1:1<=w)(s0:0<=s)(s0':0<=s')(h1:(97+s % w).toNat=(97+s' % w).toNat)(h2:(49+s / w).toNat=(49+s' / w).toNat):s=s':=by
 have a:=Wb s (by lia:w≠0);have a':=Wb s' (by lia:w≠0);have d:=Wg s0 (by lia:0<=w);have d':=Wg s0' (by lia:0<=w);have e1:s % w=s' % w:=by lia
 have e2:s / w=s' / w:=by lia
 rw[<-Wm s w,<-Wm s' w,e1,e2]
def uI(wi s g t:Int):Str:=if t= -1 then lS wi s++"-"++lS wi g else if t=g then lS wi s++"x"++lS wi g else lS wi s++"x"++lS wi t++"-"++lS wi g
def mvK(wi:Int)(k:List Int):Str:=uI wi (k.getD 0 0) (k.getD 1 0) (k.getD 2 0)
theorem rf(wi s g t:Int):(uI wi s g t).cps.toList=if t= -1 then [(97+s % wi).toNat,(49+s / wi).toNat,45,(97+g % wi).toNat,(49+g / wi).toNat]else if t=g then [(97+s % wi).toNat,(49+s / wi).toNat,120,(97+g % wi).toNat,(49+g / wi).toNat]else [(97+s % wi).toNat,(49+s / wi).toNat,120,(97+t % wi).toNat,(49+t / wi).toNat,45,(97+g % wi).toNat,(49+g / wi).toNat]:=by
 have e1:("-":Str).cps.toList=[45]:=by decide+kernel
 have e2:("x":Str).cps.toList=[120]:=by decide+kernel
 unfold uI;split
 .rw[fS,fS,e1];rfl
 .split
  .rw[fS,fS,e2];rfl
  .rw[fS,fS,fS,fS,e1,e2];rfl
theorem Dc(w1:1<=wi)(s0:0<=s)(g0:0<=g)(t0:t= -1\/0<=t)(s0':0<=s')(g0':0<=g')(t0':t'= -1\/0<=t')(e:uI wi s g t=uI wi s' g' t'):s=s'/\g=g'/\t=t':=by
 have e:=PM (λz:Str=>z.cps.toList) e;simp only[rf]at e
 by_cases h1:t= -1
 .rw[PF h1]at e
  by_cases h1':t'= -1
  .rw[PF h1']at e;simp only[List.cons.injEq,and_true]at e;exact⟨gH w1 s0 s0' e.1 e.2.1,gH w1 g0 g0' e.2.2.2.1 e.2.2.2.2,by lia⟩
  .rw[PD h1']at e
   by_cases h2':t'=g'
   .rw[PF h2']at e;simp at e
   .rw[PD h2']at e;simp at e
 .rw[PD h1]at e
  by_cases h1':t'= -1
  .rw[PF h1']at e
   by_cases h2:t=g
   .rw[PF h2]at e;simp at e
   .rw[PD h2]at e;simp at e
  .rw[PD h1']at e
   by_cases h2:t=g
   .rw[PF h2]at e
    by_cases h2':t'=g'
    .rw[PF h2']at e;simp only[List.cons.injEq,and_true,true_and]at e;have a:=gH w1 s0 s0' e.1 e.2.1;have b:=gH w1 g0 g0' e.2.2.1 e.2.2.2;exact⟨a,b,by lia⟩
    .rw[PD h2']at e;simp at e
   .rw[PD h2]at e
    by_cases h2':t'=g'
    .rw[PF h2']at e;simp at e
    .rw[PD h2']at e;simp only[List.cons.injEq,and_true,true_and]at e;exact⟨gH w1 s0 s0' e.1 e.2.1,gH w1 g0 g0' e.2.2.2.2.1 e.2.2.2.2.2,gH w1 (by lia) (by lia) e.2.2.1 e.2.2.2.1⟩
theorem Db(wi s g t:Int):(uI wi s g t).length<=8:=by
 rw[zR,rf];split
 .show 5<=8;decide
 .split
  .show 5<=8;decide
  .show 8<=8;decide
def sD:Sp:=λvs H Q _=>∃w s:Int,vs=[.int w,.int s]/\1<=w/\w<=8/\0<=s/\s / w<8/\∀H',aj H H'->Q (.str (lS w s)) H'
def gV(K:Frag)(cB cG:XB):Sp:=λvs H Q _=>∃(g b mv:XB)(wi hi:Int)(hs:List Int)(ks rs ts es:List V)(st:Str)(s gl t:Int),vs=[.ref g,.ref mv]/\gT cG H g b ks rs ts es st/\cr K cB H b wi hi hs/\H mv=some (.tup [.int s,.int gl,.int t])/\0<=s/\s<wi*hi/\0<=gl/\gl<wi*hi/\(t= -1\/(0<=t/\t<wi*hi))/\∀H',aj H H'->Q (.str (uI wi s gl t)) H'
theorem mU{wi hi s:Int}(w1:1<=wi)(h8:hi<=8)(h:s<wi*hi):s / wi<8:=by have:s / wi<hi:=Wo (by lia) (by rw[Wh];exact h);lia
structure DU(K:Frag)(cB cG:XB)(H:Hp)(g b kq p:XB)(row:Str)(sd wi hi:Int)(hs:List Int)(ks:List Nat)(us:List (bj×XB))(ts es:List ((Str×Str)×XB))(st:Str)(m:List (List Int)):Prop where
 gs:kS K cB cG H g b kq wi hi hs ks us ts es st
 pl:da K H p [.str row,.int sd]
 rk:DT wi hi hs ks row
 mvs:jR wi hi hs row us sd (sqsOf row sd) m
def sH(K:Frag)(cB cG cN:XB):Sp:=λvs H Q E=>∃(g b kq p:XB)(row:Str)(sd wi hi:Int)(hs:List Int)(ks:List Nat)(us:List (bj×XB))(ts es:List ((Str×Str)×XB))(st:Str)(m:List (List Int))(z:Str),vs=[.ref g,.ref p,.str z]/\DU K cB cG H g b kq p row sd wi hi hs ks us ts es st m/\
 (∀(k:List Int)(q:XB)(H':Hp),k∈m->mvK wi k=z->H' q=some (.tup (k.map V.int))->aj H H'->Q (.ref q) H')/\((∀k∈m,mvK wi k≠z)->∀H',aj H H'->E (.ref cN) none H')
def wF(K:Frag)(cB cG:XB):Sp:=λvs H Q _=>∃(g b kq p:XB)(row:Str)(sd wi hi:Int)(hs:List Int)(ks:List Nat)(us:List (bj×XB))(ts es:List ((Str×Str)×XB))(st:Str)(m:List (List Int))(z:Str),vs=[.ref g,.ref p,.str z]/\DU K cB cG H g b kq p row sd wi hi hs ks us ts es st m/\
 (∀(k:List Int)(q:XB)(H':Hp),k∈m->mvK wi k=z->H' q=some (.tup (k.map V.int))->aj H H'->Q (.ref q) H')/\((∀k∈m,mvK wi k≠z)->∀H',aj H H'->Q .non H')
theorem DU.mv{K:Frag}{cB cG:XB}{H:Hp}{g b kq p:XB}{row:Str}{sd wi hi:Int}{hs:List Int}{ks:List Nat}{us:List (bj×XB)}{ts es:List ((Str×Str)×XB)}{st:Str}{m:List (List Int)}(h:DU K cB cG H g b kq p row sd wi hi hs ks us ts es st m):∀k∈m,∃s gl t,k=[s,gl,t]/\0<=s/\s<wi*hi/\0<=gl/\gl<wi*hi/\(t= -1\/(0<=t/\t<wi*hi)):=λk hk=>by
 have mm:=h.gs.bd.many;have rl:(row.length:Int)=wi*hi:=by rw[h.rk.len];lia
 obtain⟨s,gl,t,e,o⟩:=h.mvs.ok h.gs.bd.w1 (λs hs=>oM hs) k hk;exact⟨s,gl,t,e,o.s0,by have:=o.s1;lia,o.g0,o.g1,by rcases o.tk with z|z;exact .inl z;exact .inr ⟨z.1,z.2.1⟩⟩
theorem DU.one{K:Frag}{cB cG:XB}{H:Hp}{g b kq p:XB}{row:Str}{sd wi hi:Int}{hs:List Int}{ks:List Nat}{us:List (bj×XB)}{ts es:List ((Str×Str)×XB)}{st:Str}{m:List (List Int)}(h:DU K cB cG H g b kq p row sd wi hi hs ks us ts es st m){k k':List Int}(hk:k∈m)(hk':k'∈m)(e:mvK wi k=mvK wi k'):k=k':=by obtain⟨s,gl,t,rfl,a1,a2,a3,a4,a5⟩:=h.mv k hk;obtain⟨s',gl',t',rfl,b1,b2,b3,b4,b5⟩:=h.mv k' hk';obtain⟨rfl,rfl,rfl⟩:=Dc h.gs.bd.w1 a1 a3 (by lia) b1 b3 (by lia) (show uI wi s gl t=uI wi s' gl' t' from e);rfl
theorem PS.nox{X:Cx}{st:Ql}{t:TS}(h:PS X.nox st t):PS X st t:=λPw s σ H D I hw=>
 Qz (h Pw s σ H D (I.wish _) hw) (λ_ _ q=>q.unwish) λ_ _ z=>False.elim z
theorem Cr(h1:Ev t1 σ H (.bl true))(h2:t2 σ H R):zQ (dD t1) t2 σ H R:=by refine h1 _ ?_;show if true=true then t2 σ H R else R false H;rw[PF rfl];exact h2
section
theorem xt(hl:h.IsList l items)(e:Sz it h h')(ne:l≠it):h'.IsList l items:=by obtain⟨o,ho,hc,n,hd⟩:=hl;exact⟨o,e l o ne ho,hc,n,hd⟩
theorem uc{h:Qe}{items:Array h9}(hl:h.IsList l items)(ob:Obj):(h.push ob).IsList l items:=by obtain⟨o,ho,hc,n,hd⟩:=hl;exact⟨o,PX _ ho,hc,n,hd⟩
theorem pJ(hne:t≠it):∀(n i:Nat)(s:PZ)(Q:List h9->PZ->Prop),s.heap.IsListIter it t i->s.heap.IsList t items->i+n<=items.size->(∀h',Heap.IsListIter h' it t (i+n)->QL it s.heap h'->Q ((items.toList.drop i).take n) {s with heap:=h'})->P2 (P7 prog w) A (draw (.ref it) n) Q E s
 |0,i,s,Q,hit,_,_,hQ=>by show P2 _ _ (pure []) Q E s;exact PV (by simpa using hQ s.heap hit (Sy ..))
 |n+1,i,s,Q,hit,ht,hle,hQ=>by
  have hlt:i<items.size:=by lia
  show P2 _ _ (Ra (.ref it) >>= _) Q E s;refine PU (SQ hit ht (x:=items[i]) (by simp[hlt]) λh₁ hit₁ hs₁=>?_);refine PU (Qa (pJ hne n (i+1) _ _ hit₁ (xt ht hs₁.extBut hne) (by lia) λh₂ hit₂ hs₂=>PV ?_));have hd:items.toList.drop i=items[i]::items.toList.drop (i+1):=by simp[U0,hlt]
  have:=hQ h₂ (by rw[show i+(n+1)=i+1+n by lia];exact hit₂) (hs₁.trans hs₂);rw[hd,VB]at this;exact this
theorem kX(hh:A.handled=none)(ht:s.heap.IsList t items)(hQ:∀h',Sz s.heap.objs.size s.heap h'->Q items.toList {s with heap:=h'}):P2 (P7 prog w) A (unpackItems (.ref t) items.size none) Q E s:=by
 have hlt:t≠s.heap.objs.size:=by obtain⟨o,ho,_⟩:=ht;exact VP (PY ho)
 unfold unpackItems;refine PU ?_;unfold notIterableAtAll;refine PU (Rp ht.typeIs slot_list_iter.lookup ?_);refine PV ?_;simp only[Wt,if_false];refine PU (Qa (Rf ht ?_));refine PU (Qa (pJ hlt items.size 0 _ _ ⟨_,P5 _ rfl,rfl,rfl⟩ (uc ht _) (by lia) λh₁ hit₁ hs₁=>?_));have hall:List.take items.size (List.drop 0 items.toList)=items.toList:=by rw[U1];exact U9 (by simp)
 rw[hall];rw[PD (by simp)];have ht₁:h₁.IsList t items:=xt (uc ht _) hs₁.extBut hlt;refine PU (Qa (S6 hh hit₁ ht₁ (by simp) λh₂ he₂=>?_));simp only[Option.isSome_none,Wt,if_false];refine PV (hQ h₂ λb o hb e=>he₂ b o hb (hs₁.extBut b o hb (PX _ e)))
theorem kM{x1}(hh:A.handled=none)(ht:s.heap.IsList t items)(hn:(QQ elts env).length=items.size)(hstar:(QQ elts env).findIdx? (·.1)=none)(h:∀h',Sz s.heap.objs.size s.heap h'->P2 (P7 prog w) A (assignInOrder ((QQ elts env).map (·.2)) items.toList) Q E {s with heap:=h'}):P2 (P7 prog w) A (Th (.Tuple elts x1 pos) env (.ref t)) Q E s:=by rw[assign_Tuple];refine PU (SA ?_);unfold unpack;rw[hn,hstar];exact PU (Qa (kX hh ht h))
end
def JN(K:Frag)(n:Nat)(t:Cj):TG:=λv σ H Q=>∃a xs,v=.ref a/\aO K H a xs/\xs.length=n/\t xs σ H Q
theorem IV{X:Cx}{pos:So}{es:List Qx}{k:Nat}{t:Cj}{n:Nat}(hc:X.calm=true)(h:Ia X es t)(hn:(QQ es X.env).length=n:=by rfl)(hst:(QQ es X.env).findIdx? (·.1)=none:=by rfl):PG X (.Tuple es k pos) (JN X.K n t):=by intro Pw s σ H v u Q I r hw;obtain⟨a,xs,e1,hq,hl,hw⟩:=hw;subst e1;cases r;obtain⟨its,rv,⟨o,nn,ho,hc',d1,d2⟩,hz⟩:=I.list hq;refine kM (items:=its.toArray) (I.ok.hd hc) ⟨o,ho,hc',nn,d2⟩ (by simp[hn,<-hl,rv.length]) hst λh' hx=>?_;have I1:aJ X Pw σ H {s with heap:=h'}:=I.kept (t':=s.toks) λb o e=>hx b o (VP (PY e)) e;exact h Pw _ σ H xs _ Q I1 (by simpa using rv) hw
section
variable{X:Cx}{pos:So}
theorem kgl(K:Frag){n:Nat}{k:Nat}{t:Cj}(h:Ia X es t)(hc:X.calm=true:=by rfl)(hn:(QQ es X.env).length=n:=by rfl)(hst:List.findIdx? (λx=>x.1) (QQ es X.env)=none:=by rfl)(hK:X.K=K:=by rfl):PG X (.Tuple es k pos) (JN K n t):=by subst hK;exact IV hc h hn hst
end
theorem JL{K:Frag}{σ:St}{H:Hp}{i j l:Nat}{d:XB}{a b c:V}{R:St->Hp->Prop}(h:aO K H d [a,b,c])(q:R (((σ.set i (some a)).set j (some b)).set l (some c)) H):JN K 3 (iW (gName i) (iW (gName j) (iW (gName l) Br))) (.ref d) σ H R:=⟨d,_,rfl,h,rfl,_,_,rfl,_,_,rfl,_,_,rfl,rfl,q⟩
theorem Af(h:te σ H λv H1=>g v σ H1 (u D)):bg (tAsg te g) u D σ H:=h
theorem Iv(w1:1<=w)(s0:0<=s)(s0':0<=s')(e:lS w s=lS w s'):s=s':=by have e:=PM (λz:Str=>z.cps.toList) e;have e:[(97+s % w).toNat,(49+s / w).toNat]=[(97+s' % w).toNat,(49+s' / w).toNat]:=e;simp only[List.cons.injEq,and_true]at e;exact gH w1 s0 s0' e.1 e.2
theorem rW:RE (.type "zip") "keys"=pure none:=by rw[Rc,QH];kernel_rfl
theorem kU:RE (.type "zip") "__getattr__"=pure none:=by rw[Rc,QH];kernel_rfl
theorem rC:TL table "zip.__getattribute__"=some Builtin.«object.__getattribute__» :=
 Tg (id':="object.__getattribute__") (by kernel_rfl) (by decide+kernel) (by decide+kernel) (by kernel_rfl)
abbrev jS(h:Qe)(z TI TO:XB)(f0:h9)(b:Bool):Prop:=h.get? z=some {cls:=.type "zip",dict:=none,data:=.fields #[f0,.bool b,.bool false,.ref TI,.ref TO],slots:= #[]}
theorem nw(a:XB)(vs:Array h9)(sl:Array (Option h9))(name:Str)(u:Tok)(hmiss:RE (.type "zip") name=pure none)(hname:(["__module__","__name__","__qualname__","__doc__","__annotations__"]:List Str).contains name=false)(hsz:name.length+100<=fv:=by size_fits):Meets (Builtin.«object.__getattribute__» ⟨[.ref a,.str name u],[]⟩) (λA R s=>s.heap.get? a=some {cls:=.type "zip",dict:=none,data:=.fields vs,slots:=sl}/\raisesAttr (.ref a) name A R s):=
 Meets.of_wp λprog w A R s hs=>by
  obtain⟨hp,g,d,tk,os⟩:=s;obtain⟨hx,hs⟩:=hs;have hT:(⟨hp,g,d,tk,os⟩:PZ).TypeIs (.ref a) "zip":=⟨_,hx,rfl⟩;unfold Builtin.«object.__getattribute__»
  repeat (any_goals (first|assumption|wp_step))
  simp only[hname,Wt,if_false]
  repeat (any_goals (first|assumption|wp_step))
  exact wpAny_raiseAttrError hs.1 hs.2 (attrMsg_fits (by decide+kernel) hsz)
section
variable{prog:P6}{w:P9}{A:QD}{E:PP}{s:PZ}
theorem AT(hx:s.heap.get? a=some {cls:=.type "zip",dict:=none,data:=.fields vs,slots:= #[]})(hA:A.handled=none)(h:∀h' tk,(∀b ob,s.heap.get? b=some ob->h'.get? b=some ob)->Q none {s with heap:=h',toks:=tk}):P2 (P7 prog w) A (getAttr? (.ref a) "keys") Q E s:=by
 obtain⟨hp,g,d,tk,os⟩:=s;have hT:∀tk',(⟨hp,g,d,tk',os⟩:PZ).TypeIs (.ref a) "zip":=λ_=>⟨_,hx,rfl⟩;have f1:=sub_AttributeError;have f3:=PySem.F.slot_zip_getattribute.lookup;have f4:=PySem.F.slot_zip_getattribute.bind (.ref a);have f5:=kU;unfold getAttr? getAttrBy? getAttrBy
 repeat (any_goals (first|assumption|exact hT _|((with_reducible show P2 _ _ (call (Tq "zip.__getattribute__") _ _) _ _ _);refine SV PySem.F.slot_zip_getattribute (hT _) rC (PySem.F.args_zip_getattribute_2 _ _) (nw a vs #[] "keys" _ rW (by decide+kernel) (by decide)) ⟨hx,hA,λh' tk' e hx'=>?_⟩)|wp_step))
 obtain⟨t',u',he⟩:=hx'.there;have hTe:∀tk'',(⟨h',g,d,tk'',os⟩:PZ).TypeIs (.ref e) "AttributeError":=λ_=>⟨_,he,rfl⟩;show P2 _ _ (getattributeRaised _ _ _ _ _ _ _) _ _ _;unfold getattributeRaised
 repeat (any_goals (first|assumption|exact hTe _|wp_step))
 exact h h' tk' hx'.keeps
theorem ww{z TI TO T:XB}{b:Bool}{o:Obj}{Q:Bool->PZ->Prop}(hz:jS s.heap z TI TO (RA T) b)(hT:s.heap.get? T=some o)(h:∀h',jS h' z TI TO (RA T) true->QL z s.heap h'->Q false {s with heap:=h'}):P2 (P7 prog w) A (QJ (.ref z)) Q E s:=by
 unfold QJ;refine PU (Rg hz rfl (x:=RA T) rfl ?_);show P2 _ _ (loadIfAlive T >>= _) _ _ _;refine PU ?_;have la:∀{R:Option Obj->PZ->Prop},R (some o) s->P2 (P7 prog w) A (loadIfAlive T) R E s:=λh=>by intro Γ p q;show Sem.wp _ Γ (Sem.loadIfAlive T Sem.pure) _ _ p s;rw[Sem.wp_loadIfAlive,hT];exact h
 refine la ?_;simp only[Option.isNone_some,Wt,if_false];refine PU (Rg hz rfl (x:=.bool b) rfl ?_);cases b with
 |true=>exact PV (h _ hz (Sy ..))
 |false=>
  refine PU (m:=setField (.ref z) 1 (.bool true)) (wpAny_setField_rec hz (by simp) λh1 z1 sb=>?_);exact PV (h _ z1 sb)
def Kh(h:Qe)(z TI TO:XB):Prop:=IsZip h z TI TO .none\/∃(T:XB)(o:Obj)(b:Bool),jS h z TI TO (RA T) b/\h.get? T=some o/\T≠z
theorem xZ{z TI TO i1 i2 l1 l2 T:XB}{bb:Bool}{ob:Obj}{k1 k2:Nat}{xs ys:Array h9}{x y:h9}{Q:PP}(D:Sh z TI TO i1 i2 l1 l2)(hz:jS s.heap z TI TO (RA T) bb)(hT:s.heap.get? T=some ob)(hTI:RP s.heap TI (.ref i1) (.ref i2))(h1:s.heap.IsListIter i1 l1 k1)(h2:s.heap.IsListIter i2 l2 k2)(hl1:s.heap.IsList l1 xs)(hl2:s.heap.IsList l2 ys)(hx:xs[k1]? =some x)(hy:ys[k2]? =some y)(hQ:∀h',jS h' z TI TO (RA T) true->h'.IsListIter i1 l1 (k1+1)->h'.IsListIter i2 l2 (k2+1)->RP h' s.heap.objs.size x y->
   (∀c o,c≠z->c≠i1->c≠i2->s.heap.get? c=some o->h'.get? c=some o)->Q (.ref s.heap.objs.size) {s with heap:=h'}):P2 (P7 prog w) A (Builtin.«zip.__next__» ⟨[.ref z],[]⟩) (λfin s'=>∃v,fin=.done (.ret v)/\Q v s') E s:=by
 refine PU (m:=field (.ref z) 2) (Rg hz rfl (x:=.bool false) rfl (PU (m:=field (.ref z) 3) (Rg hz rfl (x:=.ref TI) rfl (PU (QV hTI rfl ?_)))));refine PU (m:=QJ (.ref z)) (ww hz hT λg1 z1 b1=>?_);simp only[Wt,if_false];refine PU ?_;simp only[<-WK,Vm,List.forIn_nil];refine PU (PU (Qa (PU (m:=Rz (.ref i1)) (SR (h1.extBut b1.extBut D.i1z) (hl1.extBut b1.extBut D.l1z) hx λg2 t2 b2=>PV ?_))));refine PV ?_;refine PU (PU (Qa (PU (m:=Rz (.ref i2)) (SR ((h2.extBut b1.extBut D.i2z).extBut b2.extBut D.i12.symm) ((hl2.extBut b1.extBut D.l2z).extBut b2.extBut D.l2i1) hy λg3 t3 b3=>PV ?_))));refine PV (PV ?_);refine PU (wpAny_newTuple (PV ⟨_,rfl,?_⟩) (hsz:=(show 2<=fv by decide)));have n3:g3.objs.size=s.heap.objs.size:=by rw[b3.1,b2.1,b1.1]
 show Q (.ref g3.objs.size) _;rw[n3];have z3:jS g3 z TI TO (RA T) true:=b3.extBut _ _ D.i2z.symm (b2.extBut _ _ D.i1z.symm z1);refine hQ _ (PX _ z3) ?_ ?_ ?_ λc o c1 c2 c3 e=>PX _ (b3.extBut _ _ c3 (b2.extBut _ _ c2 (b1.extBut _ _ c1 e)))
 .exact(t2.extBut b3.extBut D.i12).at λo e=>PX _ e
 .exact t3.at λo e=>PX _ e
 .have:(g3.push {cls:=.type "tuple",data:=.seq #[x,y]}).get? g3.objs.size=_:=P5 _ rfl;rw[n3]at this;exact this
theorem zD{z TI TO i1 i2 l1 l2 T:XB}{bb:Bool}{ob:Obj}{k1:Nat}{xs:Array h9}{Q:Fin->PZ->Prop}(hh:A.handled=none)(D:Sh z TI TO i1 i2 l1 l2)(hz:jS s.heap z TI TO (RA T) bb)(hT:s.heap.get? T=some ob)(hTI:RP s.heap TI (.ref i1) (.ref i2))(h1:s.heap.IsListIter i1 l1 k1)(hl1:s.heap.IsList l1 xs)(hx:xs[k1]? =none)(hE:∀h' e,(∀c o,c≠z->c≠i1->s.heap.get? c=some o->h'.get? c=some o)->(∃o,h'.get? e=some o/\o.cls=.type "StopIteration")->E (.ref e) {s with heap:=h'}):P2 (P7 prog w) A (Builtin.«zip.__next__» ⟨[.ref z],[]⟩) Q E s:=by refine PU (m:=field (.ref z) 2) (Rg hz rfl (x:=.bool false) rfl (PU (m:=field (.ref z) 3) (Rg hz rfl (x:=.ref TI) rfl (PU (QV hTI rfl ?_)))));refine PU (m:=QJ (.ref z)) (ww hz hT λg1 z1 b1=>?_);simp only[Wt,if_false];refine PU ?_;simp only[<-WK,Vm,List.forIn_nil];refine PU (PU (Qa (PU (m:=Rz (.ref i1)) (S7 hh (h1.extBut b1.extBut D.i1z) (hl1.extBut b1.extBut D.l1z) hx λg2 e b2 he=>?_))));exact hE g2 e (λc o c1 c3 x=>b2 _ _ c3 (b1.extBut _ _ c1 x)) he
theorem rX{z TI TO i1 i2 l1 l2:XB}{k:Nat}{xs ys:Array h9}{x y:h9}{Q:Option h9->PZ->Prop}(D:Sh z TI TO i1 i2 l1 l2)(hz:Kh s.heap z TI TO)(hTI:RP s.heap TI (.ref i1) (.ref i2))(hTO:∃a b,RP s.heap TO a b)(h1:s.heap.IsListIter i1 l1 k)(h2:s.heap.IsListIter i2 l2 k)(hl1:s.heap.IsList l1 xs)(hl2:s.heap.IsList l2 ys)(hx:xs[k]? =some x)(hy:ys[k]? =some y)(hQ:∀h',Kh h' z TI TO->(∃a b,RP h' TO a b)->h'.IsListIter i1 l1 (k+1)->h'.IsListIter i2 l2 (k+1)->RP h' s.heap.objs.size x y->
   (∀c o,c≠z->c≠TO->c≠i1->c≠i2->s.heap.get? c=some o->h'.get? c=some o)->Q (some (.ref s.heap.objs.size)) {s with heap:=h'}):P2 (P7 prog w) A (Ra (.ref z)) Q E s:=by
 obtain⟨a,b,hTO⟩:=hTO
 rcases hz with hz|⟨T,o,bb,hz,hT,hTz⟩
 .have zl:z<s.heap.objs.size:=PY hz;exact S5 D hz hTI hTO h1 h2 hl1 hl2 hx hy λh' a1 a2 a3 a4 a5 a6 a7=>hQ h' (.inr ⟨_,_,false,a1,a5,VU zl⟩) ⟨_,_,a2⟩ a3 a4 a5 a7
 .have hTy:s.TypeIs (.ref z) "zip":=⟨_,hz,rfl⟩;unfold Ra;refine PU (Q5 (Qq (name:=QC "__next__") hTy PySem.F.slot_zip_next (Qp PySem.F.slot_zip_next hTy PySem.F.entry_zip_next (xZ D hz hT hTI h1 h2 hl1 hl2 hx hy λh' a1 a2 a3 a4 a5=>PV (hQ h' ?_ ⟨a,b,a5 _ _ D.TOz D.TOi1 D.TOi2 hTO⟩ a2 a3 a4 λc o c1 _ c3 c4 e=>a5 c o c1 c3 c4 e)) (PySem.F.args_zip_next_1 _))));have:∃o',h'.get? T=some o':=by
   by_cases e1:T=i1
   .subst e1;obtain⟨o',q,_⟩:=a2;exact⟨o',q⟩
   .by_cases e2:T=i2
    .subst e2;obtain⟨o',q,_⟩:=a3;exact⟨o',q⟩
    .exact⟨o,a5 _ _ hTz e1 e2 hT⟩
  obtain⟨o',ho'⟩:=this;exact .inr ⟨T,o',true,a1,ho',hTz⟩
theorem uM{z TI TO i1 i2 l1 l2:XB}{k:Nat}{xs ys:Array h9}{Q:Option h9->PZ->Prop}(hh:A.handled=none)(D:Sh z TI TO i1 i2 l1 l2)(hz:Kh s.heap z TI TO)(hTI:RP s.heap TI (.ref i1) (.ref i2))(hTO:∃a b,RP s.heap TO a b)(h1:s.heap.IsListIter i1 l1 k)(h2:s.heap.IsListIter i2 l2 k)(hl1:s.heap.IsList l1 xs)(hl2:s.heap.IsList l2 ys)(hx:xs[k]? =none)(hQ:∀h',(∀c o,c≠z->c≠TO->c≠i1->c≠i2->s.heap.get? c=some o->h'.get? c=some o)->Q none {s with heap:=h'}):P2 (P7 prog w) A (Ra (.ref z)) Q E s:=by
 obtain⟨a,b,hTO⟩:=hTO
 rcases hz with hz|⟨T,o,bb,hz,hT,hTz⟩
 .exact wpAny_pyNext_zip_end hh D hz hTI hTO h1 h2 hl1 hl2 (.inl hx) hQ
 .have hTy:s.TypeIs (.ref z) "zip":=⟨_,hz,rfl⟩;unfold Ra;refine PU (Q5 (Qq (name:=QC "__next__") hTy PySem.F.slot_zip_next (Qp PySem.F.slot_zip_next hTy PySem.F.entry_zip_next (zD hh D hz hT hTI h1 hl1 hx λh' e hk he=>?_) (PySem.F.args_zip_next_1 _))));obtain⟨o,ho,hc⟩:=he;refine PU (Rl (T:="StopIteration") (b:=true) ⟨o,ho,hc⟩ Se ?_);exact PV (hQ _ λc o c1 _ c3 _ e=>hk c o c1 c3 e)
theorem Kh.keep{h h':Qe}{z TI TO d:XB}(hz:Kh h z TI TO)(k:∀c o,c≠d->h.get? c=some o->h'.get? c=some o)(dz:z≠d)(hd:∃o,h'.get? d=some o):Kh h' z TI TO:=by
 rcases hz with hz|⟨T,o,bb,hz,hT,hTz⟩
 .exact .inl (k _ _ dz hz)
 .by_cases e:T=d
  .subst e;obtain⟨o',ho'⟩:=hd;exact .inr ⟨T,o',bb,k _ _ dz hz,ho',hTz⟩
  .exact .inr ⟨T,o,bb,k _ _ dz hz,k _ _ e hT,hTz⟩
variable{K:Type}[DecidableEq K]{knd:KeyKind prog w K}
theorem zo{d z TI TO i1 i2 l1 l2:XB}{xs ys:Array h9}{R:Result->PZ->Prop}(hA:A.handled=none)(D:Sh z TI TO i1 i2 l1 l2)(dz:d≠z)(dI:d≠TI)(dO:d≠TO)(d1:d≠i1)(d2:d≠i2)(e1:d≠l1)(e2:d≠l2)(hle:xs.size<=ys.size):∀(rest:List (K×h9))(i:Nat)(s:PZ)(kvs:List (K×h9))(tk:Tok),i+rest.length=xs.size->Kh s.heap z TI TO->RP s.heap TI (.ref i1) (.ref i2)->(∃a b,RP s.heap TO a b)->s.heap.IsListIter i1 l1 i->s.heap.IsListIter i2 l2 i->s.heap.IsList l1 xs->s.heap.IsList l2 ys->s.heap.DictOf knd d kvs->(∀j p,rest[j]? =some p->∃key,xs[i+j]? =some key/\ys[i+j]? =some p.2/\knd.is p.1 key=true)->kvs.length+rest.length<=fv->(∀s',s'.heap.DictOf knd d (gU kvs rest)->(∀b o,b≠d->b≠z->b≠TO->b≠i1->b≠i2->s.heap.get? b=some o->s'.heap.get? b=some o)->s'.gens=s.gens->s'.drawn=s.drawn->s'.os=s.os->s.toks<=s'.toks->R (.ok (.ret .none)) s')->Rr (P7 prog w) A (.builtin "dict.update.loop" ⟨[.ref d,.ref z,.int i tk,.none],[]⟩) R s:=by
 intro rest
 induction rest with
 |nil=>
  intro i s kvs tk hi hz hTI hTO h1 h2 hl1 hl2 hd hp hs hR;refine Qn pH ?_;rw[Qi jm _];show P2 _ A.in1 (Ra (.ref z) >>= _) _ _ s;refine PU (uM (show A.in1.handled=none from hA) D hz hTI hTO h1 h2 hl1 hl2 (by rw[WH];simp at hi;lia) λh' ext=>?_);show P2 _ _ (Builtin.Dict.addKeywords d [] >>= _) _ _ _;obtain⟨o',es,ep,q1,r⟩:=hd;exact PU (PV (PV (hR _ ⟨o',es,ep,ext _ _ dz dO d1 d2 q1,r⟩ (λb o _ b1 b2 b3 b4 e=>ext b o b1 b2 b3 b4 e) rfl rfl rfl (VO _))))
 |cons p rest ih=>
  intro i s kvs tk hi hz hTI hTO h1 h2 hl1 hl2 hd hp hs hR;obtain⟨key,hx,hy,hk⟩:=hp 0 p rfl;refine Qn pH ?_;rw[Qi jm _];show P2 _ A.in1 (Ra (.ref z) >>= _) _ _ s;refine PU (rX D hz hTI hTO h1 h2 hl1 hl2 hx hy λg1 z1 o1 t1 t2 pr k1=>?_);have hT:(⟨g1,s.gens,s.drawn,s.toks,s.os⟩:PZ).TypeIs (.ref s.heap.objs.size) "tuple":=⟨_,pr,rfl⟩;refine PU (Qa (PU (wpAny_tryCatch ?_)));unfold Builtin.Dict.pairItems;refine PU (Re hT ?_);show P2 _ _ (if _ then _ else _) _ _ _;rw[PF (by decide)];refine PU (QV pr rfl (PV ?_));show P2 _ _ (Sw [key,p.2] (dictSet d key p.2)) _ _ _;have hd1:g1.DictOf knd d kvs:=by obtain⟨o',es,ep,q1,r⟩:=hd;exact⟨o',es,ep,k1 _ _ dz dO d1 d2 q1,r⟩
  refine Qa (wpAny_dictSet_pairs hk hd1 (λg2 hd2 sb2=>?_) (by simp at hs;lia));refine PV ⟨Q6 jm _,?_⟩;have kb:∀b o,b≠d->g1.get? b=some o->g2.get? b=some o:=λb o nd e=>(sb2.2 b nd).trans e;have sl:=uW (kvs:=kvs) (k:=p.1) (v:=p.2);rw[Ut]at hi hs;have kI:=k1 _ _ D.TIz D.TITO D.TIi1 D.TIi2 hTI;refine ih (i+1) ⟨g2,s.gens,s.drawn,s.toks+1,s.os⟩ (T0 kvs p.1 p.2) _ (by lia) (z1.keep kb dz.symm ?_) (kb _ _ dI.symm kI) ?_ ?_ ?_ ?_ ?_ hd2 (λj q hq=>?_) (by lia) (λs' a1 a2 a3 a4 a5 a6=>?_)
  .obtain⟨o',es,ep,q1,r⟩:=hd2;exact⟨o',q1⟩
  .obtain⟨a,b,o1⟩:=o1;exact⟨a,b,kb _ _ dO.symm o1⟩
  .exact t1.at λo e=>kb _ _ d1.symm e
  .exact t2.at λo e=>kb _ _ d2.symm e
  .obtain⟨o,q,r⟩:=hl1;exact⟨o,kb _ _ e1.symm (k1 _ _ D.l1z D.l1TO D.l1i1 D.l1i2 q),r⟩
  .obtain⟨o,q,r⟩:=hl2;exact⟨o,kb _ _ e2.symm (k1 _ _ D.l2z D.l2TO D.l2i1 D.l2i2 q),r⟩
  .obtain⟨key',b1,b2,b3⟩:=hp (j+1) q (by simpa using hq);exact⟨key',by rw[show i+1+j=i+(j+1) by lia];exact b1,by rw[show i+1+j=i+(j+1) by lia];exact b2,b3⟩
  .exact hR s' a1 (λb o nd b1 b2 b3 b4 e=>a2 b o nd b1 b2 b3 b4 (kb _ _ nd (k1 _ _ b1 b2 b3 b4 e))) a3 a4 a5 (VR (VT _) a6)
theorem oA{z TI TO i1 i2 l1 l2:XB}{xs ys:Array h9}{Q:PP}(hA:A.handled=none)(D:Sh z TI TO i1 i2 l1 l2)(hz:IsZip s.heap z TI TO .none)(hTI:RP s.heap TI (.ref i1) (.ref i2))(hTO:∃a b,RP s.heap TO a b)(h1:s.heap.IsListIter i1 l1 0)(h2:s.heap.IsListIter i2 l2 0)(hl1:s.heap.IsList l1 xs)(hl2:s.heap.IsList l2 ys)(ps:List (K×h9))(hlen:ps.length=xs.size)(hle:xs.size<=ys.size)(hsz:ps.length<=fv)(hp:∀(j:Nat)(p:K×h9),ps[j]? =some p->∃key,xs[j]? =some key/\ys[j]? =some p.2/\knd.is p.1 key=true)(h:∀s',s'.heap.DictOf knd s.heap.objs.size (gU [] ps)->(∀b o,b≠z->b≠TO->b≠i1->b≠i2->s.heap.get? b=some o->s'.heap.get? b=some o)->s'.gens=s.gens->s'.drawn=s.drawn->s'.os=s.os->Q (.ref s.heap.objs.size) s'):P2 (P7 prog w) A (call (.type "dict") [.ref z]) Q E s:=by
 refine callType_codes (Q₁:=λobj s₁=>obj=.ref s.heap.objs.size/\s₁={s with heap:=s.heap.push {cls:=.type "dict",data:=.dict #[]}}) PySem.F.kt_called_dict (PySem.F.kt_typeCall_dict_1 _) PySem.F.entry_dict_init (kt_code_dict_new _ ⟨rfl,rfl⟩) ?_;rintro obj s₁ ⟨rfl,rfl⟩;have hnew:(s.heap.push {cls:=.type "dict",data:=.dict #[]}).DictOf knd s.heap.objs.size []:=Heap.DictOf.new s.heap;have up:∀b o,s.heap.get? b=some o->(s.heap.push {cls:=.type "dict",data:=.dict #[]}).get? b=some o:=λb o e=>PX _ e;have zl:=PY hz;refine⟨hnew.typeIs,PySem.F.args_dict_init_2 _ _,?_⟩;unfold Builtin.«dict.__init__»;refine PU ?_;unfold Builtin.Dict.selfAndRest;refine PU (wpAny_notOrdered_dict hnew.typeIs ?_);show P2 _ _ (pure (s.heap.objs.size,[P8 z])) _ _ _;refine PV ?_;show P2 _ _ (SO "dict.__init__" s.heap.objs.size (.ref z) [] .none) _ _ _;unfold SO;refine PU (Re (show RV {s with heap:=s.heap.push {cls:=.type "dict",data:=.dict #[]}} (.ref z) "zip"from⟨_,up _ _ hz,rfl⟩) ?_);rw[PF (by decide)];refine PU (AT (up _ _ hz) (show A.in1.in1.handled=none from hA) λg1 tk1 k1=>?_);rw[PF (by rfl)];have kk:∀b o,s.heap.get? b=some o->g1.get? b=some o:=λb o e=>k1 _ _ (up _ _ e);have hd1:g1.DictOf knd s.heap.objs.size []:=by obtain⟨o',es,ep,e1,r⟩:=hnew;exact⟨o',es,ep,k1 _ _ e1,r⟩
 refine PU (wpAny_rule ?_);refine PU (SI (kk _ _ hz) ?_);refine PV ⟨Q6 jm _,?_⟩;obtain⟨a,b,hTO⟩:=hTO;obtain⟨oi1,qi1,ri1⟩:=h1;obtain⟨oi2,qi2,ri2⟩:=h2;obtain⟨ol1,ql1,rl1⟩:=hl1;obtain⟨ol2,ql2,rl2⟩:=hl2;have ne:∀{c o},s.heap.get? c=some o->s.heap.objs.size≠c:=λe=>VU (PY e);refine zo (A:=A.in1) (xs:=xs) (ys:=ys) hA D (ne hz) (ne hTI) (ne hTO) (ne qi1) (ne qi2) (ne ql1) (ne ql2) hle ps 0 _ [] _ (by lia) (.inl (kk _ _ hz)) (kk _ _ hTI) ⟨_,_,kk _ _ hTO⟩ ⟨_,kk _ _ qi1,ri1⟩ ⟨_,kk _ _ qi2,ri2⟩ ⟨_,kk _ _ ql1,rl1⟩ ⟨_,kk _ _ ql2,rl2⟩ hd1 (λj p hj=>?_) (by simpa using hsz) (λs' a1 a2 a3 a4 a5 a6=>?_)
 .obtain⟨key,b1,b2,b3⟩:=hp j p hj;exact⟨key,by rw[VX];exact b1,by rw[VX];exact b2,b3⟩
 .exact⟨rfl,h s' a1 (λb o b1 b2 b3 b4 e=>a2 b o (ne e).symm b1 b2 b3 b4 (kk _ _ e)) a3 a4 a5⟩
end
def N2(K:Frag)(a b:XB):It:=
 ⟨λi H=>∃xs ys x y,aO K H a xs/\aO K H b ys/\xs[i]? =some x/\ys[i]? =some y,λi H v H'=>∃t x y,v=.ref t/\H t=none/\(∀xs,aO K H a xs->xs[i]? =some x)/\(∀ys,aO K H b ys->ys[i]? =some y)/\H'=upd H t (.tup [x,y]),λi H=>∃xs ys,aO K H a xs/\aO K H b ys/\xs.length<=i⟩
def ZLt(z TI TO i1 i2 l1 l2:XB)(i:Nat)(h:Qe):Prop:=IsZip h z TI TO .none/\RP h TI (.ref i1) (.ref i2)/\(∃a b,RP h TO a b)/\h.IsListIter i1 l1 i/\h.IsListIter i2 l2 i
theorem yb{P:P6}{w:P9}{K:Frag}{elts:List Qx}{k0:Nat}{pos:So}(z TI TO i1 i2 l1 l2:XB)(ap:Sh z TI TO i1 i2 l1 l2):wn P w K (.Tuple elts k0 pos) (N2 K l1 l2) [z,TI,TO,i1,i2] z (ZLt z TI TO i1 i2 l1 l2) where
 mem:=by simp
 obj:=λi h st b hb=>by
  obtain⟨hz,hTI,⟨a,a',hTO⟩,⟨o1,q1,c1,d1⟩,o2,q2,c2,d2⟩:=st;simp only[T8,Uk,or_false]at hb
  rcases hb with rfl|rfl|rfl|rfl|rfl
  .exact⟨_,hz,λv e=>by cases e⟩
  .exact⟨_,hTI,λv e=>by cases e⟩
  .exact⟨_,hTO,λv e=>by cases e⟩
  .exact⟨o1,q1,λv e=>by rw[d1]at e;cases e⟩
  .exact⟨o2,q2,λv e=>by rw[d2]at e;cases e⟩
 keep:=λi h h' st k=>by obtain⟨hz,hTI,⟨a,a',hTO⟩,⟨o1,q1,r1⟩,o2,q2,r2⟩:=st;exact⟨k z (by simp) _ hz,k TI (by simp) _ hTI,⟨a,a',k TO (by simp) _ hTO⟩,⟨o1,k i1 (by simp) _ q1,r1⟩,o2,k i2 (by simp) _ q2,r2⟩
 item:=by
  intro X hP hw hK hc i Pw s σ H E I hf st hg;subst hP hw hK;obtain⟨hz,hTI,⟨a,a',hTO⟩,h1,h2⟩:=st;obtain⟨xs,ys,x,y,hx,hy,ex,ey⟩:=hg;obtain⟨its1,rv1,p1,_⟩:=I.list hx;obtain⟨its2,rv2,p2,_⟩:=I.list hy;obtain⟨u1,hu1,ru1⟩:=rv1.get ex;obtain⟨u2,hu2,ru2⟩:=rv2.get ey;refine S5 ap hz hTI hTO h1 h2 p1.isList p2.isList (x:=u1) (y:=u2) (by simpa using hu1) (by simpa using hu2) λg1 z1 o1 s1 s2 t1 sz k1=>?_;refine⟨_,rfl,wpAny_letOwnedTupleGo_zip z1 λg2 z2 sb=>?_⟩;have lz:z<s.heap.objs.size:=PY hz;have kk:∀b ob,b∉[z,TI,TO,i1,i2]->s.heap.get? b=some ob->g2.get? b=some ob:=λb ob hb q=>by simp only[T8,Uk,or_false,not_or]at hb;exact(sb.2 b hb.1).trans (k1 b ob hb.1 hb.2.2.1 hb.2.2.2.1 hb.2.2.2.2 q)
  have t2:g2.get? s.heap.objs.size=some {cls:=.type "tuple",data:=.seq #[u1,u2]}:=(sb.2 _ (VU lz)).trans t1;have new:bE X.prog X.w (upd H s.heap.objs.size (.tup [x,y])) g2 s.heap.objs.size (.tup [x,y]):=
   ⟨by show 2<=fv;decide,[u1,u2],.cons ru1 (.cons ru2 .nil),⟨_,t2,rfl,_,rfl⟩⟩
  have I2:=I.turned_laidN (t':=s.toks) kk hf (VO _) new;obtain⟨q1,w1,r1⟩:=s1;obtain⟨q2,w2,r2⟩:=s2;have kTI:g1.get? TI=_:=k1 _ _ ap.TIz ap.TITO ap.TIi1 ap.TIi2 hTI;refine⟨.ref s.heap.objs.size,_,I2,rfl,⟨_,x,y,rfl,I.hok.fresh (VO _),λxs' h'=>by rw[I.list_inj h' hx];exact ex,λys' h'=>by rw[I.list_inj h' hy];exact ey,rfl⟩,⟨z2,(sb.2 _ ap.TIz).trans kTI,⟨_,_,(sb.2 _ ap.TOz).trans o1⟩,⟨q1,(sb.2 _ ap.i1z).trans w1,r1⟩,q2,(sb.2 _ ap.i2z).trans w2,r2⟩,λb hb=>?_⟩;have hlt:b<s.heap.objs.size:=by
   simp only[T8,Uk,or_false]at hb
   rcases hb with rfl|rfl|rfl|rfl|rfl
   .exact lz
   .exact PY hTI
   .exact PY hTO
   .obtain⟨o,ho,_⟩:=h1;exact PY ho
   .obtain⟨o,ho,_⟩:=h2;exact PY ho
  rw[au (VP hlt)];exact(hf b hb).1
 done:=by
   intro X hP hw hK hc i Pw s σ H E I hf st hg;subst hP hw hK;obtain⟨hz,hTI,⟨a,a',hTO⟩,h1,h2⟩:=st;obtain⟨xs,ys,hx,hy,hl⟩:=hg;obtain⟨its1,rv1,p1,_⟩:=I.list hx;obtain⟨its2,rv2,p2,_⟩:=I.list hy;have rl:=rv1.length;exact wpAny_pyNext_zip_end (I.ok.hd hc) ap hz hTI hTO h1 h2 p1.isList p2.isList (.inl (by simp;lia)) λh' hx=>⟨rfl,I.turnedN (t':=s.toks) (λb ob hb q=>by
    simp only[T8,Uk,or_false,not_or]at hb;exact hx b ob hb.1 hb.2.2.1 hb.2.2.2.1 hb.2.2.2.2 q) hf⟩
 self:=λA i s Q E st h=>SI st.1 h
theorem zap{n l1 l2:Nat}(h1:l1<n)(h2:l2<n):Sh (n+4) (n+2) (n+3) n (n+1) l1 l2:=by
 constructor<;>(intro z;have z':(_:Nat)=(_:Nat):=z;lia)
section
variable{X:Cx}{p pos pos2:So}{a b:Qx}{elts:List Qx}{k0:Nat}
def Hw(K:Frag)(R:It->Hp->Prop)(vs:List V)(H:Hp):Prop:= ∃l1 l2 xs ys,vs=[.ref l1,.ref l2]/\aO K H l1 xs/\aO K H l2 ys/\R (N2 K l1 l2) H
def HK(K:Frag)(t:TA):TI:=λσ H R=>t σ H λvs H1=>Hw K R vs H1
theorem Nf(K:Frag)(hm:X.mg "zip"=none)(hA:PA X [a,b] t)(hg:Gl X "zip":=by rfl)(hs:P1 [a,b] X.env=(false,Qk a X.env)::P1 [b] X.env:=by rfl)(hp:(Qh pos (P1 [b] X.env)).any (·.1)=false:=by rfl)(hK:X.K=K:=by rfl):PI X (.Tuple elts k0 pos2) (.Call (.Name "zip" p) [a,b] [] pos) (HK K t):=by
 subst hK;intro Pw s σ H R I h;refine Call_ (gP I hg hm B3 (PyProof.Rows.callWith_type1 (bL (hA pos Pw s σ H (λvs H1=>Hw X.K R vs H1) I h) λus s1 ⟨vs,H1,I1,r1,q1⟩=>?_) hs hp) (by decide) (by decide));obtain⟨l1,l2,xs,ys,rfl,hx,hy,q1⟩:=q1;obtain⟨u1,u2,rfl,e1,e2⟩:=zH r1;cases e1;cases e2;obtain⟨its1,rv1,p1,_⟩:=I1.list hx;obtain⟨its2,rv2,p2,_⟩:=I1.list hy;refine call_zip_2 p1.isList p2.isList λh' q2 q3 q4 q5 q6 q7 hk=>?_;have I2:aJ X Pw σ H1 {s1 with heap:=h'}:=I1.kept (t':=s1.toks) hk;have b1:l1<s1.heap.objs.size:=by obtain⟨o,ho,_⟩:=p1.isList;exact PY ho
 have b2:l2<s1.heap.objs.size:=by obtain⟨o,ho,_⟩:=p2.isList;exact PY ho
 refine SI q2 ⟨s1.heap.objs.size+4,[s1.heap.objs.size+4,s1.heap.objs.size+2,s1.heap.objs.size+3,s1.heap.objs.size,s1.heap.objs.size+1],_,_,H1,rfl,I2,yb _ _ _ _ _ l1 l2 (zap b1 b2),⟨q2,q3,⟨_,_,q4⟩,q5,q6⟩,λb hb=>?_,q1⟩;have hb2:s1.heap.objs.size<=b:=by
  simp only[T8,Uk,or_false]at hb
  rcases hb with rfl|rfl|rfl|rfl|rfl
  .exact VW _ _
  .exact VW _ _
  .exact VW _ _
  .exact VO _
  .exact VW _ _
 exact I1.fpOk hb2 (I1.hok.fresh hb2)
theorem Bv{K:Frag}{t:TA}{g:TG}{tb:TS}{D:iI}{σ:St}{H:Hp}{l1 l2:XB}{xs ys:List V}(ht:Av t σ H [.ref l1,.ref l2])(h1:aO K H l1 xs)(h2:aO K H l2 ys)(hl:xs.length<=ys.length)(Pv:Nat->St->Hp->Prop)(h0:Pv 0 σ H)(hk:∀i σ H,Pv i σ H->aO K H l1 xs/\aO K H l2 ys)(hs:∀i x y t σ H,xs[i]? =some x->ys[i]? =some y->H t=none->Pv i σ H->g (.ref t) σ (upd H t (.tup [x,y])) λσ2 H2=>tb {D with nx:=Pv (i+1),ct:=Pv (i+1),bk:=D.nx} σ2 H2)(hd:∀σ H,Pv xs.length σ H->D.nx σ H):tFor (HK K t) g tb D σ H:=by
 refine ht _ ⟨l1,l2,xs,ys,rfl,h1,h2,?_⟩;refine⟨λi m σ H=>m=xs.length - i/\i<=xs.length/\Pv i σ H,⟨xs.length,by simp,VQ _,h0⟩,?_⟩;rintro i m σ H ⟨rfl,hi,p⟩;obtain⟨q1,q2⟩:=hk i σ H p
 by_cases hlt:i<xs.length
 .refine .inr ⟨⟨xs,ys,xs[i],ys[i],q1,q2,by simp[hlt],by simp⟩,Pv (i+1),λσ' H' p'=>⟨xs.length - (i+1),by lia,rfl,hlt,p'⟩,λx H' y=>?_⟩;obtain⟨t,x,y,rfl,ht,hx,hy,rfl⟩:=y;exact hs i x y t σ _ (hx xs q1) (hy ys q2) ht p
 .have e:i=xs.length:=by lia
  subst e;exact .inl ⟨⟨xs,ys,q1,q2,VO _⟩,hd σ H p⟩
end
def kvsZ(kvs:List (Key×V)):List (Str×V)->List (Key×V)
 | []=>kvs
 |p::ps=>kvsZ (mY kvs (.inr p.1) p.2) ps
theorem tZ:∀(ps:List (Str×V))(kvs:List (Key×V)),(kvsZ kvs ps).length<=kvs.length+ps.length
 | [],kvs=>VO _
 |p::ps,kvs=>by have a:=tZ ps (mY kvs (.inr p.1) p.2);have b:=tV kvs (.inr p.1) p.2;show(kvsZ (mY kvs (.inr p.1) p.2) ps).length<=_;rw[Ut];lia
theorem AC:∀(zs:List (Str×V))(ks vs:List h9),aZ (zs.map λz=>V.str z.1) ks->aZ (zs.map (·.2)) vs->∃ps:List (Key×h9),ps.length=zs.length/\(∀(j:Nat)(p:Key×h9),ps[j]? =some p->∃key,ks[j]? =some key/\vs[j]? =some p.2/\aQ (kV p.1) key)/\∀(kvs:List (Key×V))(us:List (Key×h9)),KV kvs us->KV (kvsZ kvs zs) (gU us ps)
 | [],ks,vs,rk,rv=>⟨[],rfl,λj p e=>by simp at e,λkvs vs r=>r⟩
 |z::zs,ks,vs,rk,rv=>by
  cases rk with
  |cons k0 kr=>
  cases rv with
  |cons v0 vr=>
  rename_i k ks v vs;obtain⟨ps,p1,p2,p3⟩:=AC zs ks vs kr vr;refine⟨(.inr z.1,v)::ps,by simp[p1],λj p e=>?_,λkvs us r=>p3 _ _ (r.put _ v0)⟩;cases j with
  |zero=>
   have e:(Sum.inr z.1,v)=p:=by simpa using e
   subst e;exact⟨k,rfl,rfl,k0⟩
  |succ j=>
   obtain⟨key,a,b,c⟩:=p2 j p (by simpa using e);exact⟨key,by simpa using a,by simpa using b,c⟩
section
def Pi(K:Frag)(t:TA):TE:=λσ H Q=>t σ H λvs H1=>∃(l1 l2:XB)(zs:List (Str×V)),vs=[.ref l1,.ref l2]/\aO K H1 l1 (zs.map λz=>V.str z.1)/\aO K H1 l2 (zs.map (·.2))/\zs.length<=100000/\∀q,H1 q=none->Q (.ref q) (upd H1 q (.dK (kvsZ [] zs)))
theorem DE{p p1 p2 pos:So}{t:TA}(hc:X.calm=true)(hA:PA X [a,b] t)(hml:X.mg "dict"=none)(hm:X.mg "zip"=none)(hgl:Gl X "dict":=by rfl)(hg:Gl X "zip":=by rfl)(hs:P1 [.Call (.Name "zip" p1) [a,b] [] p2] X.env=(false,Qk (.Call (.Name "zip" p1) [a,b] [] p2) X.env)::P1 [] X.env:=by rfl)(hplain:(Qh pos (P1 [] X.env)).any (·.1)=false:=by rfl)(hs2:P1 [a,b] X.env=(false,Qk a X.env)::P1 [b] X.env:=by rfl)(hpl2:(Qh p2 (P1 [b] X.env)).any (·.1)=false:=by rfl):PE X (.Call (.Name "dict" p) [.Call (.Name "zip" p1) [a,b] [] p2] [] pos) (Pi X.K t):=by
 intro Pw s σ H Q I h;refine Qt (gP I hgl hml DK ?_ (by decide) (by decide));refine PyProof.Rows.callWith_type1 ?_ hs hplain;rw[hs];show P2 _ _ (TX ((false,Qk (.Call (.Name "zip" p1) [a,b] [] p2) X.env)::Qh pos (P1 [] X.env))) _ _ s;refine QM ?_;refine Qt (gP I hg hm B3 ?_ (by decide) (by decide));refine PyProof.Rows.callWith_type1 (bL (hA p2 Pw s σ H _ I h) λus s1 ⟨vs,H1,I1,r1,l1,l2,zs,e1,hx,hy,hz,q⟩=>?_) hs2 hpl2;subst e1;obtain⟨u1,u2,rfl,e1,e2⟩:=zH r1;cases e1;cases e2;obtain⟨its1,rv1,pl1,_⟩:=I1.list hx;obtain⟨its2,rv2,pl2,_⟩:=I1.list hy;refine call_zip_2 pl1.isList pl2.isList λh' q2 q3 q4 q5 q6 q7 hk=>Ri ?_;have I2:aJ X Pw σ H1 {s1 with heap:=h'}:=I1.kept (t':=s1.toks) hk;have b1:l1<s1.heap.objs.size:=by obtain⟨o,ho,_⟩:=pl1.isList;exact PY ho
 have b2:l2<s1.heap.objs.size:=by obtain⟨o,ho,_⟩:=pl2.isList;exact PY ho
 have up:∀{l its},s1.heap.IsList l its->h'.IsList l its:=λ⟨o,ho,r⟩=>⟨o,hk _ _ ho,r⟩;have n1:=rv1.length;have n2:=rv2.length;rw[T7]at n1 n2;obtain⟨ps,p1,p2,p3⟩:=AC zs its1 its2 rv1 rv2;have fs:∀c,c=s1.heap.objs.size\/c=s1.heap.objs.size+1\/c=s1.heap.objs.size+2\/c=s1.heap.objs.size+3\/c=s1.heap.objs.size+4->ix X Pw H1 c:=λc hc=>by
  have hb2:s1.heap.objs.size<=c:=by rcases hc with rfl|rfl|rfl|rfl|rfl<;>first|exact VO _|exact VW _ _
  exact I1.fpOk hb2 (I1.hok.fresh hb2)
 refine oA (knd:=cz X.prog X.w) (I1.ok.hd hc) (zap b1 b2) q2 q3 ⟨_,_,q4⟩ q5 q6 (up pl1.isList) (up pl2.isList) ps (by rw[p1,Uc];exact n1) (by rw[Uc,Uc];lia) (by rw[p1,P4];lia) (λj p hj=>?_) (λs' a1 a2 a3 a4 a5=>?_)
 .obtain⟨key,c1,c2,c3⟩:=p2 j p hj;exact⟨key,by simpa using c1,by simpa using c2,Bd c3⟩
 .have kl:=tZ zs [];obtain⟨h2,g',d',t',os'⟩:=s';obtain rfl:g'=s1.gens:=a3;obtain rfl:d'=s1.drawn:=a4;obtain rfl:os'=s1.os:=a5;have a1:h2.DictOf (cz X.prog X.w) h'.objs.size (gU [] ps):=a1;have hq:H1 h'.objs.size=none:=I2.hok.fresh (VO _);have kz:(kvsZ [] zs).length<=fv:=by rw[P4];have:([]:List (Key×V)).length=0:=rfl;lia
  have big:RF<h'.objs.size:=I2.big;refine⟨.ref h'.objs.size,upd H1 h'.objs.size (.dK (kvsZ [] zs)),I2.turned_laidN (t':=t') (fp:=[s1.heap.objs.size,s1.heap.objs.size+1,s1.heap.objs.size+3,s1.heap.objs.size+4]) (λb ob hb e=>?_) (λb hb=>?_) (VO _) (JY kz (beq_eq_false_iff_ne.mpr (Ne.symm (VP big))) (p3 [] [] .nil) a1),rfl,q _ hq⟩
  .simp only[T8,Uk,or_false,not_or]at hb;exact a2 b ob hb.2.2.2 hb.2.2.1 hb.1 hb.2.1 e
  .simp only[T8,Uk,or_false]at hb;refine fs b ?_
   rcases hb with z|z|z|z
   .exact .inl z
   .exact .inr (.inl z)
   .exact .inr (.inr (.inr (.inl z)))
   .exact .inr (.inr (.inr (.inr z)))
theorem kdz(K:Frag){p p1 p2 pos:So}{t:TA}(hA:PA X [a,b] t)(hml:X.mg "dict"=none)(hm:X.mg "zip"=none)(hc:X.calm=true:=by rfl)(hgl:Gl X "dict":=by rfl)(hg:Gl X "zip":=by rfl)(hs:P1 [.Call (.Name "zip" p1) [a,b] [] p2] X.env=(false,Qk (.Call (.Name "zip" p1) [a,b] [] p2) X.env)::P1 [] X.env:=by rfl)(hplain:(Qh pos (P1 [] X.env)).any (·.1)=false:=by rfl)(hs2:P1 [a,b] X.env=(false,Qk a X.env)::P1 [b] X.env:=by rfl)(hpl2:(Qh p2 (P1 [b] X.env)).any (·.1)=false:=by rfl)(hK:X.K=K:=by rfl):PE X (.Call (.Name "dict" p) [.Call (.Name "zip" p1) [a,b] [] p2] [] pos) (Pi K t):=by subst hK;exact DE hc hA hml hm hgl hg hs hplain hs2 hpl2
theorem Nm{o e:Qx}{apos cpos:So}{td ty:TE}(hu:X.A.units+20<QT)(ho:PE X o td)(he:PE X e ty)(hb:Qw o "get" X.env (Qk o X.env)=Qk o X.env:=by rfl)(hf:((Qh cpos (P1 [e] X.env)).all (λx=> !x.1)&&(RB cpos (Q7 [] X.env)).all (λx=>x.1.isSome)&&decide (([e]:List Qx).length+([]:List Q0).length+(if([]:List Q0).isEmpty then 0 else 1)<30))=true:=by rfl)(hl:(apos.endLine == cpos.line)=true:=by rfl)(ht:Qh cpos (P1 [e] X.env)=[(false,Qk e X.env)]:=by rfl):PE X (.Call (.Attribute o "get" apos) [e] [] cpos) (uV td ty):=AM (by lia) ho he ⟨hb,hf,hl,ht⟩
end
theorem pj:∀(zs:List (Str×V))(kvs:List (Key×V)),valV (kvsZ kvs zs) (.inr z)=some v->(∃p∈zs,p.1=z/\p.2=v)\/valV kvs (.inr z)=some v
 | [],kvs,h=>.inr h
 |p::ps,kvs,h=>by
  rcases pj ps (mY kvs (.inr p.1) p.2) h with⟨q,hq,e⟩|e
  .exact .inl ⟨q,Ue _ hq,e⟩
  .rw[rZ]at e;split at e
   .rename_i w;exact .inl ⟨p,Ui,by injection w with w;exact w.symm,PL e⟩
   .exact .inr e
theorem px:∀(zs:List (Str×V))(kvs:List (Key×V)),valV (kvsZ kvs zs) (.inr z)=none->(∀p∈zs,p.1≠z)/\valV kvs (.inr z)=none
 | [],kvs,h=>⟨λp hp=>(Uk hp).elim,h⟩
 |p::ps,kvs,h=>by
  obtain⟨a,e⟩:=px ps (mY kvs (.inr p.1) p.2) h;rw[rZ]at e;split at e
  .cases e
  .rename_i w;refine⟨λq hq=>?_,e⟩
   rcases T8.mp hq with rfl|hq
   .exact λe=>w (by rw[e])
   .exact a q hq
section
theorem yt(hyz:y≠z)(hu:u≠0)(hv:v≠0)(hb:x.length+(x.length+1)*z.length<=16777216)(hq:∀r k tk,Q (.str r k) {s with toks:=tk}):P2 (P7 prog w) A (call (.builtin "str.replace") [.str x t,.str y u,.str z v]) Q E s:=by
 have hyz':(y == z)=false:=beq_eq_false_iff_ne.mpr hyz
 by_cases huv:u=v
 .subst huv;have g:Gives (Builtin.«str.replace» ⟨[.str x t,.str y u,.str z u],[]⟩) (.val (.str x t)):=by
   show Gives (if((Qd x y 0 x.length (x.length+1)).isEmpty||(y.length == 0&&z.length == 0))=true then(do rule "str.replace.nothing";ret (.str x t))else
     (do let same<-isSame (.str y u) (.str z u)
         if same=true then(do rule "str.replace.old-is-new";ret (.str x t))else
         if QS (x.length+(Qd x y 0 x.length (x.length+1)).length*z.length)=true then unsupported "str.replace:memory"else
         retStr (Builtin.Str.glued z (Builtin.Str.partsBetween x (Qd x y 0 x.length (x.length+1)) y.length)))) _
   cases hc:((Qd x y 0 x.length (x.length+1)).isEmpty||(y.length == 0&&z.length == 0))
   .have e:isSame (.str y u) (.str z u)=pure true:=by
     show(if(u == 0||u == 0)=true then _ else if(u == u)=true then pure true else _:Sem Bool)=_
     rw[PD (by simp[hu]),PF (by simp)]
    rw[e];exact .rule (.of_eq rfl)
   .exact .rule (.of_eq rfl)
  exact SW PySem.F.slot_str_replace (Rw _ _ _) PySem.F.entry_str_replace (PySem.F.args_str_replace_3 _ _ _) g (hq _ _ s.toks)
 .have hl:QS (x.length+(Qd x y 0 x.length (x.length+1)).length*z.length)=false:=by have h1:=StrLaws.occ_length_le x y 0 x.length (x.length+1);have h2:(Qd x y 0 x.length (x.length+1)).length*z.length<=(x.length+1)*z.length:=Nat.mul_le_mul_right _ h1;unfold QS fv;exact PB (by lia)
  refine SW PySem.F.slot_str_replace (Rw _ _ _) PySem.F.entry_str_replace (PySem.F.args_str_replace_3 _ _ _) (gives_str_replace x y z t u v λ_=>⟨by simp[hu,hv],by simp[huv],hyz',hl⟩) ?_;cases hc:((Qd x y 0 x.length (x.length+1)).isEmpty||(y.length == 0&&z.length == 0))
  .simp only[Wt,if_false];exact⟨fits_replaced y hb,hq _ _ _⟩
  .simp only[if_true];exact hq _ _ s.toks
theorem tk1{α:Type}{M:Model}{t:Sem α}{Q:α->PZ->Prop}(h1:1<=s.toks)(h:P2 M A t Q E s):P2 M A t (λa s'=>1<=s'.toks/\Q a s') E s:=Qz (wpAny_toks_of h1 h) (λ_ _ x=>x) (λ_ _ x=>x.2)
end
section
def PTk(X:Cx)(e:Qx)(t:TT):Prop:= ∀(Pw:PQ)(s:PZ)(σ:St)(H:Hp)(Q:Bool->Hp->Prop),aJ X Pw σ H s->t σ H Q->P2 (P7 X.prog X.w) X.A (T2 e X.env (Qk e X.env)) (λb s'=>1<=s'.toks/\TP X Pw σ Q b s') X.xe s
def NZ(X:Cx)(st:List Ql)(t:TS):Prop:= ∀(Pw:PQ)(s:PZ)(σ:St)(H:Hp)(D:iI),1<=s.toks->aJ X Pw σ H s->t D σ H->P2 (P7 X.prog X.w) X.A (execs st X.env) (SP X Pw D) X.xe s
def PEk(X:Cx)(e:Qx)(t:TE):Prop:= ∀(Pw:PQ)(s:PZ)(σ:St)(H:Hp)(Q:VK),1<=s.toks->aJ X Pw σ H s->t σ H Q->P2 (P7 X.prog X.w) X.A (Qk e X.env) (EP X Pw σ Q) X.xe s
def Po(X:Cx)(e:Qx)(t:TE):Prop:= ∀(Pw:PQ)(s:PZ)(σ:St)(H:Hp)(Q:VK),1<=s.toks->aJ X Pw σ H s->t σ H Q->P2 (P7 X.prog X.w) X.A (Qk e X.env) (λv s'=>(∃z k,v=.str z k/\k≠0)/\1<=s'.toks/\EP X Pw σ Q v s') X.xe s
theorem CP(K:Frag){a:Qx}{ta:TE}{op:S4}{n:Int}{j:Nat}{p pos:So}(hu:X.A.units+20<QT)(ha:PE X a ta)(hm:behindInMarks op (.Constant (.int n) j p)=false:=by first|exact jN _|with_unfolding_all rfl)(hK:X.K=K:=by rfl):PTk X (.Compare a [op] [.Constant (.int n) j p] pos) (dD (dE K op ta (tC (.int n)))):=by subst hK;intro Pw s σ H Q I h;refine RR (bL (ha Pw s σ H _ I h) λv s1 ⟨x,H1,I1,r1,q1⟩=>wpAny_Constant_int ?_) hm;refine bL (tk1 (by show 1<=s1.toks+1;lia) (gy op hu Pw _ σ H1 x (.int n) v _ _ (I1.tok _) r1 ⟨_,rfl⟩ q1)) λc s3 ⟨h1,z,H3,I3,r3,q3⟩=>?_;obtain⟨k,e,q3⟩:=dF q3;subst e;cases r3;exact Qr ⟨h1,H3,I3,q3⟩
theorem IQ(hc:PTk X c tc)(ha:NZ X a t)(hb:oE X b u):PS X (.If c a b pos) (ju tc t u):=by
 intro Pw s σ H D I h;refine wpAny_If (bL (hc Pw s σ H _ I h) λd s1 ⟨k1,H1,I1,q1⟩=>?_);cases d with
 |true=>exact ha Pw s1 σ H1 D k1 I1 q1
 |false=>exact hb Pw s1 σ H1 D I1 q1
theorem Az(he:PEk X e te):NZ X [.Return (some e) pos] (cL te):=by intro Pw s σ H D h1 I h;refine RT (Su (bL (he Pw s σ H _ h1 I h) λv s1 ⟨x,H1,I1,r1,q1⟩=>?_));exact⟨x,σ,H1,I1,r1,q1⟩
def OR(a b:Str)(ti:TE):TE:=λσ H Q=>ti σ H λy H1=>(y=.int 0/\Q (.str a) H1)\/(y=.int 1/\Q (.str b) H1)
theorem xb(hi:PE X i ti)(hs:mw i:=by exact λ_ _=>rfl):Po X (.Subscript (.List [.Constant (.str a) j1 p1,.Constant (.str b) j2 p2] pos) i pos2) (OR a b ti):=by
 intro Pw s σ H Q h1 I h;refine Subscript_ (wpAny_List_spliced ?_);show P2 _ _ (TX [(false,Qk (.Constant (.str a) j1 p1) X.env),(false,Qk (.Constant (.str b) j2 p2) X.env)]) _ _ s;refine QM (Sn (QM (Sn (Ri ⟨by show 2<=fv;decide,?_⟩))));have I1:aJ X Pw σ H {s with heap:=s.heap.push {cls:=.type "list",data:=.seq #[.str a s.toks,.str b (s.toks+1)]},toks:=s.toks+1+1}:=I.kept λc u e=>PX _ e;have e0:(s.heap.push {cls:=.type "list",data:=.seq #[.str a s.toks,.str b (s.toks+1)]}).get? s.heap.objs.size=some {cls:=.type "list",data:=.seq #[.str a s.toks,.str b (s.toks+1)]}:=P5 _ rfl;have I2:=I1.pinned (fp:=[s.heap.objs.size]) (λc hc=>by rw[Ud.mp hc];exact I.fpOk (VO _) (I.hok.fresh (VO _))) (λc hc=>by rw[Ud.mp hc];exact⟨_,e0,λv e=>by cases e⟩);refine bL (tk1 (by show 1<=s.toks+1+1;lia) (hi _ _ σ H _ I2 h)) λu s2 ⟨k2,y,H2,I3,ry,q⟩=>?_;have e2:s2.heap.get? s.heap.objs.size=_:=(I3.pin _ (Ur _ (Ur _ (gB Ui e0)))).1;have hl:s2.heap.IsList s.heap.objs.size #[.str a s.toks,.str b (s.toks+1)]:=⟨_,e2,rfl,_,rfl⟩
 rcases q with⟨rfl,q⟩|⟨rfl,q⟩
 .obtain⟨tk,rfl⟩:=ry;exact item_listR hl (by decide) (by decide) (x:=.str a s.toks) rfl ⟨⟨_,_,rfl,VU h1⟩,k2,.str a,H2,I3.unpinned,⟨_,rfl⟩,q⟩ (hs _ _)
 .obtain⟨tk,rfl⟩:=ry;exact item_listR hl (by decide) (by decide) (x:=.str b (s.toks+1)) rfl ⟨⟨_,_,rfl,V7 _⟩,k2,.str b,H2,I3.unpinned,⟨_,rfl⟩,q⟩ (hs _ _)
def OP(to t1 t2:TE):TE:=λσ H Q=>to σ H λx H1=>∃a,x=.str a/\a.length<=1000/\t1 σ H1 λy H2=>t2 σ H2 λz H3=>∃b c,y=.str b/\z=.str c/\b≠c/\c.length<=1000/\∀r,Q (.str r) H3
theorem AI{o e1 e2:Qx}{to t1 t2:TE}{apos cpos:So}(ho:PE X o to)(h1:Po X e1 t1)(h2:Po X e2 t2)(hbase:Qw o "replace" X.env (Qk o X.env)=Qk o X.env:=by rfl)(hfew:((Qh cpos (P1 [e1,e2] X.env)).all (λx=> !x.1)&&(RB cpos (Q7 [] X.env)).all (λx=>x.1.isSome)
   &&decide ([e1,e2].length+([]:List Q0).length+(if([]:List Q0).isEmpty then 0 else 1)<30))=true:=by rfl) (hline:(apos.endLine == cpos.line)=true:=by rfl) (hs:Qh cpos (P1 [e1,e2] X.env)=[(false,Qk e1 X.env),(false,Qk e2 X.env)]:=by rfl):PEk X (.Call (.Attribute o "replace" apos) [e1,e2] [] cpos) (OP to t1 t2):=by
 intro Pw s σ H Q tk I h;refine QO hbase hfew hline rfl (bL (tk1 tk (ho Pw s σ H _ I h)) λv s1 ⟨k1,x,H1,I1,r1,a,ex,la,q1⟩=>?_);subst ex;obtain⟨g1,g2⟩:=jJ I1 r1 (show Hm X.K "str" (.str a) H1 from rfl);refine⟨"str","str.replace",PySem.F.plainAttrs_str,PySem.F.slot_str_replace,PySem.F.type_str_replace,g1,g2,?_⟩;rw[hs];refine Qu rfl (QA (QM (bL (h1 Pw s1 σ H1 _ k1 I1 q1) λiv s2 ⟨⟨z1,t1,e1,n1⟩,k2,y,H2,I2,ry,q2⟩=>QM (bL (h2 Pw s2 σ H2 _ k2 I2 q2) λfv s3 ⟨⟨z2,t2,e2,n2⟩,k3,z,H3,I3,rz,b,c,eb,ec,hne,lc,q3⟩=>Ri ?_))));have mm:(a.length+1)*c.length<=1001*1000:=Nat.mul_le_mul (by lia) lc;subst eb ec e1 e2;obtain⟨ta,rfl⟩:=r1;obtain⟨tb,e⟩:=ry;cases e;obtain⟨tc,e⟩:=rz;cases e;exact yt hne n1 n2 (by lia) λr k tk=>⟨.str r,H3,I3.tok _,⟨_,rfl⟩,q3 r⟩
end
def HZ(y:Str):Prop:=y.length<=8/\∀c∈y.cps.toList,c<128
def zX:Sp:=λvs H Q _=>∃(d1 d2:XB)(c:Int)(ys zs:List Str),vs=[.ref d1,.ref d2,.int c]/\H d1=some (.lst (ys.map V.str))/\H d2=some (.lst (zs.map V.str))/\ys.length<=8/\zs.length<=8/\(∀y∈ys,HZ y)/\(∀z∈zs,HZ z)/\∀z H',aj H H'->Q (.str z) H'
theorem Da(w1:1<=wi)(w8:wi<=8)(h8:hi<=8)(s0:0<=s)(s1:s<wi*hi)(g0:0<=g)(g1:g<wi*hi)(t01:t= -1\/(0<=t/\t<wi*hi)):HZ (uI wi s g t):=by
 refine⟨Db _ _ _ _,λc hc=>?_⟩;have lo:∀n:Int,(97+n % wi).toNat<128:=λn=>by have:=Wc n (by lia:0<wi);lia
 have up:∀n:Int,n<wi*hi->(49+n / wi).toNat<128:=λn hn=>by have:=mU w1 h8 hn;lia
 rw[rf]at hc;have a1:=lo s;have a2:=lo g;have a3:=lo t;have b1:=up s s1;have b2:=up g g1;split at hc
 .simp only[T8,Uk,or_false]at hc
  rcases hc with rfl|rfl|rfl|rfl|rfl<;>first|assumption|decide
 .have b3:=up t (by lia);split at hc
  .simp only[T8,Uk,or_false]at hc
   rcases hc with rfl|rfl|rfl|rfl|rfl<;>first|assumption|decide
  .simp only[T8,Uk,or_false]at hc
   rcases hc with rfl|rfl|rfl|rfl|rfl|rfl|rfl|rfl<;>first|assumption|decide
theorem ui{K:Frag}{H:Hp}{n:Nat}{a b:XB}{k:List Int}(ha:H a=some (.tup (k.map V.int)))(hb:H b=some (.tup (k.map V.int))):wu K H (n+1) (.ref a) (.ref b) true:=by
 have z:=wu.tup (n:=n) (es:=λ_=>true) (da.of (K:=K) ha) (da.of (K:=K) hb) (λi x y hx hy=>by
  have e:x=y:=PL (hx.symm.trans hy);subst e;obtain⟨m,_,rfl⟩:=T9.mp (Us hx);have w:=wv.flat (K:=K) (H:=H) (n:=n) (x:=.int m) (y:=.int m) rfl rfl;rw[show eqV (.int m) (.int m)=true from by simp[eqV,eqB]]at w;exact w)
 rw[show((List.range (min (k.map V.int).length (k.map V.int).length)).all λ_=>true)=true from UB.mpr λ_ _=>rfl]at z;simpa using z
theorem DU.tx{K:Frag}{cB cG:XB}{H:Hp}{g b kq p:XB}{row:Str}{sd wi hi:Int}{hs:List Int}{ks:List Nat}{us:List (bj×XB)}{ts es:List ((Str×Str)×XB)}{st:Str}{m:List (List Int)}(h:DU K cB cG H g b kq p row sd wi hi hs ks us ts es st m):∀k∈m,HZ (mvK wi k):=λk hk=>by obtain⟨s,gl,t,rfl,a1,a2,a3,a4,a5⟩:=h.mv k hk;exact Da h.gs.bd.w1 h.gs.bd.w8 h.gs.bd.h8 a1 a2 a3 a4 a5
theorem BN(xs:List V)(n:Nat):cutV xs none (some (n:Int))=xs.take n:=by
 unfold cutV;rw[HT.sIx_none];have:HT.sIx xs.length xs.length (some (n:Int))=min n xs.length:=HT.sIx_nat _ _ n;rw[this,U1,V8]
 rcases Nat.le_total n xs.length with h|h
 .rw[Nat.min_eq_left h]
 .rw[Nat.min_eq_right h,U9 (VO _),U9 h]
theorem Pd{K:Frag}{t:TA}{σ:St}{H:Hp}{Q:VK}(h:t σ H λvs H1=>∃(l1 l2:XB)(zs:List (Str×V)),vs=[.ref l1,.ref l2]/\aO K H1 l1 (zs.map λz=>V.str z.1)/\aO K H1 l2 (zs.map (·.2))/\zs.length<=100000/\∀q,H1 q=none->Q (.ref q) (upd H1 q (.dK (kvsZ [] zs)))):Pi K t σ H Q:=h
theorem M8{K:Frag}{ta tb:TE}{σ:St}{H:Hp}{R:Bool->Hp->Prop}(h:ta σ H λx H1=>tb σ H1 λy H2=>Jm K x y H2 (eT R)):dD (NQ K ta tb) σ H R:=h
def MB(wi hi:Int)(k:List Int):Prop:= ∃s gl t,k=[s,gl,t]/\0<=s/\s<wi*hi/\0<=gl/\gl<wi*hi/\(t= -1\/(0<=t/\t<wi*hi))
theorem wx{K:Frag}{cB cG:XB}{H:Hp}{g b kq:XB}{wi hi:Int}{hs:List Int}{ks:List Nat}{us:List (bj×XB)}{ts es:List ((Str×Str)×XB)}{st:Str}(G:kS K cB cG H g b kq wi hi hs ks us ts es st){d:XB}{ps:List (List Int×XB)}(hd:H d=some (.lst (kRefs ps)))(hp:nX H ps)(hl:ps.length<=5000)(hB:∀p∈ps,MB wi hi p.1){σ:St}(hs':eW [none,some 1] σ=[none,some (.ref g)]){Q:VK}(q:∀d' H',aj H H'->H' d'=some (.lst ((ps.map λp=>mvK wi p.1).map V.str))->Q (.ref d') H'):dC (gName 0) lF (cY (gV K cB cG) (ba (ci 1) (ba (ci 0) cE))) [none,some 1] σ Q (Ck K d) H:=by
 refine rY (rest:=[oR g]) hd (by rw[T7,P4];lia) hs' (λi _ v=>∃p,ps[i]? =some p/\v=.str (mvK wi p.1)) (λi H H' v h s=>h) (λi x H' hx s' Q' q'=>?_) (λd' H' ys s' hd' hl' hy=>?_)
 .rw[Ub]at hx;obtain⟨p,hp',rfl⟩:=WQ.mp hx;have hm:=Us hp';obtain⟨s,gl,t,e,a1,a2,a3,a4,a5⟩:=hB p hm;have G':=G.same s';have et:=s' _ _ (hp p hm);rw[e]at et;exact dZ (ae (aa rfl) (ae (aa rfl) aw)) ⟨g,b,p.2,wi,hi,hs,_,_,_,_,st,s,gl,t,rfl,G'.gm,G'.bd,et,a1,a2,a3,a4,a5,λH'' s''=>q' _ _ ⟨p,hp',by rw[e];rfl⟩ s''⟩
 .have e:ys=(ps.map λp=>mvK wi p.1).map V.str:=by
   apply UM;intro i;rw[Ub,Ub];cases h:ys[i]? with
   |some y=>
    obtain⟨p,e1,e2⟩:=hy i y h;rw[e1,e2];rfl
   |none=>
    have:=VM.mp h;rw[hl',T7]at this;rw[Uz this];rfl
  subst e;exact q d' _ (s'.upd hd') ah
end L2
seal L2.PE L2.PT L2.PA L2.PS L2.oE L2.PG L2.Ia L2.PI L2.PO L2.uG L2.PW L2.bx L2.uL L2.iJ L2.Pm L2.xT L2.zC
namespace K15
open PySem L2
def bz(i:Nat):Ql:=PySem.Challenge.pw_playboard_k15_moves_in_texts.main.body.getD i (.Pass ⟨0,0,0,0⟩)
abbrev wU:Ql:=bz 0
abbrev gu:Ql:=fX (bz 5) 0
abbrev gr:Ql:=bz 13
theorem sQ:aD ["thing"] ["thing"] (am gr):=eY
abbrev fC:Ql:=bz 14
theorem qh:aD ["thing"] ["thing"] (am fC):=eY
abbrev gt:Ql:=bz 15
theorem sR:aD ["thing","least","most"] ["thing","least","most"] (am gt):=eY
abbrev dv:Ql:=bz 16
theorem eE:aD ["number","group","groups","left"] ["number"] (am dv):=eY
abbrev g6:Ql:=bz 25
theorem vh:aD ["thing","words"] ["thing","words"] (am g6):=eY
abbrev dw:Ql:=bz 26
theorem mP:aD ["thing","many"] ["thing","many"] (am dw):=eY
abbrev eH:Ql:=bz 27
theorem n4:aD ["thing","least","most"] ["thing","least","most"] (am eH):=eY
abbrev g7:Ql:=bz 28
theorem mQ:aD ["sort","across","up","longest"] ["sort","across","up"] (am g7):=eY
abbrev g8:Ql:=bz 29
theorem jL:aD ["thing","kinds","sort","aim"] ["thing","kinds"] (am g8):=eY
abbrev g9:Ql:=bz 30
theorem vi:aD ["thing","firsts","seconds"] ["thing","firsts","seconds"] (am g9):=eY
abbrev dS:Ql:=bz 31
theorem qk:aD ["thing","firsts","seconds"] ["thing","firsts","seconds"] (am dS):=eY
abbrev dL:Ql:=bz 32
theorem lH:aD ["thing","kinds","firsts"] ["thing","kinds"] (am dL):=eY
abbrev hG:Ql:=bz 33
theorem vj:aD ["thing","kinds"] ["thing","kinds"] (am hG):=eY
abbrev dU:Ql:=bz 34
theorem ql:aD ["thing"] ["thing"] (am dU):=eY
abbrev dR:Ql:=bz 35
theorem qj:aD ["thing","kinds"] ["thing","kinds"] (am dR):=eY
abbrev gZ:Ql:=bz 39
theorem vg:aD ["sign"] ["sign"] (am gZ):=eY
abbrev gX:Ql:=bz 40
theorem vf:aD ["sign"] ["sign"] (am gX):=eY
abbrev db:Ql:=bz 41
theorem nZ:aD ["row","side"] ["row","side"] (am db):=eY
abbrev sS:Ql:=bz 43
theorem qg:aD ["board","square","across","up","come_to","here"] ["board","square","across","up"] (am sS):=eY
abbrev mS:Ql:=bz 46
theorem mh:aD ["row","side","aim","path","found","goal","owner"] ["row","side","aim","path"] (am mS):=eY
abbrev iS:Ql:=bz 47
theorem yp:aD ["row","side","path"] ["row","side","path"] (am iS):=eY
abbrev hJ:Ql:=bz 48
theorem jM:aD ["board","row","square","rule","side","path"] ["board","row","square","rule"] (am hJ):=eY
abbrev j7:Ql:=bz 49
theorem mR:aD ["game","row","square","found","rule"] ["game","row","square"] (am j7):=eY
abbrev fE:Ql:=bz 52
theorem qi:aD ["wide","square"] ["wide","square"] (am fE):=eY
abbrev iR:Ql:=bz 53
theorem yo:aD ["wide","square"] ["wide","square"] (am iR):=eY
abbrev fA:Ql:=bz 54
theorem qf:aD ["wide","column","row"] ["wide","column","row"] (am fA):=eY
abbrev du:Ql:=bz 55
theorem mM:aD ["wide","square"] ["wide","square"] (am du):=eY
abbrev jk:Ql:=bz 57
theorem j4:aD ["game","place","row","found","start"] ["game","place"] (am jk):=eY
abbrev fB:Ql:=bz 59
theorem fT:aD ["game","move","wide","start","goal"] ["game","move"] (am fB):=eY
abbrev gY:Ql:=bz 60
theorem mO:aD ["game","place","text","move"] ["game","place","text"] (am gY):=eY
abbrev dW:Ql:=bz 63
theorem qm:aD ["thing","many"] ["thing","many"] (am dW):=eY
abbrev bV:Ql:=fX (bz 64) 0
theorem j6:aD ["self","wide","high","holes"] ["self","wide","high","holes"] (am bV):=eY
abbrev lI:Ql:=fX (bz 64) 1
abbrev iA:Ql:=fX (bz 64) 2
abbrev dA:Ql:=fX (bz 64) 3
theorem eG:aD ["self","square","across","up","column","row","goal"] ["self","square","across","up"] (am dA):=eY
abbrev iB:Ql:=fX (bz 64) 4
abbrev cH:Ql:=fX (bz 66) 0
theorem lf:aD ["self","board","kinds","rules","turns","ends","stuck"] ["self","board","kinds","rules","turns","ends","stuck"] (am cH):=eY
abbrev ce:Ql:=fX (bz 66) 1
theorem lb:aD ["self","kind"] ["self","kind"] (am ce):=eY
abbrev jz:Ql:=fX (bz 66) 2
abbrev cU:Ql:=bz 68
theorem lT:aD ["_law_script","_law_k"] ["_law_script","_law_k"] (am cU):=eY
abbrev eJ:Ql:=bz 69
theorem n6:aD ["_law_cell","_law_k"] ["_law_cell","_law_k"] (am eJ):=eY
abbrev eI:Ql:=bz 70
theorem n5:aD ["_law_thing"] ["_law_thing"] (am eI):=eY
abbrev eK:Ql:=bz 71
theorem bH:aD ["_law_script","_law_cell","_law_wide","_law_high","_law_holes","_law_k","_law_hole"] ["_law_script"] (am eK):=eY
abbrev df:Ql:=bz 72
theorem gN:aD ["_law_cell","_law_letters","_law_step_here"] ["_law_cell"] (am df):=eY
abbrev fI:Ql:=bz 73
theorem bN:aD ["_law_cell","_law_kinds_here","_law_more","_law_sort","_law_aim","_law_reach","_law_across","_law_up"] ["_law_cell","_law_kinds_here"] (am fI):=eY
abbrev dc:Ql:=bz 74
theorem fm:aD ["_law_cell","_law_kinds_here","_law_many","_law_other","_law_turns_here"] ["_law_cell","_law_kinds_here"] (am dc):=eY
abbrev fJ:Ql:=bz 75
theorem bi:aD ["_law_script","_law_wide","_law_high","_law_holes","_law_kinds_here","_law_cell","_law_rules","_law_k","_law_turns_here","_law_ends","_law_more","_law_stuck"] ["_law_script"] (am fJ):=eY
abbrev cw:Ql:=bz 76
theorem bD:aD ["_law_script","_law_game_here","_law_start","_law_size","_law_free","_law_signs","_law_cell","_law_cells","_law_spots","_law_k","_law_square","_law_more","_law_kind"] ["_law_script","_law_game_here","_law_start"] (am cw):=eY
abbrev fH:Ql:=bz 77
theorem qo:aD ["_law_sign"] ["_law_sign"] (am fH):=eY
abbrev fG:Ql:=bz 78
theorem fV:aD ["_law_game_here","_law_square","_law_across","_law_up","_law_column","_law_row_here","_law_goal"] ["_law_game_here","_law_square","_law_across","_law_up"] (am fG):=eY
abbrev cV:Ql:=bz 79
theorem bJ:aD ["_law_game_here","_law_row_here","_law_square","_law_rule_here","_law_side_here","_law_across","_law_up","_law_goal","_law_found","_law_behind"] ["_law_game_here","_law_row_here","_law_square","_law_rule_here"] (am cV):=eY
abbrev dg:Ql:=bz 80
theorem ft:aD ["_law_game_here","_law_row_here","_law_square","_law_found","_law_rule_here"] ["_law_game_here","_law_row_here","_law_square"] (am dg):=eY
abbrev de:Ql:=bz 81
theorem fo:aD ["_law_game_here","_law_place","_law_found","_law_start"] ["_law_game_here","_law_place"] (am de):=eY
abbrev bY:Ql:=bz 82
theorem jv:aD ["_law_game_here","_law_square"] ["_law_game_here","_law_square"] (am bY):=eY
abbrev dX:Ql:=bz 83
theorem fU:aD ["_law_game_here","_law_move","_law_start","_law_goal","_law_taken"] ["_law_game_here","_law_move"] (am dX):=eY
abbrev cT:Ql:=bz 84
theorem cF:aD ["_law_texts","_law_others","_law_cell","_law_text_here","_law_at","_law_sign","_law_kind"] ["_law_texts","_law_others","_law_cell"] (am cT):=eY
abbrev eM:Ql:=bz 85
theorem fu:aD ["_law_e","_law_told_here"] ["_law_e"] (am eM):=eY
abbrev fF:Ql:=bz 86
theorem j5:aD ["_law_game_here","_law_place","_law_text_here","_law_e"] ["_law_game_here","_law_place","_law_text_here"] (am fF):=eY
abbrev iz:Ql:=bz 87
theorem eF:aD ["_law_script","_law_game_here","_law_place","_law_found","_law_texts","_law_move","_law_text_here","_law_told_here","_law_back","_law_others","_law_by_text","_law_k","_law_cell"] ["_law_script"] (am iz):=eY
structure Txt(mg:PN)(aS aA aE aW:XB):Prop where
 isinstance:mg "isinstance"=none
 int:mg "int"=none
 bool:mg "bool"=none
 str:mg "str"=none
 list:mg "list"=none
 tuple:mg "tuple"=none
 len:mg "len"=none
 range:mg "range"=none
 all:mg "all"=none
 any:mg "any"=none
 set:mg "set"=none
 sorted:mg "sorted"=none
 min:mg "min"=none
 max:mg "max"=none
 dict:mg "dict"=none
 ValueError:mg "ValueError"=none
 enumerate:mg "enumerate"=none
 zip:mg "zip"=none
 reversed:mg "reversed"=none
 NOTHING:∃u,mg "NOTHING"=some u/\aQ (.int (-1)) u
 EMPTY:∃u,mg "EMPTY"=some u/\aQ (.str ".") u
 HOLE:∃u,mg "HOLE"=some u/\aQ (.str "#") u
 COLUMNS:∃u,mg "COLUMNS"=some u/\aQ (.str "abcdefghijklmnopqrstuvwxyz") u
 MOST_PAIRS:∃u,mg "MOST_PAIRS"=some u/\aQ (.int 6) u
 MOST_KINDS:∃u,mg "MOST_KINDS"=some u/\aQ (.int 6) u
 MOST_RULES:∃u,mg "MOST_RULES"=some u/\aQ (.int 24) u
 LONGEST:∃u,mg "LONGEST"=some u/\aQ (.int 8) u
 SORTS:∃u,mg "SORTS"=some u/\aQ (.ref aS) u
 AIMS:∃u,mg "AIMS"=some u/\aQ (.ref aA) u
 END_WORDS:∃u,mg "END_WORDS"=some u/\aQ (.ref aE) u
 STUCK_WORDS:∃u,mg "STUCK_WORDS"=some u/\aQ (.ref aW) u
section
theorem tK(F:cZ K "is_whole" "is_whole" gr f fd)(T:Txt mg aS aA aE aW):bh P w K mg Px dm 1 f fd ["thing"] mG:=by refine F.ok1 sQ λcdv A Py s H vs Q E hr h=>?_;obtain⟨v,rfl,t,q⟩:=h;refine⟨_,(ao (aC (fc (A9 .int T.isinstance T.int rN (cv 0)) (fM (BR (A9 .bool T.isinstance T.bool xQ (cv 0))))))),?_⟩;show cL _ _ [some v] H;refine aK (cM (pG (aa rfl) t) (λ_=>Bz (pG (aa rfl) t))) ?_;rw[zE t];exact q
theorem tM(F:cZ K "is_among" "is_among" gt f fd)(C:RG0 P w K mg Px):bh P w K mg Px dm 2 f fd ["thing","least","most"] mJ:=by
 refine F.ok1 sR λcdv A Py s H vs Q E hr h=>?_;obtain⟨v,a,b,rfl,t,q⟩:=h;have hu:=bZ hr;refine⟨_,(ao (aC (fc (aH C.is_whole hr (az (cv 0) pan)) (fM (vQ K hu (cv 1) (cv 0) (cv 2)))))),?_⟩;show cL _ _ [some v,oJ a,oJ b] H;have hc:=aL (sp:=mG) (σ:=[some v,oJ a,oJ b]) (H:=H) (ae (aa (n:=0) rfl) aw) (λQ q=>⟨v,rfl,t,q⟩);cases v with
 |int i=>exact aK (cM hc (λ_=>xE (aa rfl) (aa rfl) (λ_=>aa rfl))) q
 |_=>exact aK (cM (b:=false) hc (λh=>by cases h)) q
theorem vA(F:cZ K "is_word" "is_word" g6 f fd)(T:Txt mg aS aA aE aW):bh P w K mg Px dm 1 f fd ["thing","words"] (ji K):=by
 refine F.ok1 vh λcdv A Py s H vs Q E hr h=>?_;obtain⟨v,d,ws,rfl,t,hw,q⟩:=h;have hu:=bZ hr;refine⟨_,(ao (aC (fc (A9 .str T.isinstance T.str rL (cv 0)) (fM (ls K hu (cv 0) (cv 1)))))),?_⟩;show cL _ _ [some v,oR d] H;have hs:=pG (T:=.str) (te:=ci 0) (σ:=[some v,oR d]) (aa rfl) t;rw[zS t]at hs;cases v with
 |str z=>exact aK (cM hs (λ_=>BB (aa rfl) (aa rfl) hw)) q
 |_=>exact aK (cM (b:=false) hs (λh=>by cases h)) q
theorem m8(F:cZ K "is_tuple_of" "is_tuple_of" dw f fd)(T:Txt mg aS aA aE aW):bh P w K mg Px dm 1 f fd ["thing","many"] kY:=by
 refine F.ok1 mP λcdv A Py s H vs Q E hr h=>?_;obtain⟨v,n,rfl,t,q⟩:=h;have hu:=bZ hr;refine⟨_,(ao (aC (fc (A9 .tuple T.isinstance T.tuple uz (cv 0)) (fM (ls K hu (kB (ib K) cb T.len (az (cv 0) pan)) (cv 1)))))),?_⟩;show cL _ _ [some v,oJ n] H;have hs:=pG (T:=.tuple) (te:=ci 0) (σ:=[some v,oJ n]) (aa rfl) t;rw[Ij t]at hs;unfold tupB at q;cases e:tupOf H v with
 |none=>
  rw[e]at hs q;exact aK (cM (b:=false) hs (λh=>by cases h)) q
 |some xs=>
  rw[e]at hs q;obtain⟨a,rfl,ha⟩:=ij e;exact aK (cM hs (λ_=>dY (dt (aa rfl) (.inr (da.of ha))) (aa rfl))) q
theorem oa(F:cZ K "is_list_of" "is_list_of" eH f fd)(T:Txt mg aS aA aE aW):bh P w K mg Px dm 1 f fd ["thing","least","most"] pY:=by
 refine F.ok1 n4 λcdv A Py s H vs Q E hr h=>?_;obtain⟨v,a,b,rfl,t,q⟩:=h;have hu:=bZ hr;refine⟨_,(ao (aC (fc (A9 .list T.isinstance T.list jr (cv 0)) (fM (vQ K hu (cv 1) (kB (ib K) cb T.len (az (cv 0) pan)) (cv 2)))))),?_⟩;show cL _ _ [some v,oJ a,oJ b] H;have hs:=pG (T:=.list) (te:=ci 0) (σ:=[some v,oJ a,oJ b]) (aa rfl) t;rw[Jq t]at hs;unfold lj at q;cases e:lstOf H v with
 |none=>
  rw[e]at hs q;exact aK (cM (b:=false) hs (λh=>by cases h)) q
 |some xs=>
  rw[e]at hs q;obtain⟨d,rfl,hd⟩:=gC e;exact aK (cM hs (λ_=>xE (aa rfl) (dt (aa rfl) (.inl (aO.of hd))) (λ_=>aa rfl))) q
theorem vB(F:cZ K "is_step" "is_step" g7 f fd)(C:RG1 P w K mg Px):bh P w K mg Px dm 3 f fd ["sort","across","up"] wH:=by
 refine F.ok1 mQ λcdv A Py s H vs Q E hr h=>?_;obtain⟨so,x,y,rfl,tx,ty,q⟩:=h;have hu:=bZ hr;refine⟨_,(af (av 3 mQ.nd (eQ (aN K hu (cv 0) aP) ag ag))
  (af (aY (PW.pt (fP (bO (bM (aH C.is_among hr (az (cv 1) (az (jQ (cv 3)) (az (cv 3) pan)))))) (eP (bO (bM (aH C.is_among hr (az (cv 2) (az (jQ (cv 3)) (az (cv 3) pan))))))))) (ao (aC gw)) aG)
  (ao (aC (NL (ls K hu (cv 1) ag) (fM (ls K hu (cv 2) ag))))))),?_⟩
 show bg _ _ _ [oT so,some x,some y,none] H;refine a8 (v:=.int (limS so)) (λQ q=>?_) ?_
 .refine vW (BE (aX (dN (aa rfl) aq)) (λ_=>aq) (λ_=>aq)) ?_;unfold limS at q
  by_cases h:so="leap"
  .rw[PF h]at q;rw[Pz h];exact q
  .rw[PD h]at q;rw[PB h];exact q
 unfold lG at q;generalize limS so=l at q ⊢;refine aT (iy (ck (aX (aL (ae (aa rfl) (ae (ja (aa rfl)) (ae (aa rfl) aw))) (λQ q=>⟨x, -l,l,rfl,tx,q⟩)))) (λ_=>ck (aX (aL (ae (aa rfl) (ae (ja (aa rfl)) (ae (aa rfl) aw))) (λQ q=>⟨y, -l,l,rfl,ty,q⟩))))) (λh=>?_) (λh=>?_)
 .refine aK aq ?_;have e:(amongB x (-l) l&&amongB y (-l) l&& !(decide (x=.int 0)&&decide (y=.int 0)))=false:=by cases h1:amongB x (-l) l<;>cases h2:amongB y (-l) l<;>simp_all
  rw[e]at q;exact q
 .have h1:amongB x (-l) l=true:=by cases h1:amongB x (-l) l<;>simp_all
  have h2:amongB y (-l) l=true:=by cases h2:amongB y (-l) l<;>simp_all
  cases x with
  |int i=>
   cases y with
   |int j=>
    refine aK (NE (xA (aa rfl) aq) (λ_=>xA (aa rfl) aq)) ?_;rw[h1,h2]at q;have ei:∀k:Int,decide (V.int k=V.int 0)=decide (k=0):=λk=>by
     by_cases e:k=0
     .rw[Pz e,Pz (PM V.int e)]
     .rw[PB e,PB (λz=>e (by injection z))]
    rw[ei,ei]at q;have e:(true&&true&& !(decide (i=0)&&decide (j=0)))=(!decide (i=0)|| !decide (j=0)):=by cases decide (i=0)<;>cases decide (j=0)<;>rfl
    rw[e]at q;exact q
   |_=>cases h2
  |_=>cases h1
theorem vD(F:cZ K "is_pair" "is_pair" g9 f fd)(C:RG2 P w K mg Px):bh P w K mg Px dm 2 f fd ["thing","firsts","seconds"] (wK K):=by
 refine F.ok1 vi λcdv A Py s H vs Q E hr h=>?_;obtain⟨v,d,e,A,B,rfl,t,hA,hB,q⟩:=h;have hu:=bZ hr;refine⟨_,(ao (aC (fc (aH C.is_tuple_of hr (az (cv 0) (az ag pan))) (fc (aH C.is_word hr (az (cj K (cv 0) ag) (az (cv 1) pan))) (fM (aH C.is_word hr (az (cj K (cv 0) ag) (az (cv 2) pan)))))))),?_⟩;show cL _ _ [some v,oR d,oR e] H;have hc:=aL (sp:=kY) (σ:=[some v,oR d,oR e]) (H:=H) (x:=.bl (tupB H v 2)) (ae (aa (n:=0) rfl) (ae (aq (x:=.int 2)) aw)) (λQ q=>⟨v,2,rfl,t.thg,q⟩);unfold eS at q;unfold tupB at hc;cases e1:tupOf H v with
 |none=>
  rw[e1]at hc q;exact aK (cM (b:=false) hc (λh=>by cases h)) q
 |some xs=>
  rw[e1]at hc q;obtain⟨a,rfl,ha⟩:=ij e1;have tx:=t.2 xs (.inl e1)
  by_cases hl:(xs.length:Int)=2
  .match xs,hl,e1,ha,tx,q,hc with
   | [x,y],_,e1,ha,tx,q,hc=>
     exact aK (cM hc (λ_=>cM (aL (ae (bf (aa rfl) aq (.inr (da.of ha)) (bI (j:=0) rfl)) (ae (aa rfl) aw)) (λQ q=>⟨x,d,A,rfl,tx x (by simp),hA,q⟩))
      (λ_=>aL (ae (bf (aa rfl) aq (.inr (da.of ha)) (bI (j:=1) rfl)) (ae (aa rfl) aw)) (λQ q=>⟨y,e,B,rfl,tx y (by simp),hB,q⟩)))) q
  .have e2:tJ xs A B=false:=by
    unfold tJ;split
    .exact PK rfl hl
    .rfl
   have hc2:Ev (cY kY (ba (ci 0) (ba (tC (.int 2)) cE))) [some (.ref a),some (.ref d),some (.ref e)] H (.bl (decide ((xs.length:Int)=2))):=hc;rw[PB hl]at hc2;have q2:Q (.bl (tJ xs A B)) H:=q;rw[e2]at q2;exact aK (cM (b:=false) hc2 (λh=>by cases h)) q2
theorem vC(F:cZ K "is_rule" "is_rule" g8 f fd)(T:Txt mg aS aA aE aW)(hS:∀H,iH K H aS sortsL)(hA:∀H,iH K H aA aimsL)(C:RG3 P w K mg Px):bh P w K mg Px dm 4 f fd ["thing","kinds"] (wI K):=by
 refine F.ok1 jL λcdv A Py s H vs Q E hr h=>?_;obtain⟨v,d,ws,rfl,t,hw,q⟩:=h;have hu:=bZ hr;refine⟨_,(af (aY (PW.pt (fP (bO (bM (aH C.is_tuple_of hr (az (cv 0) (az ag pan))))) (eP (bO (bM (aH C.is_word hr (az (cj K (cv 0) ag) (az (cv 1) pan)))))))) (ao (aC gw)) aG)
  (af (av 2 jL.nd (cj K (cv 0) ag))
  (af (av 3 jL.nd (cj K (cv 0) ag))
  (af (aY (PW.pt (fP (bO (bM (aH C.is_word hr (az (cv 2) (az (kg T.SORTS) pan))))) (eP (bO (bM (aH C.is_word hr (az (cv 3) (az (kg T.AIMS) pan)))))))) (ao (aC gw)) aG)
  (af (aY (PW.pt (gO (aN K hu (cv 2) aP) (fW (aN K hu (cv 3) aP)))) (ao (aC gw)) aG)
  (ao (aC (aH C.is_step hr (az (cv 2) (az (cj K (cv 0) ag) (az (cj K (cv 0) ag) pan))))))))))),?_⟩
 show bg _ _ _ [some v,oR d,none,none] H;have rb:tupB H v 5=false->eO H v ws=false:=λh=>by
  unfold tupB at h;unfold eO;cases e1:tupOf H v with
  |none=>rfl
  |some xs=>
   rw[e1]at h;have h:¬(xs.length:Int)=5:=PJ h;show jA xs ws=false;unfold jA;split
   .exact PK rfl h
   .rfl
 cases hb0:tupB H v 5 with
 |false=>
  rw[rb hb0]at q;refine aT (iy (b:=false) (ck (aX (aL (sp:=kY) (x:=.bl (tupB H v 5)) (ae (aa rfl) (ae aq aw)) (λQ q=>⟨v,5,rfl,t.thg,q⟩)))) (λh=>?_)) (λ_=>aK aq q) (λh=>?_)
  .rw[hb0]at h;cases h
  .rw[hb0]at h;cases h
 |true=>
  obtain⟨xs,e1,hl⟩:∃xs,tupOf H v=some xs/\(xs.length:Int)=5:=by
   unfold tupB at hb0;cases e1:tupOf H v with
   |none=>rw[e1]at hb0;cases hb0
   |some xs=>rw[e1]at hb0;exact⟨xs,rfl,PH hb0⟩
  unfold eO at q;rw[e1]at q;have q:Q (.bl (jA xs ws)) H:=q;obtain⟨a,rfl,ha⟩:=ij e1;have tx:=t.2 xs (.inl e1)
  match xs,hl,e1,ha,tx,q with
  | [k,so,ai,x,y],_,e1,ha,tx,q=>
    have hq:da K H a [k,so,ai,x,y]:=da.of ha;have hb:tupB H (.ref a) 5=true:=by unfold tupB;rw[e1];rfl
    refine aT (iy (ck (aX (aL (sp:=kY) (x:=.bl (tupB H (.ref a) 5)) (ae (aa rfl) (ae aq aw)) (λQ q=>⟨.ref a,5,rfl,t.thg,q⟩)))) (λ_=>ck (aX (aL (sp:=ji K) (ae (bf (aa rfl) aq (.inr hq) (bI (j:=0) rfl)) (ae (aa rfl) aw)) (λQ q=>⟨k,d,ws,rfl,tx k (by simp),hw,q⟩))))) (λh=>?_) (λh=>?_)
    .rw[hb]at h;have hk:wordB k ws=false:=by
      cases hk:wordB k ws
      .rfl
      .rw[hk]at h;cases h
     refine aK aq ?_;have e2:jA [k,so,ai,x,y] ws=false:=by
      unfold jA;split
      .rename_i z;cases z;rw[hk];simp
      .rfl
     rw[e2]at q;exact q
    .rw[hb]at h;have hk:wordB k ws=true:=by
      cases hk:wordB k ws
      .rw[hk]at h;cases h
      .rfl
     refine a8 (v:=so) (bf (aa rfl) aq (.inr hq) (bI (j:=1) rfl)) ?_;refine a8 (v:=ai) (bf (aa rfl) aq (.inr hq) (bI (j:=2) rfl)) ?_;refine aT (iy (ck (aX (aL (sp:=ji K) (ae (aa rfl) (ae aq aw)) (λQ q=>⟨so,aS,sortsL,rfl,tx so (by simp),hS H,q⟩)))) (λ_=>ck (aX (aL (sp:=ji K) (ae (aa rfl) (ae aq aw)) (λQ q=>⟨ai,aA,aimsL,rfl,tx ai (by simp),hA H,q⟩))))) (λh=>?_) (λh=>?_)
     .refine aK aq ?_;have e2:jA [k,so,ai,x,y] ws=false:=by
       unfold jA;split
       .rename_i k' so' ai' x' y' z;cases z;have h:(!decide (so'∈sortsL)|| !decide (ai'∈aimsL))=true:=h
        cases h1:decide (so'∈sortsL)<;>cases h2:decide (ai'∈aimsL)<;>simp_all
       .rfl
      rw[e2]at q;exact q
     .have h1:wordB so sortsL=true:=by cases h1:wordB so sortsL<;>simp_all
      have h2:wordB ai aimsL=true:=by cases h2:wordB ai aimsL<;>simp_all
      cases so with
      |str so=>
       cases ai with
       |str ai=>
        have h1:decide (so∈sortsL)=true:=h1;have h2:decide (ai∈aimsL)=true:=h2;have eR:jA [k,.str so,.str ai,x,y] ws=(!(decide (so="jump")&& !decide (ai="hit"))&&lG so x y):=by show(wordB k ws&&decide (so∈sortsL)&&decide (ai∈aimsL)&& !(decide (so="jump")&& !decide (ai="hit"))&&lG so x y)=_;rw[hk,h1,h2];simp
        rw[eR]at q;refine aT (ii (aX (dN (aa rfl) aq)) (λ_=>aX (jP (aa rfl) aq))) (λh=>?_) (λh=>?_)
        .refine aK aq ?_;rw[h]at q;exact q
        .rw[h]at q;exact dZ (ae (aa rfl) (ae (bf (aa rfl) aq (.inr hq) (bI (j:=3) rfl)) (ae (bf (aa rfl) aq (.inr hq) (bI (j:=4) rfl)) aw))) ⟨so,x,y,rfl,tx x (by simp),tx y (by simp),q⟩
       |_=>cases h2
      |_=>cases h1
theorem qU(F:cZ K "are_pairs" "are_pairs" dS f fd)(T:Txt mg aS aA aE aW)(C:RG4 P w K mg Px):bh P w K mg Px dm 3 f fd ["thing","firsts","seconds"] (sG K):=by
 refine F.ok1 qk λcdv A Py s H vs Q E hr h=>?_;obtain⟨v,d,e,A,B,rfl,t,hA,hB,q⟩:=h;have hu:=bZ hr;refine⟨_,(ao (aC (fc (aH C.is_list_of hr (az (cv 0) (az ag (az (kg T.MOST_PAIRS) pan)))) (fM (kB (Dg K) rP T.all (az (fQ (cc (N:=["part","firsts","seconds"]) (src:=[none,some 1,some 2]) (am dS) ["thing","firsts","seconds"]) (rS K (cv 0)) (λ_ _ _=>(bo (i:=0) ["part","firsts","seconds"])) (λ_ _ _=>bP) (λ_ _ _=>(aH C.is_pair hr (az (cv 0) (az (cv 1) (az (cv 2) pan)))))) pan)))))),?_⟩;show cL _ _ [some v,oR d,oR e] H;refine B8 (a:=lj H v 0 6) (aL (ae (aa rfl) (ae aq (ae aq aw))) (λQ q=>⟨v,0,6,rfl,t.thg,q⟩)) (λh=>?_) (λh=>?_)
 .unfold lj at h;cases e1:lstOf H v with
  |none=>rw[e1]at h;cases h
  |some xs=>
   rw[e1]at h;have h:0<=(xs.length:Int)/\(xs.length:Int)<=6:=PH h;obtain⟨a,rfl,ha⟩:=gC e1;have tx:=t.2 xs (.inr e1);refine gJ (d:=a) (xs:=xs) (rest:=[oR d,oR e]) (aa rfl) (aO.of ha) (by rw[P4];lia) rfl (λ_=>true) (λx=>.bl (eS H x A B)) (λx hx=>dH) (λx hx _=>?_) (λp hp=>?_)
   .exact aL (ae (aa rfl) (ae (aa rfl) (ae (aa rfl) aw))) (λQ q=>⟨x,d,e,A,B,rfl,tx x hx,hA,hB,q⟩)
   .refine⟨xs.map (λx=>eS H x A B),?_,?_⟩
    .have e2:(xs.filter λ_=>true).map (λx=>V.bl (eS H x A B))=(xs.map (λx=>eS H x A B)).map V.bl:=by rw[UE.mpr (λ_ _=>rfl),Uf];rfl
     rw[<-e2];exact aO.of ah
    .have k:=q _ ((aj.refl H).upd (o:=.lst ((xs.filter λ_=>true).map (λx=>V.bl (eS H x A B)))) hp);unfold pairsB at k;rw[e1]at k;have e3:(decide (xs.length<=6)&&xs.all (λx=>eS H x A B))=(xs.map (λx=>eS H x A B)).all id:=by rw[Pz (by lia:xs.length<=6),Vx];rfl
     have k:Q (.bl (decide (xs.length<=6)&&xs.all (λx=>eS H x A B))) _:=k;rw[e3]at k;exact k
 .have k:=q H (aj.refl H);have e2:pairsB H v A B=false:=by
   unfold pairsB;unfold lj at h;cases e1:lstOf H v with
   |none=>rfl
   |some xs=>
    rw[e1]at h;have h:¬(0<=(xs.length:Int)/\(xs.length:Int)<=6):=PJ h;show(decide (xs.length<=6)&&_)=false;rw[PB (by lia:¬xs.length<=6)];rfl
  rw[e2]at k;exact k
theorem vE(F:cZ K "is_ends" "is_ends" hG f fd)(T:Txt mg aS aA aE aW)(hE:∀H,iH K H aE iD)(C:RG5 P w K mg Px):bh P w K mg Px dm 4 f fd ["thing","kinds"] (wQ K):=by refine F.ok1 vj λcdv A Py s H vs Q E hr h=>?_;obtain⟨v,d,ws,rfl,t,hw,q⟩:=h;refine⟨_,(ao (aC (aH C.are_pairs hr (az (cv 0) (az (kg T.END_WORDS) (az (cv 1) pan)))))),?_⟩;show cL _ _ [some v,oR d] H;exact dZ (ae (aa rfl) (ae aq (ae (aa rfl) aw))) ⟨v,aE,d,iD,ws,rfl,t,hE H,hw,q⟩
theorem tL(F:cZ K "is_turns" "is_turns" dL f fd)(T:Txt mg aS aA aE aW)(C:RG5 P w K mg Px):bh P w K mg Px dm 4 f fd ["thing","kinds"] (sC K):=by
 refine F.ok1 lH λcdv A Py s H vs Q E hr h=>?_;obtain⟨v,d,ws,rfl,t,hw,q⟩:=h;have hu:=bZ hr;refine⟨_,(af (aY (bO (bM (aH C.are_pairs hr (az (cv 0) (az (cv 1) (az (cv 1) pan)))))) (ao (aC gw)) aG)
  (af (av 2 lH.nd (fQ (cc (N:=["pair"]) (src:=[none]) (am dL) ["thing","kinds","firsts"]) (rS K (cv 0)) (λ_ _ _=>(bo (i:=0) ["pair"])) (λ_ _ _=>bP) (λ_ _ _=>(cj K (cv 0) ag))))
  (af (aY (bM (kB (O4 K) J6 T.any (az (fQ (cc (N:=["pair","firsts"]) (src:=[none,some 2]) (am dL) ["thing","kinds","firsts"]) (rS K (cv 0)) (λ_ _ _=>(bo (i:=0) ["pair","firsts"])) (λ_ _ _=>bP) (λ_ _ _=>(ls K hu (cj K (cv 0) ag) (cv 1)))) pan))) (ao (aC gw)) aG)
  (ao (aC (ls K hu (kB nO cb T.len (az (Cg (HH K hr) rM T.set (az (cv 2) pan)) pan)) (kB (ib K) cb T.len (az (cv 2) pan)))))))),?_⟩
 show bg _ _ _ [some v,oR d,none] H;refine gk (λb H'=>b=(!pairsB H v ws ws)/\aj H H') (λQ q=>lw (ae (aa rfl) (ae (aa rfl) (ae (aa rfl) aw))) ⟨v,d,d,ws,ws,rfl,t,hw,hw,λH' s=>q _ _ ⟨rfl,s⟩⟩) (λH1 h=>?_) (λH1 h=>?_)
 .obtain⟨hb,s1⟩:=h;have k:=q H1 s1;have e0:pairsB H v ws ws=false:=by
   cases z:pairsB H v ws ws
   .rfl
   .rw[z]at hb;cases hb
  unfold gc at k;rw[e0]at k;exact aK aq k
 .obtain⟨hb,s1⟩:=h;have e0:pairsB H v ws ws=true:=by
   cases z:pairsB H v ws ws
   .rw[z]at hb;cases hb
   .rfl
  unfold gc at q;rw[e0]at q;obtain⟨xs,e1,l6,hp⟩:=yL e0;rw[e1]at q;have q:∀H',aj H H'->Q (.bl (!(xs.any λx=>decide (gW H x∈xs.map (cA H)))&&decide ((xs.map (cA H)).Nodup))) H':=q;obtain⟨a,rfl,ha⟩:=gC e1;have ha1:=s1 _ _ ha;refine bC (λu H'=>∃fq,u=.ref fq/\H' fq=some (.lst ((xs.map (cA H)).map V.str))/\aj H1 H') (λQ q=>?_) ?_
  .refine gJ (d:=a) (xs:=xs) (rest:=[]) (aa rfl) (aO.of ha1) (by rw[P4];lia) rfl (λ_=>true) (λx=>.str (cA H x)) (λx hx=>dH) (λx hx _=>?_) (λp hp'=>?_)
   .obtain⟨c,f1,f2,rfl,hc⟩:=hp x hx;have e:cA H (.ref c)=f1:=by simp only[cA,tupOf,hc]
    rw[e];exact bf (aa rfl) aq (.inr (da.of (s1 _ _ hc))) (bI (j:=0) rfl)
   .have e:(xs.filter λ_=>true).map (λx=>V.str (cA H x))=(xs.map (cA H)).map V.str:=by rw[UE.mpr (λ_ _=>rfl),Uf];rfl
    rw[e];exact q _ _ ⟨p,rfl,ah,(aj.refl H1).upd hp'⟩
  rintro _ H2 ⟨fq,rfl,hf,s2⟩;have ha2:=s2 _ _ ha1;refine gk (λb H'=>b=(xs.any λx=>decide (gW H x∈xs.map (cA H)))/\aj H2 H') (λQ q=>?_) (λH3 h=>?_) (λH3 h=>?_)
  .refine gJ (d:=a) (xs:=xs) (rest:=[oR fq]) (aa rfl) (aO.of ha2) (by rw[P4];lia) rfl (λ_=>true) (λx=>.bl (decide (gW H x∈xs.map (cA H)))) (λx hx=>dH) (λx hx _=>?_) (λp hp'=>?_)
   .obtain⟨c,f1,f2,rfl,hc⟩:=hp x hx;have e:gW H (.ref c)=f2:=by simp only[gW,tupOf,hc]
    rw[e];exact BB (bf (aa rfl) aq (.inr (da.of (s2 _ _ (s1 _ _ hc)))) (bI (j:=1) rfl)) (aa rfl) (.inl (aO.of hf))
   .refine⟨xs.map (λx=>decide (gW H x∈xs.map (cA H))),?_,?_⟩
    .have e2:(xs.filter λ_=>true).map (λx=>V.bl (decide (gW H x∈xs.map (cA H))))=(xs.map (λx=>decide (gW H x∈xs.map (cA H)))).map V.bl:=by rw[UE.mpr (λ_ _=>rfl),Uf];rfl
     rw[<-e2];exact aO.of ah
    .have e3:(xs.map (λx=>decide (gW H x∈xs.map (cA H)))).any id=xs.any λx=>decide (gW H x∈xs.map (cA H)):=by rw[Va];rfl
     rw[e3];exact q _ _ ⟨rfl,(aj.refl H2).upd hp'⟩
  .have k:=q H3 ((s1.trans s2).trans h.2);rw[<-h.1]at k;exact aK aq k
  .have s03:=(s1.trans s2).trans h.2;show cL _ _ [oR a,oR d,oR fq] H3;have hf3:=h.2 _ _ hf;refine BQ (tU (ss:=xs.map (cA H)) (aa rfl) (aO.of hf3) (by rw[T7];lia) (λH4 s4=>?_));refine vW (dt (aa rfl) (.inl (aO.of (s4 _ _ hf3)))) ?_;have k:=q H4 (s03.trans s4);rw[<-h.1]at k;have e4:decide ((((lE (xs.map (cA H))).length:Nat):Int)=((((xs.map (cA H)).map V.str).length:Nat):Int))=decide ((xs.map (cA H)).Nodup):=by
    rw[T7 (f:=V.str)]
    by_cases hn:(xs.map (cA H)).Nodup
    .rw[Pz hn,Pz (by rw[(jf _).mpr hn])]
    .rw[PB hn,PB (λz=>hn ((jf _).mp (by lia)))]
   show Q (.bl (decide ((((lE (xs.map (cA H))).length:Nat):Int)=((((xs.map (cA H)).map V.str).length:Nat):Int)))) H4;rw[e4];exact k
theorem qR(F:cZ K "is_letter" "is_letter" fC f fd)(T:Txt mg aS aA aE aW):bh P w K mg Px dm 1 f fd ["thing"] oQ:=by
 refine F.ok1 qh λcdv A Py s H vs Q E hr h=>?_;obtain⟨v,rfl,t,q⟩:=h;have hu:=bZ hr;refine⟨_,(ao (aC (fc (A9 .str T.isinstance T.str rL (cv 0)) (fc (ls K hu (kB (ib K) cb T.len (az (cv 0) pan)) ag) (fM (vQ K hu aP (cv 0) aP)))))),?_⟩;show cL _ _ [some v] H;have hs:=pG (T:=.str) (te:=ci 0) (σ:=[some v]) (aa rfl) t;rw[zS t]at hs;cases v with
 |str z=>
  refine aK (cM hs (λ_=>cM (dY (rB (aa rfl) (VR (show z.length<=1000 from t) (by decide))) aq) (λ_=>Dy aq (aa rfl) aq))) ?_;rw[MD,MC];have e:(true&&(decide ((z.length:Int)=1)&&(!decide (z.cps.toList<[97])&& !decide ([122]<z.cps.toList))))=letB (.str z):=by
   rw[jg]
   match e:z.cps.toList with
   | [c]=>
     simp only[letB,e,Jp];rw[Wu];simp
   | []=>simp only[letB,e];rfl
   |_::_::r=>
    simp only[letB,e];rw[PB (by simp only[Ut];lia)];rfl
  have q2:=q;rw[<-e]at q2;exact q2
 |_=>exact aK (cM (b:=false) hs (λh=>by cases h)) q
theorem qV(F:cZ K "are_kinds" "are_kinds" dU f fd)(T:Txt mg aS aA aE aW)(C:Ps P w K mg Px):bh P w K mg Px dm 2 f fd ["thing"] sL:=by
 refine F.ok1 ql λcdv A Py s H vs Q E hr h=>?_;obtain⟨v,rfl,t,q⟩:=h;have hu:=bZ hr;refine⟨_,(af (aY (PW.pt (fP (bO (bM (aH C.is_list_of hr (az (cv 0) (az ag (az (kg T.MOST_KINDS) pan)))))) (eP (bO (bM (kB (Dg K) rP T.all (az (fQ (cc (N:=["part"]) (src:=[none]) (am dU) ["thing"]) (rS K (cv 0)) (λ_ _ _=>(bo (i:=0) ["part"])) (λ_ _ _=>bP) (λ_ _ _=>(aH C.is_letter hr (az (cv 0) pan)))) pan))))))) (ao (aC gw)) aG)
  (ao (aC (ls K hu (kB nO cb T.len (az (Cg (HH K hr) rM T.set (az (cv 0) pan)) pan)) (kB (ib K) cb T.len (az (cv 0) pan)))))),?_⟩
 show bg _ _ _ [some v] H;have eL:Ev (cY pY (ba (ci 0) (ba (tC (.int 1)) (ba (tC (.int 6)) cE)))) [some v] H (.bl (lj H v 1 6)):=aL (ae (aa rfl) (ae aq (ae aq aw))) (λQ q=>⟨v,1,6,rfl,t.thg,q⟩);unfold ny at q;cases e1:lstOf H v with
 |none=>
  have hb:lj H v 1 6=false:=by unfold lj;rw[e1]
  rw[hb]at eL;rw[e1]at q;refine aT (b:=true) (λQ q=>ck (aX eL) _ (iG q)) (λ_=>aK aq (q H (aj.refl H))) (λh=>by cases h)
 |some xs=>
  rw[e1]at q;have q:∀H',aj H H'->Q (.bl (decide (1<=xs.length/\xs.length<=6)&&xs.all letB&&decide ((xs.map iO).Nodup))) H':=q;obtain⟨a,rfl,ha⟩:=gC e1;have tx:=t.2 xs (.inr e1);have hb:lj H (.ref a) 1 6=decide (1<=xs.length/\xs.length<=6):=by unfold lj;rw[e1];show decide ((1:Int)<=xs.length/\(xs.length:Int)<=6)=_;rw[decide_eq_decide];lia
  rw[hb]at eL
  by_cases hl:1<=xs.length/\xs.length<=6
  .rw[Pz hl]at eL q;refine gk (λb H'=>b=(!xs.all letB)/\aj H H') (λQ q=>?_) (λH1 h=>?_) (λH1 h=>?_)
   .refine MA (ck (aX eL)) ?_;refine gJ (d:=a) (xs:=xs) (rest:=[]) (aa rfl) (aO.of ha) (by rw[P4];lia) rfl (λ_=>true) (λx=>.bl (letB x)) (λx hx=>dH) (λx hx _=>?_) (λp hp=>?_)
    .exact aL (ae (aa rfl) aw) (λQ q=>⟨x,rfl,tx x hx,q⟩)
    .refine⟨xs.map letB,?_,?_⟩
     .have e2:(xs.filter λ_=>true).map (λx=>V.bl (letB x))=(xs.map letB).map V.bl:=by rw[UE.mpr (λ_ _=>rfl),Uf];rfl
      rw[<-e2];exact aO.of ah
     .have e3:(xs.map letB).all id=xs.all letB:=by rw[Vx];rfl
      rw[e3];exact q _ _ ⟨rfl,(aj.refl H).upd hp⟩
   .have k:=q H1 h.2;have e0:xs.all letB=false:=by
     cases z:xs.all letB
     .rfl
     .rw[z]at h;cases h.1
    rw[e0]at k;exact aK aq k
   .obtain⟨hq,s1⟩:=h;have e0:xs.all letB=true:=by
     cases z:xs.all letB
     .rw[z]at hq;cases hq
     .rfl
    have e5:xs=(xs.map iO).map V.str:=by
     rw[Uf];have:∀x∈xs,x=(V.str∘iO) x:=λx hx=>by obtain⟨c,rfl,_⟩:=A5 (UB.mp e0 x hx);rfl
     exact(List.map_id xs).symm.trans (UG this)
    have ha1:=s1 _ _ ha;rw[e5]at ha1;show cL _ _ [oR a] H1;refine BQ (tU (ss:=xs.map iO) (aa rfl) (aO.of ha1) (by rw[T7];lia) (λH4 s4=>?_));refine vW (dt (aa rfl) (.inl (aO.of (s4 _ _ ha1)))) ?_;have k:=q H4 (s1.trans s4);rw[e0]at k;have e4:decide ((((lE (xs.map iO)).length:Nat):Int)=((((xs.map iO).map V.str).length:Nat):Int))=decide ((xs.map iO).Nodup):=by
     rw[T7 (f:=V.str)]
     by_cases hn:(xs.map iO).Nodup
     .rw[Pz hn,Pz (by rw[(jf _).mpr hn])]
     .rw[PB hn,PB (λz=>hn ((jf _).mp (by lia)))]
    show Q (.bl (decide ((((lE (xs.map iO)).length:Nat):Int)=((((xs.map iO).map V.str).length:Nat):Int)))) H4;rw[e4];exact k
  .rw[PB hl]at eL q;exact aT (b:=true) (λQ q=>ck (aX eL) _ (iG q)) (λ_=>aK aq (q H (aj.refl H))) (λh=>by cases h)
theorem qT(F:cZ K "are_rules" "are_rules" dR f fd)(T:Txt mg aS aA aE aW)(C:Ps P w K mg Px):bh P w K mg Px dm 5 f fd ["thing","kinds"] (sE K):=by
 refine F.ok1 qj λcdv A Py s H vs Q E hr h=>?_;obtain⟨v,d,ws,rfl,t,hw,q⟩:=h;have hu:=bZ hr;refine⟨_,(ao (aC (fc (aH C.is_list_of hr (az (cv 0) (az ag (az (kg T.MOST_RULES) pan)))) (fM (kB (Dg K) rP T.all (az (fQ (cc (N:=["part","kinds"]) (src:=[none,some 1]) (am dR) ["thing","kinds"]) (rS K (cv 0)) (λ_ _ _=>(bo (i:=0) ["part","kinds"])) (λ_ _ _=>bP) (λ_ _ _=>(aH C.is_rule hr (az (cv 0) (az (cv 1) pan))))) pan)))))),?_⟩;show cL _ _ [some v,oR d] H;refine B8 (a:=lj H v 0 24) (aL (ae (aa rfl) (ae aq (ae aq aw))) (λQ q=>⟨v,0,24,rfl,t.thg,q⟩)) (λh=>?_) (λh=>?_)
 .unfold lj at h;cases e1:lstOf H v with
  |none=>rw[e1]at h;cases h
  |some xs=>
   rw[e1]at h;have h:0<=(xs.length:Int)/\(xs.length:Int)<=24:=PH h;obtain⟨a,rfl,ha⟩:=gC e1;have tx:=t.2 xs (.inr e1);refine gJ (d:=a) (xs:=xs) (rest:=[oR d]) (aa rfl) (aO.of ha) (by rw[P4];lia) rfl (λ_=>true) (λx=>.bl (eO H x ws)) (λx hx=>dH) (λx hx _=>?_) (λp hp=>?_)
   .exact aL (ae (aa rfl) (ae (aa rfl) aw)) (λQ q=>⟨x,d,ws,rfl,tx x hx,hw,q⟩)
   .refine⟨xs.map (λx=>eO H x ws),?_,?_⟩
    .have e2:(xs.filter λ_=>true).map (λx=>V.bl (eO H x ws))=(xs.map (λx=>eO H x ws)).map V.bl:=by rw[UE.mpr (λ_ _=>rfl),Uf];rfl
     rw[<-e2];exact aO.of ah
    .have k:=q _ ((aj.refl H).upd (o:=.lst ((xs.filter λ_=>true).map (λx=>V.bl (eO H x ws)))) hp);unfold fK at k;rw[e1]at k;have e3:(decide (xs.length<=24)&&xs.all (λx=>eO H x ws))=(xs.map (λx=>eO H x ws)).all id:=by rw[Pz (by lia:xs.length<=24),Vx];rfl
     have k:Q (.bl (decide (xs.length<=24)&&xs.all (λx=>eO H x ws))) _:=k;rw[e3]at k;exact k
 .have k:=q H (aj.refl H);have e2:fK H v ws=false:=by
   unfold fK;unfold lj at h;cases e1:lstOf H v with
   |none=>rfl
   |some xs=>
    rw[e1]at h;have h:¬(0<=(xs.length:Int)/\(xs.length:Int)<=24):=PJ h;show(decide (xs.length<=24)&&_)=false;rw[PB (by lia:¬xs.length<=24)];rfl
  rw[e2]at k;exact k
theorem re(F:cZ K "__init__" "Game.__init__" cH f fd)(T:Txt mg aS aA aE aW)(hW:∀H,iH K H aW iN)(B:xW K cG)(C:GG2 P w K mg Px):bh P w K mg Px dm 6 f fd ["self","board","kinds","rules","turns","ends","stuck"] (wP K cG):=by
 refine F.ok1 lf λcdv A Py s H vs Q E hr h=>?_;obtain⟨p,b,kd,rd,td,ed,dx,ws,rs,ts,es,st,rfl,hp,hk,hr',ht,he,tk,tr,tt,te,bk,br,bt,be,hst,lst',q⟩:=h;have hu:=bZ hr;have wk:∀H',aj H H'->iH K H' kd ws:=λH' s=>.inl (aO.of (s _ _ hk));refine⟨_,(af (aY (bO (bM (aH C.are_kinds hr (az (cv 2) pan)))) (ao gv) aG)
  (af (aY (bO (bM (aH C.are_rules hr (az (cv 3) (az (cv 2) pan))))) (ao gv) aG)
  (af (aY (bO (bM (aH C.is_turns hr (az (cv 4) (az (cv 2) pan))))) (ao gv) aG)
  (af (aY (bO (bM (aH C.is_ends hr (az (cv 5) (az (cv 2) pan))))) (ao gv) aG)
  (af (aY (bO (bM (aH C.is_word hr (az (cv 6) (az (kg T.STUCK_WORDS) pan))))) (ao gv) aG)
  (af (jF K (cv 0) (cv 1))
  (af (jF K (cv 0) (Cg (xn K) jr T.list (az (cv 2) pan)))
  (af (jF K (cv 0) (Cg (xn K) jr T.list (az (cv 3) pan)))
  (af (jF K (cv 0) (Cg (xn K) jr T.list (az (cv 4) pan)))
  (af (jF K (cv 0) (Cg (xn K) jr T.list (az (cv 5) pan)))
  (ao (jF K (cv 0) (cv 6))))))))))))),?_⟩
 show bg _ _ _ [oR p,oR b,oR kd,oR rd,oR td,oR ed,oT st] H;refine gk (λb H'=>b=false/\aj H H') (λQ q=>lw (ae (aa rfl) aw) ⟨.ref kd,rfl,tk,λH' s=>?_⟩) (λH' h=>by cases h.1) (λH1 h=>?_)
 .rw[bk];exact q _ _ ⟨rfl,s⟩
 obtain⟨_,s1⟩:=h;have eqR:fK H1 (.ref rd) ws=fK H (.ref rd) ws:=sT tr s1;refine gk (λb H'=>b=false/\aj H1 H') (λQ q=>lw (ae (aa rfl) (ae (aa rfl) aw)) ⟨.ref rd,kd,ws,rfl,tr.same s1,wk _ s1,λH' s=>?_⟩) (λH' h=>by cases h.1) (λH2 h=>?_)
 .rw[eqR,br];exact q _ _ ⟨rfl,s⟩
 obtain⟨_,s2⟩:=h;have s02:=s1.trans s2;have eqT:gc H2 (.ref td) ws=gc H (.ref td) ws:=si tt s02;refine gk (λb H'=>b=false/\aj H2 H') (λQ q=>lw (ae (aa rfl) (ae (aa rfl) aw)) ⟨.ref td,kd,ws,rfl,tt.same s02,wk _ s02,λH' s=>?_⟩) (λH' h=>by cases h.1) (λH3 h=>?_)
 .rw[eqT,bt];exact q _ _ ⟨rfl,s⟩
 obtain⟨_,s3⟩:=h;have s03:=s02.trans s3;have eqE:pairsB H3 (.ref ed) iD ws=pairsB H (.ref ed) iD ws:=lK te s03;refine gk (λb H'=>b=false/\aj H3 H') (λQ q=>lw (ae (aa rfl) (ae (aa rfl) aw)) ⟨.ref ed,kd,ws,rfl,te.same s03,wk _ s03,λH' s=>?_⟩) (λH' h=>by cases h.1) (λH4 h=>?_)
 .rw[eqE,be];exact q _ _ ⟨rfl,s⟩
 obtain⟨_,s4⟩:=h;have s04:=s03.trans s4;refine aT (ck (aX (aL (ae (aa rfl) (ae aq aw)) (λQ q=>⟨.str st,aW,iN,rfl,lst',hW H4,q⟩)))) (λh=>?_) (λ_=>?_)
 .have e:wordB (.str st) iN=true:=Pz hst;rw[e]at h;cases h
 have gl:=λb k r t e=>JM (b:=b) (k:=k) (r:=r) (t:=t) (e:=e);have nk:p≠kd:=hV hp hk (by intro z;cases z);have nr:p≠rd:=hV hp hr' (by intro z;cases z);have nt:p≠td:=hV hp ht (by intro z;cases z);have ne':p≠ed:=hV hp he (by intro z;cases z);have h4:∀(G:Hp),SameBut p H G->G kd=some (.lst (ws.map V.str))/\G rd=some (.lst rs)/\G td=some (.lst ts)/\G ed=some (.lst es):=λG sb=>⟨sb _ _ hk nk.symm,sb _ _ hr' nr.symm,sb _ _ ht nt.symm,sb _ _ he ne'.symm⟩;refine uX (aa rfl) (aa rfl) (s04 _ _ hp) B.cl B.board (by decide) ?_;generalize hG5:upd H4 p (HO.ins cG dx (putF "board" (V.ref b) []))=G5;have p5:G5 p=some (.ins cG dx (gf1 b)):=hG5▸ah;have b5:SameBut p H G5:=hG5▸s04.but.self;have nfree:∀(G:Hp)(q:XB),SameBut p H G->G p≠none->G q=none->H q=none:=λG q sb hpp hq=>by
  cases e:H q with
  |none=>rfl
  |some o=>
   by_cases z:q=p
   .rw[z]at hq;exact PK hq hpp
   .have:=sb q o e z;rw[hq]at this;cases this
 refine md (aa rfl) (h4 _ b5).1 (λH'=>aa rfl) p5 B.cl B.kinds (by have:=(gl b 0 0 0 0).1;lia) (λkq hkq=>?_);have nkq:p≠kq:=ay p5 hkq;generalize hG6:upd (upd G5 kq (HO.lst (ws.map V.str))) p (HO.ins cG dx (putF "kinds" (V.ref kq) (gf1 b)))=G6;have p6:G6 p=some (.ins cG dx (gf2 b kq)):=hG6▸ah;have k6:G6 kq=some (.lst (ws.map V.str)):=by rw[<-hG6,au nkq.symm,ah]
 have b6:SameBut p H G6:=hG6▸(b5.new (nfree _ _ b5 (by rw[p5];simp) hkq)).self;refine md (aa rfl) (h4 _ b6).2.1 (λH'=>aa rfl) p6 B.cl B.rules (by have:=(gl b kq 0 0 0).2.1;lia) (λrq hrq=>?_);have nrq:p≠rq:=ay p6 hrq;generalize hG7:upd (upd G6 rq (HO.lst rs)) p (HO.ins cG dx (putF "rules" (V.ref rq) (gf2 b kq)))=G7;have p7:G7 p=some (.ins cG dx (gf3 b kq rq)):=hG7▸ah;have r7:G7 rq=some (.lst rs):=by rw[<-hG7,au nrq.symm,ah]
 have k7:G7 kq=some (.lst (ws.map V.str)):=by rw[<-hG7,au nkq.symm,au (ay k6 hrq)];exact k6
 have b7:SameBut p H G7:=hG7▸(b6.new (nfree _ _ b6 (by rw[p6];simp) hrq)).self;refine md (aa rfl) (h4 _ b7).2.2.1 (λH'=>aa rfl) p7 B.cl B.turns (by have:=(gl b kq rq 0 0).2.2.1;lia) (λtq htq=>?_);have ntq:p≠tq:=ay p7 htq;generalize hG8:upd (upd G7 tq (HO.lst ts)) p (HO.ins cG dx (putF "turns" (V.ref tq) (gf3 b kq rq)))=G8;have p8:G8 p=some (.ins cG dx (gf4 b kq rq tq)):=hG8▸ah;have t8:G8 tq=some (.lst ts):=by rw[<-hG8,au ntq.symm,ah]
 have r8:G8 rq=some (.lst rs):=by rw[<-hG8,au nrq.symm,au (ay r7 htq)];exact r7
 have k8:G8 kq=some (.lst (ws.map V.str)):=by rw[<-hG8,au nkq.symm,au (ay k7 htq)];exact k7
 have b8:SameBut p H G8:=hG8▸(b7.new (nfree _ _ b7 (by rw[p7];simp) htq)).self;refine md (aa rfl) (h4 _ b8).2.2.2 (λH'=>aa rfl) p8 B.cl B.ends (by have:=(gl b kq rq tq 0).2.2.2.1;lia) (λeq heq=>?_);have neq:p≠eq:=ay p8 heq;generalize hG9:upd (upd G8 eq (HO.lst es)) p (HO.ins cG dx (putF "ends" (V.ref eq) (gf4 b kq rq tq)))=G9;have p9:G9 p=some (.ins cG dx (HL b kq rq tq eq)):=hG9▸ah;have e9:G9 eq=some (.lst es):=by rw[<-hG9,au neq.symm,ah]
 have t9:G9 tq=some (.lst ts):=by rw[<-hG9,au ntq.symm,au (ay t8 heq)];exact t8
 have r9:G9 rq=some (.lst rs):=by rw[<-hG9,au nrq.symm,au (ay r8 heq)];exact r8
 have k9:G9 kq=some (.lst (ws.map V.str)):=by rw[<-hG9,au nkq.symm,au (ay k8 heq)];exact k8
 have b9:SameBut p H G9:=hG9▸(b8.new (nfree _ _ b8 (by rw[p8];simp) heq)).self;refine wC (λv H'=>v=.str st/\H'=G9) (λQ q=>vW (v:=.str st) (aa rfl) (q _ _ ⟨rfl,rfl⟩)) p cG dx (λH' Q q=>aa rfl Q q) B.cl B.stuck ?_;rintro _ _ ⟨rfl,rfl⟩;refine⟨_,p9,by have:=(gl b kq rq tq eq).2.2.2.2;lia,?_⟩;refine q _ ⟨dx,kq,rq,tq,eq,ah,?_,?_,?_,?_⟩ b9.self
 .rw[au nkq.symm];exact k9
 .rw[au nrq.symm];exact r9
 .rw[au ntq.symm];exact t9
 .rw[au neq.symm];exact e9
end
section
theorem qW(F:cZ K "are_holes" "are_holes" dW f fd)(T:Txt mg aS aA aE aW)(C:CA P w K mg Px):bh P w K mg Px dm 3 f fd ["thing","many"] sM:=by
 refine F.ok1 qm λcdv A Py s H vs Q E hr h=>?_;obtain⟨d,m,hs,rfl,hd,good,nd,hl,m64,k⟩:=h;have hu:=bZ hr;have hS:aO K H d (hs.map V.int):=aO.of hd;refine⟨_,(af (aY (PW.pt (fP (bO (bM (A9 .list T.isinstance T.list jr (cv 0)))) (eP (aN K hu (kB (ib K) cb T.len (az (cv 0) pan)) (cv 1))))) (ao (aC gw)) aG)
  (af (aY (bO (bM (kB (Dg K) rP T.all (az (fQ (cc (N:=["hole","many"]) (src:=[none,some 1]) (am dW) ["thing","many"]) (rS K (cv 0)) (λ_ _ _=>(bo (i:=0) ["hole","many"])) (λ_ _ _=>bP) (λ_ _ _=>(aH C.is_among hr (az (cv 0) (az ag (az (ak (cv 1) ag) pan)))))) pan)))) (ao (aC gw)) aG)
  (ao (aC (ls K hu (kB we cb T.len (az (Cg (O0 K hr) rM T.set (az (cv 0) pan)) pan)) (kB (ib K) cb T.len (az (cv 0) pan))))))),?_⟩
 show bg _ _ _ [oR d,oJ m] H;refine aT (iy (ck (aX (JS (aa rfl) hd))) (λ_=>(aX (NG (dt (aa rfl) (.inl hS)) (aa rfl))))) (λh=>?_) (λ_=>?_)
 .have h:decide (m<=((hs.map V.int).length:Int))=true:=h;have h:=PH h;rw[T7]at h;lia
 refine gk (λb H'=>b=false/\aj H H') (λQ q=>?_) (λH' h=>by cases h.1) (λH1 h=>?_)
 .refine gJ (d:=d) (xs:=hs.map V.int) (rest:=[oJ m]) (aa rfl) hS (by rw[T7,P4];lia) rfl (λ_=>true) (λ_=>.bl true) (λx hx=>dH) (λx hx _=>?_) (λd' hd'=>?_)
  .obtain⟨z,hz,rfl⟩:=T9.mp hx;have g:=good z hz;refine aL (ae (aa rfl) (ae aq (ae (iZ (aa rfl) aq) aw))) (λQ q=>⟨z,0,m - 1,rfl,?_⟩);rw[Pz (by lia:0<=z/\z<=m - 1)];exact q
  .refine⟨List.replicate hs.length true,?_,?_⟩
   .have e:((hs.map V.int).filter λ_=>true).map (λ_=>V.bl true)=(List.replicate hs.length true).map V.bl:=by rw[UE.mpr (λ_ _=>rfl),Uf,List.map_replicate];show hs.map (λ_=>V.bl true)=_;rw[List.map_const']
    rw[<-e];exact aO.of ah
   .have e:(List.replicate hs.length true).all id=true:=by simp
    rw[e];exact q _ _ ⟨rfl,(aj.refl H).upd hd'⟩
 obtain⟨_,s1⟩:=h;have hS1:=s1.seq hS;simp only[cL,dE,cB,ba,cE];refine vW (aa rfl) ?_;refine⟨hs,hS1,by have:scanBound=4096:=rfl;lia,λq hq=>?_⟩;refine⟨_,_,ah,?_⟩;have s2:aj H1 (upd H1 q (.set (λk=>(uniq hs).any (· == k)) (uniq hs).length)):=(aj.refl H1).upd hq;refine vW (v:=.ref d) (aa rfl) ⟨_,.inl (s2.seq hS1),?_⟩;rw[T7,(zI hs).mpr nd];show Q (.bl (decide ((hs.length:Int)=hs.length))) _;rw[Pz rfl];exact k _ (s1.trans ((aj.refl H1).upd hq))
theorem ou{f cB:XB}{fd:Qf}(F:cZ K "__init__" "Board.__init__" bV f fd)(T:Txt mg aS aA aE aW)(B:kT K cB)(C:CB2 P w K mg Px):bh P w K mg Px dm 4 f fd ["self","wide","high","holes"] (qa K cB):=by
 refine F.ok1 j6 λcdv A Py s H vs Q E hr h=>?_;obtain⟨p,d,dx,wi,hi,hs,rfl,hp,hd,w1,w8,h1,h8,good,nd,hl,k⟩:=h;have hu:=bZ hr;have m1:wi*hi<=8*8:=Wf w8 h8 (by lia) (by lia);have m0:0<=wi*hi:=Wn (by lia) (by lia);have npd:p≠d:=hV hp hd (by intro z;cases z);refine⟨_,(af (aY (PW.pt (fP (bO (bM (aH C.is_among hr (az (cv 1) (az ag (az (kg T.LONGEST) pan)))))) (eP (bO (bM (aH C.is_among hr (az (cv 2) (az ag (az (kg T.LONGEST) pan))))))))) (ao gv) aG)
  (af (aY (bO (bM (aH C.are_holes hr (az (cv 3) (az (ak (cv 1) (cv 2)) pan))))) (ao gv) aG)
  (af (jF K (cv 0) (cv 1))
  (af (jF K (cv 0) (cv 2))
  (af (jF K (cv 0) (kB (Ni K) lA T.sorted (az (cv 3) pan)))
  (ao (jF K (cv 0) (fQ (cc (N:=["square","self"]) (src:=[none,some 0]) (am bV) ["self","wide","high","holes"]) (Cf T.range (az (ak (cv 1) (cv 2)) pan)) (λ_ _ _=>(bo (i:=0) ["square","self"])) (λ_ _ _=>bP) (λ_ _ _=>(ls K hu (cv 0) (cJ K (cv 1)))))))))))),?_⟩
 show bg _ _ _ [oR p,oJ wi,oJ hi,oR d] H;refine aT (iy (ck (aX (aL (ae (aa rfl) (ae aq (ae aq aw))) (λQ q=>⟨wi,1,8,rfl,q⟩)))) (λ_=>(ck (aX (aL (ae (aa rfl) (ae aq (ae aq aw))) (λQ q=>⟨hi,1,8,rfl,q⟩)))))) (λh=>?_) (λ_=>?_)
 .rw[Pz (⟨w1,w8⟩:1<=wi/\wi<=8),Pz (⟨h1,h8⟩:1<=hi/\hi<=8)]at h;cases h
 refine gk (λb H'=>b=false/\aj H H') (λQ q=>?_) (λH' h=>by cases h.1) (λH1 h=>?_)
 .exact lw (ae (aa rfl) (ae (eZ (aa rfl) (aa rfl) (.inl ⟨by lia,by lia⟩)) aw)) ⟨d,wi*hi,hs,rfl,hd,good,nd,hl,by lia,λH' s=>q _ _ ⟨rfl,s⟩⟩
 obtain⟨_,s1⟩:=h;refine uX (aa rfl) (aa rfl) (s1 _ _ hp) B.cl B.wide (by decide) ?_;have a1:=bU "wide" (V.int wi) [];have a2:=bU "high" (V.int hi) (putF "wide" (V.int wi) []);simp only[List.length_nil]at a1;refine uX (aa rfl) (aa rfl) ah B.cl B.high (by lia) ?_;generalize hH3:upd (upd H1 p (HO.ins cB dx (putF "wide" (V.int wi) []))) p (HO.ins cB dx (putF "high" (V.int hi) (putF "wide" (V.int wi) [])))=H3;have p3:H3 p=some (.ins cB dx (putF "high" (V.int hi) (putF "wide" (V.int wi) []))):=hH3▸ah;have s3:SameBut p H H3:=hH3▸(s1.but.self.self);have d3:H3 d=some (.lst (hs.map V.int)):=s3 _ _ hd npd.symm;refine Cu (λv H'=>∃(hs':List Int)(q:XB),v=.ref q/\hs'.Perm hs/\hs'.Pairwise (·<=·)/\H3 q=none/\H'=upd H3 q (.lst (hs'.map V.int))) (λQ q=>?_) p cB dx (λH' Q q=>aa rfl Q q) B.cl B.holes ?_
 .exact Pk (aa rfl) ⟨hs,aO.of d3,by lia,λhs' q' h1 h2 h3=>q _ _ ⟨hs',q',rfl,h1,h2,h3,rfl⟩⟩
 rintro _ _ ⟨hs',q,rfl,pm,sr,hq,rfl⟩;have npq:p≠q:=ay p3 hq;have a3:=bU "holes" (V.ref q) (putF "high" (V.int hi) (putF "wide" (V.int wi) []));refine⟨_,(by rw[au npq];exact p3),(by lia),?_⟩;generalize hH4:upd (upd H3 q (HO.lst (hs'.map V.int))) p (HO.ins cB dx (putF "holes" (V.ref q) (putF "high" (V.int hi) (putF "wide" (V.int wi) []))))=H4;have p4:H4 p=some (.ins cB dx (putF "holes" (V.ref q) (putF "high" (V.int hi) (putF "wide" (V.int wi) [])))):=hH4▸ah;have q4:H4 q=some (.lst (hs'.map V.int)):=by rw[<-hH4,au npq.symm,ah]
 have hqH:H q=none:=by
  cases e:H q with
  |none=>rfl
  |some o=>
   have:=s3 q o e npq.symm;rw[hq]at this;cases this
 have s4:SameBut p H H4:=hH4▸((s3.new hqH).self);have f4:Fl K H4 p "holes" (.ref q):=⟨cB,dx,_,p4,B.cl,B.holes,by rw[aB,PF rfl]⟩;refine wC (λv H'=>∃(pf:XB),v=.ref pf/\H4 pf=none/\H'=upd H4 pf (.lst ((firmL wi hi hs').map V.bl))) (λQ k'=>?_) p cB dx (λH' Q q=>aa rfl Q q) B.cl B.firm ?_
 .refine kF (n:=wi*hi) (rest:=[oR p]) (ae (eZ (aa rfl) (aa rfl) (.inl ⟨by lia,by lia⟩)) aw) m0 (by rw[P4];lia) (by lia) rfl (λ_=>true) (λx=>match x with| .int i=>.bl (!decide (i∈hs'))|_=>.non) (λi hi=>dH) (λi hi _=>?_) (λd' hd'=>?_)
  .exact(vX (aa rfl) (bq (aa rfl) (f4)) (.inl (aO.of q4)))
  .refine k' _ _ ⟨d',rfl,hd',?_⟩;have e:(((List.range (wi*hi).toNat).map λ(i:Nat)=>V.int (0+(i:Int))).filter λ_=>true).map (λx=>match x with| .int i=>V.bl (!decide (i∈hs'))|_=>.non)=(firmL wi hi hs').map V.bl:=by rw[UE.mpr (λ_ _=>rfl),Uf];unfold firmL;rw[Uf];refine UG λi _=>?_;show V.bl (!decide (0+(i:Int)∈hs'))=V.bl (!decide ((i:Int)∈hs'));rw[We]
   rw[e]
 rintro _ _ ⟨pf,rfl,hpf,rfl⟩;have npf:p≠pf:=ay p4 hpf;have nqf:q≠pf:=ay q4 hpf;have hfH:H pf=none:=by
  cases e:H pf with
  |none=>rfl
  |some o=>
   have:=s4 pf o e npf.symm;rw[hpf]at this;cases this
 refine⟨_,(by rw[au npf];exact p4),(by lia),?_⟩;refine k hs' _ pm ⟨⟨dx,q,pf,ah,by rw[au npq.symm,au nqf];exact q4,by rw[au npf.symm,ah]⟩,w1,w8,h1,h8,λh hh=>good h (pm.mem_iff.mp hh),sr,pm.nodup_iff.mpr nd⟩ ((s4.new hfH).self)
theorem qS(F:cZ K "column_of" "column_of" fE f fd):bh P w K mg Px dm 1 f fd ["wide","square"] wR:=by refine F.ok1 qi λcdv A Py s H vs Q E hr h=>?_;obtain⟨a,b,rfl,a0,q⟩:=h;refine⟨_,(ao (aC (ak (cv 1) (cv 0)))),?_⟩;show cL _ _ [oJ a,oJ b] H;exact aK (aU (aa rfl) (aa rfl) (a0)) q
theorem yR(F:cZ K "row_of" "row_of" iR f fd):bh P w K mg Px dm 1 f fd ["wide","square"] wJ:=by refine F.ok1 yo λcdv A Py s H vs Q E hr h=>?_;obtain⟨a,b,rfl,a0,a1,q⟩:=h;refine⟨_,(ao (aC (ak (cv 1) (cv 0)))),?_⟩;show cL _ _ [oJ a,oJ b] H;exact aK (bF (aa rfl) (aa rfl) (⟨a0,by lia⟩)) q
theorem qP(F:cZ K "square_at" "square_at" fA f fd):bh P w K mg Px dm 1 f fd ["wide","column","row"] zU:=by refine F.ok1 qf λcdv A Py s H vs Q E hr h=>?_;obtain⟨a,b,c,rfl,a0,a1,q⟩:=h;refine⟨_,(ao (aC (ak (ak (cv 2) (cv 0)) (cv 1)))),?_⟩;show cL _ _ [oJ a,oJ b,oJ c] H;exact aK (bG (eZ (aa rfl) (aa rfl) (.inr ⟨by lia,by lia⟩)) (aa rfl)) q
theorem na{f cB:XB}{fd:Qf}(F:cZ K "moved" "Board.moved" dA f fd)(B:kT K cB)(C:CB P w K mg Px):bh P w K mg Px dm 2 f fd ["self","square","across","up"] (wL K cB):=by
 refine F.ok1 eG λcdv A Py s H vs Q E hr h=>?_;obtain⟨p,wi,hi,hs,sq,ax,up,rfl,O,k⟩:=h;have hu:=bZ hr;have w1:=O.w1;have w8:=O.w8;have fw:=O.wide B;have fh:=O.high B;obtain⟨pf,ff,hf⟩:=O.firm B;refine⟨_,(af (av 4 eG.nd (ak (aH C.column_of hr (az (cJ K (cv 0)) (az (cv 1) pan))) (cv 2)))
  (af (av 5 eG.nd (ak (aH C.row_of hr (az (cJ K (cv 0)) (az (cv 1) pan))) (cv 3)))
  (af (aY (PW.pt (fP (bO (mn K hu ag (cv 4) (cJ K (cv 0)))) (eP (bO (mn K hu ag (cv 5) (cJ K (cv 0))))))) (ao (aC dq)) aG)
  (af (av 6 eG.nd (aH C.square_at hr (az (cJ K (cv 0)) (az (cv 4) (az (cv 5) pan)))))
  (ao (aC (eQ (bM (cj K (cJ K (cv 0)) (cv 6))) (cv 6) dq))))))),?_⟩
 show bg _ _ _ [oR p,oJ sq,oJ ax,oJ up,none,none,none] H;refine a8 (bG (aL (ae (bq (aa rfl) (fw)) (ae (aa rfl) aw)) (λQ q=>⟨wi,sq,rfl,by lia,q⟩)) (aa rfl)) ?_;refine a8 (bG (aL (ae (bq (aa rfl) (fw)) (ae (aa rfl) aw)) (λQ q=>⟨wi,sq,rfl,by lia,by lia,q⟩)) (aa rfl)) ?_;unfold Kl at k;generalize hc:sq % wi+ax=c at k;generalize hr':sq / wi+up=r at k;refine aT (iy (ck (l9 aq (aa rfl) (λ_=>(bq (aa rfl) (fw))))) (λ_=>(ck (l9 aq (aa rfl) (λ_=>(bq (aa rfl) (fh))))))) (λh=>?_) (λh=>?_)
 .show cL _ _ _ _;refine aK aq ?_;rw[PD (λz=>by rw[Pz (⟨z.1,z.2.1⟩:0<=c/\c<wi),Pz (⟨z.2.2.1,z.2.2.2⟩:0<=r/\r<hi)]at h;cases h)]at k;exact k
 .have h2:(0<=c/\c<wi)/\(0<=r/\r<hi):=by
   by_cases a:0<=c/\c<wi
   .by_cases b:0<=r/\r<hi
    .exact⟨a,b⟩
    .rw[Pz a,PB b]at h;cases h
   .rw[PB a]at h;cases h
  rw[PF ⟨h2.1.1,h2.1.2,h2.2.1,h2.2.2⟩]at k;refine a8 (aL (ae (bq (aa rfl) (fw)) (ae (aa rfl) (ae (aa rfl) aw))) (λQ q=>⟨wi,c,r,rfl,by lia,by lia,q⟩)) ?_;have g0:0<=r*wi+c:=by have:=Wn h2.2.1 (by lia:0<=wi);lia
  have g1:r*wi+c<wi*hi:=by
   have:r*wi<=(hi - 1)*wi:=Wp (by lia) (by lia);have e:(hi - 1)*wi=wi*hi - wi:=by rw[Int.sub_mul,Wj,Wh]
   lia
  show cL _ _ _ _;refine aK (v:=if(!decide (r*wi+c∈hs))=true then .int (r*wi+c)else .non) (BE (aX (bf (bq (aa rfl) (ff)) (aa rfl) (.inl (aO.of hf)) (Dt g0 g1))) (λ_=>(aa rfl)) (λ_=>aq)) ?_
  by_cases m:r*wi+c∈hs
  .rw[Pz m];rw[PF m]at k;exact k
  .rw[PB m];rw[PD m]at k;exact k
theorem Jk{f cB:XB}{fd:Qf}(F:cZ K "ray" "ray" sS f fd)(B:kT K cB)(C:CB3 P w K mg Px cB):bh P w K mg Px dm 3 f fd ["board","square","across","up"] (Ho K cB):=by
 refine F.ok1 qg λcdv A Py s H vs Q E hr h=>?_;obtain⟨p,wi,hi,hs,sq,ax,up,rfl,O,s0,s1,n0,k⟩:=h;have hu:=bZ hr;have w1:=O.w1;have w8:=O.w8;have m0:=Wb sq (by lia:wi≠0);have m1:=Wc sq (by lia:0<wi);refine⟨_,(af (aY (PW.pt (gO (aN K hu (cv 2) ag) (fW (aN K hu (cv 3) ag)))) (ao (aC (bp pan))) aG)
  (af (av 4 qg.nd (bp pan))
  (af (av 5 qg.nd (A8 C.Board_moved hr (cv 0) (az (cv 1) (az (cv 2) (az (cv 3) pan)))))
  (af (mZ Qj (aN K hu (cv 5) dq) (af (dJ (gS (cv 4) (cv 5)))
  (ao (av 5 qg.nd (A8 C.Board_moved hr (cv 0) (az (cv 5) (az (cv 2) (az (cv 3) pan))))))))
  (ao (aC (cv 4))))))),?_⟩
 show bg _ _ _ [oR p,oJ sq,oJ ax,oJ up,none,none] H;refine aT (ii (aX (dY (aa rfl) aq)) (λ_=>(aX (dY (aa rfl) aq)))) (λh=>?_) (λ_=>?_)
 .rw[Ws]at h;exact PK ⟨PH h.1,PH h.2⟩ n0
 refine gM λq hq=>?_;have sm:aj H (upd H q (.lst [])):=(aj.refl H).upd hq;have O1:=O.same sm;refine a8 (v:=oI (if oY wi hi hs sq ax up 1 then some (mF wi sq ax up 1)else none)) (xB (p:=p) (aa rfl) O1.no (ae (aa rfl) (ae (aa rfl) (ae (aa rfl) aw))) (λQ q=>⟨p,wi,hi,hs,sq,ax,up,rfl,O1,?_⟩)) ?_
 .have e:=mj (hi:=hi) (hs:=hs) (s:=sq) (ax:=ax) (up:=up) (k:=0) w1 (by simp;exact m0) (by simp;exact m1);rw[sA w1]at e;rw[e];exact q
 refine⟨λm σ' H'=>∃i:Nat,m=8 - i/\i<=8/\(∀j<i,oY wi hi hs sq ax up (j+1))/\σ'=[oR p,oJ sq,oJ ax,oJ up,oR q,some (oI (if oY wi hi hs sq ax up (i+1)then some (mF wi sq ax up (i+1))else none))]/\H' q=some (.lst ((rayL wi sq ax up i).map V.int))/\aj H H',
  ⟨8,0,rfl,by lia,λj hj=>by lia,rfl,ah,sm⟩,?_⟩
 rintro m _ H1 ⟨i,rfl,hi8,hok,rfl,hl,hs1⟩
 by_cases hk:oY wi hi hs sq ax up (i+1)
 .rw[PF hk];have hlt:=vG w8 O.h8 w1 s0 s1 n0 hk;refine(aX (ir (aa rfl) aq)) _ (iG ⟨_,λ_ _ h=>h,?_⟩);refine Ir (aa rfl) (aa rfl) hl (by rw[T7,hU,P4];lia) ?_;have s2:aj H (upd H1 q (.lst ((rayL wi sq ax up i).map V.int++[.int (mF wi sq ax up (i+1))]))):=hs1.put hq;have O2:=O.same s2;refine jW (v:=oI (if oY wi hi hs sq ax up (i+1+1)then some (mF wi sq ax up (i+1+1))else none)) (xB (p:=p) (aa rfl) O2.no (ae (aa rfl) (ae (aa rfl) (ae (aa rfl) aw))) (λQ q=>⟨p,wi,hi,hs,mF wi sq ax up (i+1),ax,up,rfl,O2,?_⟩)) ?_
  .rw[mj w1 hk.1 hk.2.1];exact q
  .refine⟨8 - (i+1),by lia,i+1,rfl,by lia,λj hj=>?_,rfl,?_,s2⟩
   .by_cases e:j=i
    .subst e;exact hk
    .exact hok j (by lia)
   .rw[ah,yv,Uq];rfl
 .rw[PD hk];refine(aX (gD (aa rfl) aq)) _ (gF ?_);dsimp only;exact aK (aa rfl) (k i q H1 ⟨hok,hk⟩ hi8 hq hl hs1)
theorem vz(F:cZ K "kind_of" "kind_of" gZ f fd)(T:Txt mg aS aA aE aW):bh P w K mg Px dm 1 f fd ["sign"] zY:=by
 refine F.ok1 vg λcdv A Py s H vs Q E hr h=>?_;obtain⟨c,rfl,hc,q⟩:=h;have hu:=bZ hr;refine⟨_,(ao (aC (eQ (aN K hu (cv 0) (dn (az (kg T.EMPTY) (az (kg T.HOLE) pan)))) dq (nN PySem.F.slot_str_lower PySem.F.type_str_lower AZ (cv 0))))),?_⟩;show cL _ _ [oT (one c)] H;simp only[cL,Ip];refine HJ (aa rfl) BF xD (λH' s=>?_);have k:=q H' s;unfold lN at k
 by_cases h:c=46\/c=35
 .rw[Pz h];rw[PF h]at k;exact iG (vW aq k)
 .rw[PB h];rw[PD h]at k;exact gF (vW (HQ (aa rfl) hc) k)
theorem vx(F:cZ K "side_of" "side_of" gX f fd)(T:Txt mg aS aA aE aW):bh P w K mg Px dm 1 f fd ["sign"] mH:=by
 refine F.ok1 vf λcdv A Py s H vs Q E hr h=>?_;obtain⟨c,rfl,hc,q⟩:=h;have hu:=bZ hr;refine⟨_,(af (aY (aN K hu (cv 0) (dn (az (kg T.EMPTY) (az (kg T.HOLE) pan)))) (ao (aC dq)) aG)
  (ao (aC (eQ (bM (nN PySem.F.slot_str_isupper PySem.F.type_str_isupper Jn (cv 0))) ag ag)))),?_⟩
 show bg _ _ _ [oT (one c)] H;unfold bX at q;refine gk (λb H'=>b=decide (c=46\/c=35)/\aj H H') (λQ q=>HJ (aa rfl) BF xD (λH' s=>q _ _ ⟨rfl,s⟩)) (λH1 h=>?_) (λH1 h=>?_)
 .have k:=q H1 h.2;rw[PF (PH h.1.symm)]at k;exact aK aq k
 .have k:=q H1 h.2;rw[PD (PJ h.1.symm)]at k;refine aK (BE (aX (NF (aa rfl) hc)) (λ_=>aq) (λ_=>aq)) ?_
  by_cases g:65<=c/\c<=90
  .rw[Pz g];rw[PF g]at k;exact k
  .rw[PB g];rw[PD g]at k;exact k
end
section
theorem C5(F:cZ K "slid" "slid" mS f fd)(T:Txt mg aS aA aE aW)(C:CRs P w K mg Px):bh P w K mg Px dm 2 f fd ["row","side","aim","path"] (zV K):=by
 refine F.ok1 mh λcdv A Py s H vs Q E hr h=>?_;obtain⟨row,aim,sd,p,path,rfl,hp,R,hg,h8,k⟩:=h;have hu:=bZ hr;have rl:=R.len;refine⟨_,(af (av 4 mh.nd (bp pan))
  (af (fL Qj rfl (rS K (cv 3)) (bA 5 mh.nd) (af (av 6 mh.nd (aH C.side_of hr (az (cj K (cv 0) (cv 5)) pan)))
  (af (aY (aN K hu (cv 6) dq) (af (aY (PW.pt (gO (aN K hu (cv 6) (cv 1)) (fW (aN K hu (cv 2) aP)))) (ao (dJ (gS (cv 4) (dn (az (cv 5) (az (cv 5) pan)))))) aG)
  (ao AB)) aG)
  (ao (aY (aN K hu (cv 2) aP) (ao (dJ (gS (cv 4) (dn (az (cv 5) (az (kg T.NOTHING) pan)))))) aG)))))
  (ao (aC (cv 4))))),?_⟩
 show bg _ _ _ [oT row,oJ sd,oT aim,oR p,none,none,none] H;refine gM λq hq=>?_;have sm:aj H (upd H q (.lst [])):=(aj.refl H).upd hq;refine cO (λσ' H'=>(∃o5 o6,σ'=[oT row,oJ sd,oT aim,oR p,oR q,o5,o6])/\bB H H' q (dk row sd aim path)/\aj H H') (λK' hK=>?_) ?_
 .refine iX (λv H'=>v=.ref p/\H'=upd H q (.lst [])) (λQ z=>aa rfl _ (z _ _ ⟨rfl,rfl⟩)) ?_;rintro _ _ ⟨rfl,rfl⟩;refine⟨p,path.map V.int,rfl,sm.seq hp,λi σ' H'=>∃(l:List (Int×Int)),(∃o5 o6,σ'=[oT row,oJ sd,oT aim,oR p,oR q,o5,o6])/\bB H H' q l/\l.length<=i/\l++dk row sd aim (path.drop i)=dk row sd aim path/\aj H H',⟨[],⟨_,_,rfl⟩,bB.nil,VQ _,rfl,sm⟩,?_,?_,?_⟩
  .rintro i σ' H' _ ⟨_,_,_,_,_,s1⟩;exact s1.seq hp
  .rintro i x _ H1 hx ⟨l,⟨o5,o6,rfl⟩,⟨ps,p1,p2,p3⟩,ll,el,s1⟩;have hi:i<path.length:=by
    have:=(Um.mp hx).1
    rwa[T7]at this
   obtain rfl:x=.int path[i]:=by rw[Ub,Ua hi]at hx;exact(PL hx).symm
   have hd:path.drop i=path[i]::path.drop (i+1):=U0 hi;obtain⟨g0,g1⟩:=hg _ (Uv hi);generalize path[i]=g at hd g0 g1;obtain⟨at1,at2⟩:=R.at g0 g1;rw[hd,im]at el;show bg _ _ _ [oT row,oJ sd,oT aim,oR p,oR q,oJ g,o6] H1;refine bC (λv H'=>v=sdV row g/\aj H1 H') (λQ z=>(ae (cC (aa rfl) (aa rfl) (by rw[P4];lia) at1) aw) _ ⟨_,rfl,at2,λH2 s2=>z _ _ ⟨rfl,s2⟩⟩) ?_;rintro _ H2 ⟨rfl,s2⟩;have p2':=s2 _ _ p2;have p3':∀p∈ps,H p.2=none/\H2 p.2=some (.tup (p.1.map V.int)):=λp h=>⟨(p3 p h).1,s2 _ _ (p3 p h).2⟩;have s3:=s1.trans s2;have lz:(ps.map λz=>V.ref z.2).length=l.length:=by have:=PM List.length p1;rw[T7,T7]at this;rw[T7,this]
   by_cases hn:sdV row g=.non
   .rw[PF hn]at el;refine aT (b:=false) ?_ (λz=>nomatch z) λ_=>?_
    .rw[hn];exact aX (gD (aa rfl) aq)
    .refine jV (aX (jP (aa rfl) aq)) (λh=>?_) (λh=>?_)
     .have ha:¬aim="hit":=λz=>by rw[z]at h;simp at h
      rw[PD ha]at el;refine nT (aa rfl) ⟨_,p2'⟩ (iM (aa rfl) (aq (x:=.int (-1))) λt ht=>?_);have nt:q≠t:=λz=>by rw[<-z,p2']at ht;cases ht
      refine⟨_,by rw[au nt];exact p2',by rw[lz,P4];lia,l++[(g, -1)],⟨_,_,rfl⟩,bB.add p1 p2' p3' s3 ht,by rw[Uj];show l.length+1<=_;lia,by rw[UX];exact el,?_⟩;exact(s3.upd ht).put hq
     .have ha:aim="hit":=by simpa using h
      rw[PF ha]at el;exact⟨l,⟨_,_,rfl⟩,⟨ps,p1,p2',p3'⟩,by lia,el,s3⟩
   .rw[PD hn]at el;obtain⟨v,hv⟩:∃v,sdV row g=.int v:=by
     unfold sdV bX at hn ⊢;split
     .rename_i z;rw[PF z]at hn;exact PK rfl hn
     .exact⟨_,rfl⟩
    rw[hv]at el ⊢;refine aT (b:=true) (aX (ir (aa rfl) aq)) (λ_=>?_) (λz=>nomatch z);refine aT (ii (aX (xA (aa rfl) (aa rfl))) (λ_=>(aX (jP (aa rfl) aq)))) (λh=>?_) (λh=>?_)
    .rw[Ws]at h;have h1:¬v=sd:=λz=>by have:=h.1;rw[z]at this;simp at this
     have h2:¬aim="go":=λz=>by have:=h.2;rw[z]at this;simp at this
     rw[PF ⟨λz=>h1 (by injection z),h2⟩]at el;refine nT (aa rfl) ⟨_,p2'⟩ (iM (aa rfl) (aa rfl) λt ht=>?_);have nt:q≠t:=λz=>by rw[<-z,p2']at ht;cases ht
     refine⟨_,by rw[au nt];exact p2',by rw[lz,P4];lia,hK _ _ ⟨⟨_,_,rfl⟩,?_,(s3.upd ht).put hq⟩⟩;rw[<-el];exact bB.add p1 p2' p3' s3 ht
    .have h3:¬(¬v=sd/\¬aim="go"):=λz=>by simp[z.1,z.2]at h
     rw[PD (λz=>h3 ⟨λw=>z.1 (by rw[w]),z.2⟩),Uo]at el;refine hK _ _ ⟨⟨_,_,rfl⟩,?_,s3⟩;rw[<-el];exact⟨ps,p1,p2',p3'⟩
  .rintro σ' H' ⟨l,o,hP,_,el,s1⟩;rw[T7,List.drop_length]at el;refine hK _ _ ⟨o,?_,s1⟩;rw[<-el];simpa[dk]using hP
 .rintro _ H1 ⟨⟨o5,o6,rfl⟩,hP,s1⟩;exact aK (aa rfl) (k q H1 hq hP s1)
theorem yS(F:cZ K "jumped" "jumped" iS f fd)(T:Txt mg aS aA aE aW)(C:CRs P w K mg Px):bh P w K mg Px dm 2 f fd ["row","side","path"] (zZ K):=by
 refine F.ok1 yp λcdv A Py s H vs Q E hr h=>?_;obtain⟨row,sd,p,path,rfl,hp,R,hg,hsd,k⟩:=h;have hu:=bZ hr;have rl:=R.len;refine⟨_,(af (aY (PW.pt (fP (aN K hu (kB (ib K) cb T.len (az (cv 2) pan)) ag) (fP (aN K hu (aH C.side_of hr (az (cj K (cv 0) (cj K (cv 2) ag)) pan)) (ak ag (cv 1))) (eP (aN K hu (aH C.side_of hr (az (cj K (cv 0) (cj K (cv 2) ag)) pan)) dq))))) (ao (aC (bp pan))) aG)
  (ao (aC (bp (az (dn (az (cj K (cv 2) ag) (az (cj K (cv 2) ag) pan))) pan))))),?_⟩
 show bg _ _ _ [oT row,oJ sd,oR p] H;refine gk (λb H'=>aj H H'/\(b=true->jumpL row sd path=[])/\(b=false->∃g b' r,path=g::b'::r/\jumpL row sd path=[(b',g)])) (λQ z=>?_) (λH' ⟨s1,e,_⟩=>?_) (λH' ⟨s1,_,e⟩=>?_)
 .refine Ik (b:=decide (((path.map V.int).length:Int)<2)) (aX (ug (dt (aa rfl) (.inl hp)) aq)) (λh=>z _ _ ⟨aj.refl H,λ_=>?_,λw=>nomatch w⟩) (λh=>?_)
  .have:=PH h;rw[T7]at this
   match path,this with
   | [],_=>rfl
   | [_],_=>rfl
   |_::_::_,w=>simp at w;lia
  .have hl:=PJ h;rw[T7]at hl;obtain⟨g,b,r,rfl⟩:∃g b r,path=g::b::r:=by
    match path,hl with
    | [],w=>simp at w
    | [_],w=>simp at w
    |g::b::r,_=>exact⟨g,b,r,rfl⟩
   obtain⟨g0,g1⟩:=hg g (by simp);obtain⟨b0,b1⟩:=hg b (by simp);obtain⟨x1,x2⟩:=R.at g0 g1;obtain⟨y1,y2⟩:=R.at b0 b1;refine zK (BG (ae (cC (aa rfl) (bf (x:=.int g) (aa rfl) aq (.inl hp) (bI (j:=0) rfl)) (by rw[P4];lia) x1) aw) ⟨_,rfl,x2,λH2 s2=>vW (iZ aq (aa rfl)) ?_⟩);rw[Cz];show if(!decide (sdV row g=.int (1 - sd)))=true then _ else _
   by_cases h1:sdV row g=.int (1 - sd)
   .rw[Pz h1];refine gF (BG (ae (cC (aa rfl) (bf (x:=.int b) (aa rfl) aq (.inl (s2.seq hp)) (bI (j:=1) rfl)) (by rw[P4];lia) y1) aw) ⟨_,rfl,y2,λH3 s3=>vW aq ?_⟩);rw[vb];show Q (!decide (sdV row b=.non)) H3;refine z _ _ ⟨s2.trans s3,λh2=>?_,λh2=>⟨g,b,r,rfl,?_⟩⟩
    .show(if _ then _ else _)=_;rw[PD (λw=>by rw[Pz w.2]at h2;cases h2)]
    .show(if _ then _ else _)=_;rw[PF ⟨h1,by simpa using h2⟩]
   .rw[PB h1];refine iG (z _ _ ⟨s2,λ_=>?_,λw=>nomatch w⟩);show(if _ then _ else _)=_;rw[PD (λw=>h1 w.1)]
 .refine⟨VQ _,λq hq=>k q _ (s1.free hq) ?_ (s1.upd hq)⟩;rw[e rfl];exact⟨[],rfl,ah,λ_ z=>nomatch z⟩
 .obtain⟨g,b,r,rfl,e⟩:=e rfl;have hp2:=s1.seq hp;refine lM (iM (x:=.int b) (y:=.int g) (bf (aa rfl) aq (.inl hp2) (bI (j:=1) rfl)) (bf (aa rfl) aq (.inl hp2) (bI (j:=0) rfl)) λt ht=>⟨by show 1<=fv;decide,λq hq=>?_⟩);have hq1:H' q=none:=by
   by_cases w:q=t
   .rw[w];exact ht
   .rw[au w]at hq;exact hq
  have nt:t≠q:=λw=>by rw[w,ah]at hq;cases hq
  refine k q _ (s1.free hq1) ?_ ((s1.upd ht).upd hq);rw[e];refine⟨[([b,g],t)],rfl,ah,λp hp=>?_⟩;rw[Ud.mp hp];exact⟨s1.free ht,by rw[au nt,ah];rfl⟩
theorem vF{f cB:XB}{fd:Qf}(F:cZ K "by_rule" "by_rule" hJ f fd)(C:CRb P w K mg Px cB):bh P w K mg Px dm 4 f fd ["board","row","square","rule"] (sN K cB):=by
 refine F.ok1 jM λcdv A Py s H vs Q E hr h=>?_;obtain⟨b,r,row,sq,sd,wi,hi,hs,u,rfl,B,hT,R,rl,s0,s1,hsd,sd2,n0,k⟩:=h;have hu:=bZ hr;have r64:=R.len;obtain⟨x1,x2⟩:=R.at s0 (by lia);refine⟨_,(af (av 4 jM.nd (aH C.side_of hr (az (cj K (cv 1) (cv 2)) pan)))
  (af (av 5 jM.nd (aH C.ray hr (az (cv 0) (az (cv 2) (az (cj K (cv 3) ag) (az (eQ (aN K hu (cv 4) ag) (cj K (cv 3) ag) (jQ (cj K (cv 3) ag))) pan))))))
  (af (aY (aN K hu (cj K (cv 3) ag) aP) (ao (aC (aH C.jumped hr (az (cv 1) (az (cv 4) (az (cv 5) pan)))))) aG)
  (ao (aC (aH C.slid hr (az (cv 1) (az (cv 4) (az (cj K (cv 3) ag) (az (eQ (aN K hu (cj K (cv 3) ag) aP) (xm K (cv 5) dh (cD ag)) (cv 5)) pan)))))))))),?_⟩
 show bg _ _ _ [oR b,oT row,oJ sq,oR r,none,none] H;refine bC (λv H'=>v=sdV row sq/\aj H H') (λQ z=>(ae (cC (aa rfl) (aa rfl) (by rw[P4];lia) x1) aw) _ ⟨_,rfl,x2,λH2 s2=>z _ _ ⟨rfl,s2⟩⟩) ?_;rintro _ H1 ⟨rfl,q1⟩;rw[hsd];have T1:∀{H'},aj H H'->da K H' r u.vs:=λz=>aj.tupY z hT;have dy0:¬(u.ax=0/\u.dy sd=0):=λz=>n0 ⟨z.1,by have:=z.2;unfold bj.dy at this;split at this<;>lia⟩;refine bC (λv H'=>∃n q,v=.ref q/\ie wi hi hs sq u.ax (u.dy sd) n/\n<=8/\H' q=some (.lst ((rayL wi sq u.ax (u.dy sd) n).map V.int))/\aj H1 H')
  (λQ z=>(ae (aa rfl) (ae (aa rfl) (ae (bf (x:=.int u.ax) (aa rfl) aq (.inr (T1 q1)) rfl) (ae (x:=.int (u.dy sd)) (λQ' z'=>?_) aw)))) _ ⟨b,wi,hi,hs,sq,u.ax,u.dy sd,rfl,B.same q1,s0,s1,dy0,λn q H' a1 a2 _ a4 a5=>z _ _ ⟨n,q,rfl,a1,a2,a4,a5⟩⟩) ?_
 .refine oH (b:=decide (sd=0)) (aX (dY (aa rfl) aq)) (λh=>?_) (λh=>?_)
  .have h:=PH h;rw[show u.dy sd=u.up by unfold bj.dy;rw[PF h]]at z';exact bf (x:=.int u.up) (aa rfl) aq (.inr (T1 q1)) rfl _ z'
  .have h:=PJ h;rw[show u.dy sd= -u.up by unfold bj.dy;rw[PD h]]at z';exact ja (bf (x:=.int u.up) (aa rfl) aq (.inr (T1 q1)) rfl) _ z'
 rintro _ H2 ⟨n,q,rfl,ry,n8,hq,q2⟩;have q3:=q1.trans q2;have inr:∀g∈rayL wi sq u.ax (u.dy sd) n,0<=g/\g<(row.length:Int):=λg hg=>by obtain⟨a,b,_⟩:=qu B.w1 ry g hg;lia
 have free:∀{p:XB},H2 p=none->H p=none:=λ{p} h=>q3.free h;refine aT (b:=decide (u.so="jump")) (aX (dN (bf (x:=.str u.so) (aa rfl) aq (.inr (T1 q3)) rfl) aq)) (λh=>?_) (λh=>?_)
 .have h:=PH h;refine Hu ((ae (aa rfl) (ae (aa rfl) (ae (aa rfl) aw))) _ ⟨row,sd,q,_,rfl,.inl (.inl hq),R,inr,sd2,λt H' t1 t2 t3=>k n t H' ry n8 (free t1) ?_ (q3.trans t3)⟩);unfold rK;rw[PF h];exact t2.from q3
 .have h:=PJ h;refine Hu ((aa rfl) _ ((aa rfl) _ ((bf (x:=.str u.ai) (aa rfl) aq (.inr (T1 q3)) rfl) _ ?_)));refine oH (b:=decide (u.so="leap")) (aX (dN (bf (x:=.str u.so) (aa rfl) aq (.inr (T1 q3)) rfl) aq)) (λh2=>?_) (λh2=>?_)
  .have h2:=PH h2;refine oU (lo:=none) (hi:=some 1) (aa rfl) lJ (jC aq) (.inl (.inl hq)) λp hp=>?_;have q4:aj H (upd H2 p (.lst (cutV ((rayL wi sq u.ax (u.dy sd) n).map V.int) none (some 1)))):=q3.upd hp;have ec:cutV ((rayL wi sq u.ax (u.dy sd) n).map V.int) none (some 1)=((rayL wi sq u.ax (u.dy sd) n).take 1).map V.int:=by exact NI _
   refine⟨row,u.ai,sd,p,(rayL wi sq u.ax (u.dy sd) n).take 1,rfl,.inl (.inl (by rw[ec];exact ah)),R,λg hg=>inr g (UO hg),by rw[Uu];lia,λt H' t1 t2 t3=>k n t H' ry n8 (q4.free t1) ?_ (q4.trans t3)⟩;unfold rK;rw[PD h,PF h2];exact t2.from q4
  .have h2:=PJ h2;refine(aa rfl) _ ⟨row,u.ai,sd,q,_,rfl,.inl (.inl hq),R,inr,by rw[hU];exact n8,λt H' t1 t2 t3=>k n t H' ry n8 (free t1) ?_ (q3.trans t3)⟩;unfold rK;rw[PD h,PD h2];exact t2.from q3
end
section
theorem li(F:cZ K "rules_of" "Game.rules_of" ce f fd)(D:xW K cG):bh P w K mg Px dm 1 f fd ["self","kind"] (oP cG):=by
 refine F.ok1 lb λcdv A Py s H vs Q E hr h=>?_;obtain⟨g,b,kd,ks,ts,es,st,us,rfl,G,R,h24,k⟩:=h;have hu:=bZ hr;obtain⟨rq,fl,hrq⟩:=G.rules D;refine⟨_,(ao (aC (fQ (cc (N:=["rule","kind"]) (src:=[none,some 1]) (am ce) ["self","kind"]) (rS K (cJ K (cv 0))) (λ_ _ _=>(bo (i:=0) ["rule","kind"])) (λ_ _ _=>(iU (aN K hu (cj K (cv 0) ag) (cv 1)))) (λ_ _ _=>(cv 0))))),?_⟩;show tComp _ _ _ _ _ [oR g,oT kd] H Q;refine gJ (d:=rq) (xs:=cI us) (rest:=[oT kd]) (bq (aa rfl) fl) (aO.of hrq) (by rw[T7,P4];lia) rfl (N9 us kd) (λv=>v) (λx hx=>?_) (λx hx _=>aa rfl) (λd hd=>?_)
 .obtain⟨z,hz,rfl⟩:=T9.mp hx;rw[Bc R hz];exact aX (dN (bf (x:=.str z.1.kd) (aa rfl) aq (.inr (.inl (.inl (R z hz)))) rfl) (aa rfl))
 .rw[vP R,List.map_id'']
  .exact k d _ hd ah ((aj.refl H).upd hd)
  .exact λ_=>rfl
theorem AS{f cB cG:XB}{fd:Qf}(F:cZ K "goals" "goals" j7 f fd)(T:Txt mg aS aA aE aW)(D:xW K cG)(C:CRg P w K mg Px cB cG):bh P w K mg Px dm 5 f fd ["game","row","square"] (pZ K cB cG):=by
 refine F.ok1 mR λcdv A Py s H vs Q E hr h=>?_;obtain⟨g,b,row,kd,sq,sd,wi,hi,hs,ks,ts,es,st,us,rfl,G,B,U,u12,un0,R,rl,s0,s1,hsd,sd2,hkd,few,k⟩:=h;have hu:=bZ hr;have r64:=R.len;obtain⟨x1,x2⟩:=R.at s0 (by lia);have ol:(ofKind us kd).length<=12:=VR (UN _ _) u12;have osub:∀z∈ofKind us kd,z∈us:=λz hz=>(UA.mp hz).1;refine⟨_,(af (av 3 mR.nd (bp pan))
  (af (fL Qj rfl (rS K (A8 C.Game_rules_of hr (cv 0) (az (aH C.kind_of hr (az (cj K (cv 1) (cv 2)) pan)) pan))) (bA 4 mR.nd) (ao (dJ (BS (cv 3) (aH C.by_rule hr (az (cJ K (cv 0)) (az (cv 1) (az (cv 2) (az (cv 4) pan)))))))))
  (ao (aC (kB (Js P w hr) lA T.sorted (az (Cg (Nj P w K hr) rM T.set (az (cv 3) pan)) pan)))))),?_⟩
 show bg _ _ _ [oR g,oT row,oJ sq,none,none] H;refine gM λq hq=>?_;have sm:aj H (upd H q (.lst [])):=(aj.refl H).upd hq;refine cO (λσ' H'=>(∃o,σ'=[oR g,oT row,oJ sq,oR q,o])/\(∃l,aV wi hi hs row sq sd (ofKind us kd) l/\bB H H' q l)/\aj H H') (λK' hK=>?_) ?_
 .refine iX (λv H'=>∃d,v=.ref d/\H' d=some (.lst (cI (ofKind us kd)))/\d≠q/\aj (upd H q (.lst [])) H') (λQ z=>?_) ?_
  .refine(show Ev (ci 0) _ _ (.ref g)from aa rfl) _ ⟨(G.same sm).no,NV ((ae (cC (aa rfl) (aa rfl) (by rw[P4];lia) x1) aw) _ ⟨_,rfl,x2,λH2 s2=>?_⟩)⟩;rw[hkd];refine⟨g,b,kd,ks,ts,es,st,us,rfl,(G.same sm).same s2,(U.same sm).same s2,by lia,λd H' d1 d2 d3=>z _ _ ⟨d,rfl,d2,λe=>?_,s2.trans d3⟩⟩;rw[e,s2 _ _ ah]at d1;cases d1
  .rintro _ H1 ⟨d,rfl,hd,ndq,s1'⟩;refine⟨d,cI (ofKind us kd),rfl,aO.of hd,λi σ' H'=>(∃o,σ'=[oR g,oT row,oJ sq,oR q,o])/\(∃l,aV wi hi hs row sq sd ((ofKind us kd).take i) l/\bB H H' q l)/\aj H H'/\H' d=some (.lst (cI (ofKind us kd))),⟨⟨_,rfl⟩,⟨[],.nil,[],rfl,s1' _ _ ah,λ_ z=>nomatch z⟩,sm.trans s1',hd⟩,?_,?_,?_⟩
   .rintro i σ' H' _ ⟨_,_,_,h⟩;exact aO.of h
   .rintro i x _ H2 hx ⟨⟨o,rfl⟩,⟨l,hl,ps,p1,p2,p3⟩,s2,hd2⟩;have hi':i<(ofKind us kd).length:=by
     have:=(Um.mp hx).1
     rwa[T7]at this
    obtain rfl:x=.ref (ofKind us kd)[i].2:=by rw[Ub,Ua hi']at hx;exact(PL hx).symm
    have tk:(ofKind us kd).take (i+1)=(ofKind us kd).take i++[(ofKind us kd)[i]]:=by rw[Vy hi']
    have hz:=osub _ (Uv hi');generalize(ofKind us kd)[i]=zz at tk hz;have ll:=hl.len;rw[Uu]at ll;show jy _ _ [oR g,oT row,oJ sq,oR q,oR zz.2] H2;refine HP (aa rfl) p2 ((ae (bq (aa rfl) ((G.same s2).board D)) (ae (aa rfl) (ae (aa rfl) (ae (aa rfl) aw)))) _ ⟨b,zz.2,row,sq,sd,wi,hi,hs,zz.1,rfl,B.same s2,.inl (.inl ((U.same s2) zz hz)),R,rl,s0,s1,hsd,sd2,un0 zz hz,λn t H3 ry n8 ht hP s3=>?_⟩);obtain⟨ps2,g1,g2,g3⟩:=hP;have lr:fO wi hi hs row sq sd zz.1 (rK row sd zz.1.so zz.1.ai (rayL wi sq zz.1.ax (zz.1.dy sd) n)):=⟨n,ry,n8,rfl⟩;have lr8:=lr.len;have z1:=PM List.length p1;have z2:=PM List.length g1;rw[T7,T7]at z1 z2;refine⟨t,_,_,rfl,s3 _ _ p2,g2,by rw[T7,T7,P4];lia,⟨_,rfl⟩,⟨_,?_,bB.cat p1 (s3 _ _ p2) (λp hp=>⟨(p3 p hp).1,s3 _ _ (p3 p hp).2⟩) s2 g1 g3⟩,(s2.trans s3).put hq,?_⟩
    .rw[tk];exact aV.add lr hl
    .rw[au ndq];exact s3 _ _ hd2
   .rintro σ' H' ⟨o,⟨l,hl,hP⟩,s2,_⟩;rw[T7,U3]at hl;exact hK _ _ ⟨o,⟨l,hl,hP⟩,s2⟩
 .rintro _ H1 ⟨⟨o,rfl⟩,⟨l,hl,ps,p1,p2,p3⟩,s2⟩;have ll:=hl.len;have z1:=PM List.length p1;rw[T7,T7]at z1;refine uZ ((aa rfl) _ (vc (aO.of p2) (λp hp=>⟨?_,(p3 p hp).2⟩) (by lia) (λL nd mem=>?_) λps' q' H' sub mem pw hq' s3 hq2=>?_))
  .have:p.1∈l.map pk:=by rw[<-p1];exact T9.mpr ⟨p,hp,rfl⟩
   obtain⟨x,_,e⟩:=T9.mp this;rw[<-e];exact λz=>nomatch z
  .obtain⟨m,rfl,hm⟩:=Cq (l:=l) λk hk=>by rw[<-p1];exact(mem k).mp hk
   rw[T7];refine few l hl m ?_ hm;rw[UC,Ux]at nd;exact nd.imp λz e=>z (by rw[e])
  .obtain⟨l',e,hm⟩:=Cq (l:=l) (L:=ps'.map (·.1)) λk hk=>by rw[<-p1];exact(mem k).mp hk
   refine k l l' q' H' hl ⟨λx=>⟨hm x,λhx=>?_⟩,?_⟩ (s2.free hq') ⟨ps',e,hq2,λp hp=>⟨(p3 p (sub p hp)).1,s3 _ _ (p3 p (sub p hp)).2⟩⟩ (s2.trans s3)
   .have:pk x∈ps'.map (·.1):=(mem _).mpr (by rw[p1];exact T9.mpr ⟨x,hx,rfl⟩);rw[e]at this;obtain⟨y,hy,ey⟩:=T9.mp this;exact qK ey▸hy
   .have z:(ps'.map (·.1)).Pairwise λx y=>dM x y=true:=Ux.mpr pw;rw[e]at z;exact Ux.mp z
end
section
theorem lZ(F:cZ K "_law_cell_at" "_law_cell_at" cU f fd)(T:Txt mg aS aA aE aW):bh P w K mg Px dm 1 f fd ["_law_script","_law_k"] (jZ K):=by
 refine F.ok1 lT λcdv A Py s H vs Q E hr h=>?_;obtain⟨a,ns,k,rfl,hS,k0,q⟩:=h;have hu:=bZ hr;refine⟨_,(af (aY (aN K hu (cv 1) (kB (ib K) cb T.len (az (cv 0) pan))) (ao (aC (cj K (cv 0) (cv 1)))) aG)
  (ao (aC ag))),?_⟩
 show bg _ _ _ [oR a,oJ k] H;unfold cellAt at q;refine aT (aX (ug (aa rfl) (dt (aa rfl) (.inl hS)))) (λh=>?_) (λh=>?_)
 .have h:=PH h;rw[T7]at h;have hlt:k.toNat<ns.length:=by lia
  have e:(ns.map V.int)[k.toNat]? =some (.int (ns.getD k.toNat 0)):=by rw[Ub,Ug,Ua hlt];rfl
  have e2:=bI e;have ei:((k.toNat:Nat):Int)=k:=by lia
  rw[ei]at e2;exact aK (bf (aa rfl) (aa rfl) (.inl hS) e2) q
 .have h:=PJ h;rw[T7]at h;rw[Ug,Uz (by lia)]at q;exact aK aq q
theorem oi(F:cZ K "_law_mixed" "_law_mixed" eJ f fd):bh P w K mg Px dm 1 f fd ["_law_cell","_law_k"] pX:=by refine F.ok1 n6 λcdv A Py s H vs Q E hr h=>?_;obtain⟨c,k,rfl,q⟩:=h;refine⟨_,(ao (aC (ak (ak (ak (ak (cv 0) (ak ag (cv 1))) ag) ag) ag))),?_⟩;show cL _ _ [oJ c,oJ k] H;exact aK (aU (eZ (bG (bG (aa rfl) (eZ aq (aa rfl) (.inl ⟨by decide,by decide⟩))) aq) aq (.inr ⟨by decide,by decide⟩)) aq (by decide)) q
theorem oj(F:cZ K "_law_kinds" "_law_kinds" df f fd)(T:Txt mg aS aA aE aW):bh P w K mg Px dm 1 f fd ["_law_cell"] sJ:=by
 refine F.ok1 gN λcdv A Py s H vs Q E hr h=>?_;obtain⟨c,rfl,k⟩:=h;have hu:=bZ hr;refine⟨_,(af (av 1 gN.nd aP)
  (af (av 2 gN.nd (cj K (bp (di rfl)) (ak (ak (cv 0) ag) ag)))
  (ao (aC (fQ (cc (N:=["_law_k","_law_letters","_law_cell","_law_step_here"]) (src:=[none,some 1,some 0,some 2]) (am df) ["_law_cell","_law_letters","_law_step_here"]) (Cf T.range (az (cj K (bp (di rfl)) (ak (cv 0) ag)) pan)) (λ_ _ _=>(bo (i:=0) ["_law_k","_law_letters","_law_cell","_law_step_here"])) (λ_ _ _=>bP) (λ_ _ _=>(cj K (cv 1) (ak (ak (ak (cv 2) ag) (ak (cv 3) (cv 0))) ag)))))))),?_⟩
 show bg _ _ _ [oJ c,none,none] H;refine a8 aq ?_;refine bC (λv H'=>∃st:Int,v=.int st/\st∈([1,3,5,7,9,11]:List Int)/\aj H H') (λQ q=>?_) ?_
 .obtain⟨n,e,hn⟩:=m5 (ns:=[1,3,5,7,9,11]) (i:=c / 208 % 6) (by lia) (by show _<(6:Int);lia);exact kn jH (by decide) (λH'=>(aU (bF (aa rfl) aq ⟨by decide,by decide⟩) aq (by decide))) e (λH' s=>q _ _ ⟨n,rfl,hn,s⟩)
 rintro _ H1 ⟨st,rfl,hst,s1⟩;obtain⟨n,e,hn⟩:=m5 (ns:=[1,2,2,3,3,1,6,4]) (i:=c % 8) (by lia) (by show _<(8:Int);lia);have hn6:1<=n/\n<=6:=by simp only[T8,Uk,or_false]at hn;lia
 show cL _ _ [oJ c,oT ("abcdefghijklmnopqrstuvwxyz"),oJ st] H1;refine zk (n:=n) (rest:=[oT ("abcdefghijklmnopqrstuvwxyz"),oJ c,oJ st]) (λQ q=>wW jH (by decide) (λH'=>(aU (aa rfl) aq (by decide))) e q) (by lia) (by rw[P4];lia) (by lia) rfl (λ_=>true)
  (λx=>match x with| .int i=>strV (97+((c / 8+st*i) % 26).toNat)|_=>.non) (λi H' s hi=>dH) (λi H' s hi _=>?_) (λH' d s hd=>?_)
 .have hlt:0<=0+(i:Int)/\0+(i:Int)<6:=by lia
  exact cC (aa rfl) (aU (bG (bF (aa rfl) aq ⟨by decide,by decide⟩) (eZ (aa rfl) (aa rfl) (.inr ⟨by lia,by lia⟩))) aq (by decide)) (by decide) (Kg (by lia) (by lia))
 .have e2:(((List.range n.toNat).map λ(i:Nat)=>V.int (0+(i:Int))).filter λ_=>true).map (λx=>match x with| .int i=>strV (97+((c / 8+st*i) % 26).toNat)|_=>.non)=(jO (c / 8) st n.toNat).map strV:=by rw[UE.mpr (λ_ _=>rfl),Uf];unfold jO;rw[Uf];refine UG λi _=>?_;show strV (97+((c / 8+st*(0+(i:Int))) % 26).toNat)=strV (97+((c / 8+st*(i:Int)) % 26).toNat);rw[We]
  rw[e2];have hl:(jO (c / 8) st n.toNat).length=n.toNat:=by unfold jO;simp
  exact k d _ _ ((s1.trans s).free hd) ah vO (yY (by lia) hst) (by lia) (by lia) ((s1.trans s).upd hd)
theorem on(F:cZ K "_law_board" "_law_board" eK f fd)(T:Txt mg aS aA aE aW)(C:LG1 P w K mg Px):bh P w K mg Px dm 2 f fd ["_law_script"] (sK K):=by
 refine F.ok1 bH λcdv A Py s H vs Q E hr h=>?_;obtain⟨a,ns,rfl,hS,k⟩:=h;have hu:=bZ hr;refine⟨_,(af (av 1 bH.nd (aH C._law_cell_at hr (az (cv 0) (az ag pan))))
  (af (av 2 bH.nd (ak ag (ak (cv 1) ag)))
  (af (av 3 bH.nd (ak ag (ak (ak (cv 1) ag) ag)))
  (af (aY (aN K hu (ak (ak (cv 1) ag) ag) ag) (af (av 2 bH.nd (ak ag (ak (ak (cv 1) ag) ag)))
  (ao (av 3 bH.nd (ak ag (ak (ak (cv 1) ag) ag))))) aG)
  (af (av 1 bH.nd (aH C._law_cell_at hr (az (cv 0) (az ag pan))))
  (af (av 4 bH.nd (bp pan))
  (af (fL Qj rfl (Cf T.range (az (cj K (bp (di rfl)) (ak (cv 1) ag)) pan)) (bA 5 bH.nd) (af (av 6 bH.nd (ak (aH C._law_mixed hr (az (ak (cv 1) ag) (az (cv 5) pan))) (ak (cv 2) (cv 3))))
  (ao (aY (PW.pt (gO (aN K hu (cv 6) (cv 4)) (fW (aN K hu (ak (kB (ib K) cb T.len (az (cv 4) pan)) ag) (ak (cv 2) (cv 3)))))) (ao (dJ (gS (cv 4) (cv 6)))) aG))))
  (ao (aC (dn (az (cv 2) (az (cv 3) (az (cv 4) pan))))))))))))),?_⟩
 show bg _ _ _ [oR a,none,none,none,none,none,none] H;refine a8 (aL (ae (aa rfl) (ae aq aw)) (λQ q=>⟨a,ns,0,rfl,hS,by decide,q⟩)) ?_;generalize cellAt ns 0=c;refine a8 (bG aq (aU (aa rfl) aq (by decide))) ?_;refine a8 (bG aq (aU (bF (aa rfl) aq ⟨by decide,by decide⟩) aq (by decide))) ?_;refine cO (λσ' H'=>∃wi hi:Int,1<=wi/\wi<=8/\1<=hi/\hi<=8/\σ'=[oR a,oJ c,oJ wi,oJ hi,none,none,none]/\H'=H) (λK' hK=>?_) ?_
 .refine jV (aX (dY (aU (bF (aa rfl) aq ⟨by decide,by decide⟩) aq (by decide)) aq)) (λ_=>?_) (λ_=>hK _ _ ⟨_,_,by lia,by lia,by lia,by lia,rfl,rfl⟩);refine a8 (bG aq (aU (bF (aa rfl) aq ⟨by decide,by decide⟩) aq (by decide))) ?_;exact jW (bG aq (aU (bF (aa rfl) aq ⟨by decide,by decide⟩) aq (by decide))) (hK _ _ ⟨_,_,by lia,by lia,by lia,by lia,rfl,rfl⟩)
 rintro _ H1 ⟨wi,hi,w1,w8,h1,h8,rfl,rfl⟩;have m1:wi*hi<=8*8:=Wf w8 h8 (by lia) (by lia);have m0:1*1<=wi*hi:=Wf w1 h1 (by lia) (by lia);refine a8 (aL (ae (aa rfl) (ae aq aw)) (λQ q=>⟨a,ns,1,rfl,hS,by decide,q⟩)) ?_;generalize cellAt ns 1=c1;refine gM λq1 hq1=>?_;have sm:aj H1 (upd H1 q1 (.lst [])):=(aj.refl H1).upd hq1;obtain⟨n,e,hn⟩:=m5 (ns:=[0,0,1,2]) (i:=c1 % 4) (by lia) (by show _<(4:Int);lia);have hn2:0<=n/\n<=2:=by simp only[T8,Uk,or_false]at hn;lia
 refine cO (λσ' H'=>∃hs:List Int,(∃o5 o6,σ'=[oR a,oJ c1,oJ wi,oJ hi,oR q1,o5,o6])/\H' q1=some (.lst (hs.map V.int))/\(∀h∈hs,0<=h/\h<wi*hi)/\hs.Nodup/\(hs.length:Int)<wi*hi/\hs.length<=2/\aj H1 H') (λK' hK=>?_) ?_
 .refine lv n (λQ q=>wW jH (by decide) (λH'=>(aU (aa rfl) aq (by decide))) e q) (by lia) (by lia)
   (λi σ' H'=>∃hs:List Int,(∃o5 o6,σ'=[oR a,oJ c1,oJ wi,oJ hi,oR q1,o5,o6])/\H' q1=some (.lst (hs.map V.int))/\(∀h∈hs,0<=h/\h<wi*hi)/\hs.Nodup/\(hs.length:Int)<wi*hi/\hs.length<=i/\aj H1 H')
   (λH' s=>⟨[],⟨_,_,rfl⟩,s _ _ ah,(λh hh=>by cases hh),U5,by show(0:Int)<_;lia,VO _,sm.trans s⟩) ?_ (λσ' H' h=>?_)
  .rintro i _ H3 hi' ⟨hs,⟨o5,o6,rfl⟩,h3,gd,nd,hl,hl2,s3⟩;show bg _ _ _ [oR a,oJ c1,oJ wi,oJ hi,oR q1,oJ (0+(i:Int)),o6] H3;generalize 0+(i:Int)=j;refine a8 (aU (aL (ae (bF (aa rfl) aq ⟨by decide,by decide⟩) (ae (aa rfl) aw)) (λQ q=>⟨_,_,rfl,q⟩)) (eZ (aa rfl) (aa rfl) (.inl ⟨by lia,by lia⟩)) (by lia)) ?_;generalize hsq:mixed (c1 / 4) j % (wi*hi)=sq;have sq0:0<=sq:=hsq▸Wb _ (by lia);have sq1:sq<wi*hi:=hsq▸Wc _ (by lia);refine jV (ii (aX (vX (aa rfl) (aa rfl) (.inl (aO.of h3)))) (λ_=>(aX (ug (bG (dt (aa rfl) (.inl (aO.of h3))) aq) (eZ (aa rfl) (aa rfl) (.inl ⟨by lia,by lia⟩)))))) (λh=>?_) (λ_=>⟨hs,⟨_,_,rfl⟩,h3,gd,nd,hl,by lia,s3⟩);rw[Ws]at h;have hni:¬sq∈hs:=λz=>by have h1:=h.1;rw[Pz z]at h1;cases h1
   have hl':=PH h.2;rw[T7]at hl';refine Cv (aa rfl) (aa rfl) h3 (by rw[T7,P4];lia) ⟨hs++[sq],⟨_,_,rfl⟩,?_,λh hh=>?_,?_,?_,?_,s3.put hq1⟩
   .rw[ah,Uq];rfl
   .rcases Ul.mp hh with z|z
    .exact gd h z
    .rw[Ud.mp z];exact⟨sq0,sq1⟩
   .rw[U2];refine⟨nd,by simp,λx hx y hy e=>?_⟩;rw[Ud.mp hy]at e;exact hni (e▸hx)
   .rw[Uj];show((hs.length+1:Nat):Int)<_;lia
   .rw[Uj];show hs.length+1<=_;lia
  .obtain⟨hs,o,h3,gd,nd,hl,hl2,s3⟩:=h;exact hK _ _ ⟨hs,o,h3,gd,nd,hl,by lia,s3⟩
 rintro _ H3 ⟨hs,⟨o5,o6,rfl⟩,h3,gd,nd,hl,hl2,s3⟩;show cL _ _ [oR a,oJ c1,oJ wi,oJ hi,oR q1,o5,o6] H3;refine uS (aa rfl) (aa rfl) (aa rfl) (λt ht=>?_);exact k t q1 wi hi hs _ w1 w8 h1 h8 ah (by rw[au (ay h3 ht)];exact h3) gd nd hl hl2 hq1 (s3.free ht) (s3.upd ht)
end
section
theorem ra(F:cZ K "_law_rule" "_law_rule" fI f fd)(T:Txt mg aS aA aE aW):bh P w K mg Px dm 1 f fd ["_law_cell","_law_kinds_here"] wN:=by
 refine F.ok1 bN λcdv A Py s H vs Q E hr h=>?_;obtain⟨c,d,ks,rfl,hk,q⟩:=h;have hu:=bZ hr;have hpos:(0:Int)<((ks.map strV).length:Int):=by rw[T7];have:=hk.l1;lia
 have h6:((ks.map strV).length:Int)<=6:=by rw[T7];have:=hk.l6;lia
 refine⟨_,(af (av 2 bN.nd (ak (cv 0) (kB (ib K) cb T.len (az (cv 1) pan))))
  (af (av 3 bN.nd (cj K (bp (di rfl)) (ak (cv 2) ag)))
  (af (av 4 bN.nd (cj K (bp (di rfl)) (ak (ak (cv 2) ag) ag)))
  (af (av 5 bN.nd ag)
  (af (aY (aN K hu (cv 3) aP) (ao (av 4 bN.nd aP)) aG)
  (af (aY (aN K hu (cv 3) aP) (ao (av 5 bN.nd (cj K (bp (di rfl)) (ak (ak (cv 2) ag) ag)))) aG)
  (af (av 6 bN.nd (ak (ak (ak (cv 2) ag) (ak (ak ag (cv 5)) ag)) (cv 5)))
  (af (av 7 bN.nd (ak (ak (ak (cv 2) ag) (ak (ak ag (cv 5)) ag)) (cv 5)))
  (af (aY (PW.pt (gO (aN K hu (cv 6) ag) (fW (aN K hu (cv 7) ag)))) (ao (av 7 bN.nd ag)) aG)
  (ao (aC (dn (az (cj K (cv 1) (ak (cv 0) (kB (ib K) cb T.len (az (cv 1) pan)))) (az (cv 3) (az (cv 4) (az (cv 6) (az (cv 7) pan))))))))))))))))),?_⟩
 show bg _ _ _ [oJ c,oR d,none,none,none,none,none,none] H;refine a8 (bF (aa rfl) (dt (aa rfl) (.inl (aO.of hk.at_))) ⟨by lia,by lia⟩) ?_;generalize c / ((ks.map strV).length:Int)=m;refine bC (λv H'=>∃so:Str,v=.str so/\so∈sortsL/\aj H H') (λQ q=>?_) ?_
 .obtain⟨n,e,hn⟩:=w5 (ss:=sortsL) (i:=m % 3) (by lia) (by show _<(3:Int);lia);exact kn jH (by decide) (λH'=>(aU (aa rfl) aq (by decide))) e (λH' s=>q _ _ ⟨n,rfl,hn,s⟩)
 rintro _ H1 ⟨so,rfl,hso,s1⟩;refine bC (λv H'=>∃ai:Str,v=.str ai/\ai∈aimsL/\aj H1 H') (λQ q=>?_) ?_
 .obtain⟨n,e,hn⟩:=w5 (ss:=aimsL) (i:=m / 3 % 3) (by lia) (by show _<(3:Int);lia);exact kn jH (by decide) (λH'=>(aU (bF (aa rfl) aq ⟨by decide,by decide⟩) aq (by decide))) e (λH' s=>q _ _ ⟨n,rfl,hn,s⟩)
 rintro _ H2 ⟨ai,rfl,hai,s2⟩;refine a8 aq ?_;show bg _ _ _ [oJ c,oR d,oJ m,oT so,oT ai,oJ 1,none,none] H2;refine il (λσ' H'=>H'=H2/\∃ai:Str,σ'=[oJ c,oR d,oJ m,oT so,oT ai,oJ 1,none,none]/\ai∈aimsL/\(so="jump"->ai="hit")) ?_ (λgo=>?_)
 rotate_left
 .exact aT (aX (dN (aa rfl) aq)) (λh=>jW aq (go _ _ ⟨rfl,"hit",rfl,by decide,λ_=>rfl⟩)) (λh=>go _ _ ⟨rfl,ai,rfl,hai,λz=>PK z (PJ h)⟩)
 rintro _ H2 ⟨rfl,ai,rfl,hai,hjh⟩;refine il (λσ' H'=>aj H2 H'/\∃fr:Int,σ'=[oJ c,oR d,oJ m,oT so,oT ai,oJ fr,none,none]/\1<=fr/\fr<=(if so="leap"then 3 else 1)) ?_ (λgo=>?_)
 rotate_left
 .refine aT (aX (dN (aa rfl) aq)) (λh=>?_) (λh=>go _ _ ⟨aj.refl _,1,rfl,by decide,by split<;>lia⟩);obtain⟨n,e,hn⟩:=m5 (ns:=[1,2,3]) (i:=m / 9 % 3) (by lia) (by show _<(3:Int);lia);have hn6:1<=n/\n<=3:=by simp only[T8,Uk,or_false]at hn;lia
  exact nR (kn jH (by decide) (λH'=>(aU (bF (aa rfl) aq ⟨by decide,by decide⟩) aq (by decide))) e (λH' s=>go _ _ ⟨s,n,rfl,hn6.1,by rw[PF (PH h)];exact hn6.2⟩))
 rintro _ H3 ⟨s3,fr,rfl,f0,f1⟩;have fr3:fr<=3:=by split at f1<;>lia
 refine a8 (iZ (aU (bF (aa rfl) aq ⟨by decide,by decide⟩) (bG (eZ aq (aa rfl) (.inl ⟨by decide,by decide⟩)) aq) (by lia)) (aa rfl)) ?_;refine a8 (iZ (aU (bF (aa rfl) aq ⟨by decide,by decide⟩) (bG (eZ aq (aa rfl) (.inl ⟨by decide,by decide⟩)) aq) (by lia)) (aa rfl)) ?_;have a0:=Wb (m / 27) (by lia:2*fr+1≠0);have a1:=Wc (m / 27) (by lia:0<2*fr+1);have b0:=Wb (m / 189) (by lia:2*fr+1≠0);have b1:=Wc (m / 189) (by lia:0<2*fr+1);have hax: -fr<=m / 27 % (2*fr+1) - fr/\m / 27 % (2*fr+1) - fr<=fr:=by lia
 have hup: -fr<=m / 189 % (2*fr+1) - fr/\m / 189 % (2*fr+1) - fr<=fr:=by lia
 generalize m / 27 % (2*fr+1) - fr=ax at hax;generalize m / 189 % (2*fr+1) - fr=up at hup;show bg _ _ _ [oJ c,oR d,oJ m,oT so,oT ai,oJ fr,oJ ax,oJ up] H3;refine il (λσ' H'=>H'=H3/\∃up:Int,σ'=[oJ c,oR d,oJ m,oT so,oT ai,oJ fr,oJ ax,oJ up]/\-fr<=up/\up<=fr/\¬(ax=0/\up=0)) ?_ (λgo=>?_)
 rotate_left
 .refine aT (ii (aX (dY (aa rfl) aq)) (λ_=>aX (dY (aa rfl) aq))) (λh=>jW aq (go _ _ ⟨rfl,1,rfl,by lia,by lia,by lia⟩)) (λh=>go _ _ ⟨rfl,up,rfl,hup.1,hup.2,λz=>by simp[z.1,z.2]at h⟩)
 rintro _ H3 ⟨rfl,up,rfl,u0,u1,n0⟩;have s03:=(s1.trans s2).trans s3;have hk3:=hk.same s03;obtain⟨k,hkm,ek⟩:=hk3.pick c;refine tupY (gE (bf (aa rfl) (aU (aa rfl) (dt (aa rfl) (.inl (aO.of hk3.at_))) hpos) (.inl (aO.of hk3.at_)) ek) (gE (aa rfl) (gE (aa rfl) (gE (aa rfl) (gE (aa rfl) (AU ⟨by show 5<=fv;decide,λp hp=>?_⟩))))));exact q p ⟨one k,so,ai,ax,up⟩ _ ⟨⟨k,hkm,rfl⟩,hso,hai,hjh,⟨by show -(if so="leap"then 3 else 1)<=ax;lia,Int.le_trans hax.2 f1⟩,⟨by show -(if so="leap"then 3 else 1)<=up;lia,Int.le_trans u1 f1⟩,n0⟩ (s03.free hp) ah (s03.upd hp)
theorem og(F:cZ K "_law_turns" "_law_turns" dc f fd)(T:Txt mg aS aA aE aW):bh P w K mg Px dm 1 f fd ["_law_cell","_law_kinds_here"] sI:=by
 refine F.ok1 fm λcdv A Py s H vs Q E hr h=>?_;obtain⟨c,d,ks,rfl,hk,q⟩:=h;have hu:=bZ hr;have hl1:=hk.l1;have hl6:=hk.l6;refine⟨_,(af (av 2 fm.nd (kB (ib K) cb T.len (az (cv 1) pan)))
  (af (aY (PW.pt (fP (aN K hu (ak (cv 0) ag) ag) (eP (aN K hu (cv 2) ag)))) (ao (aC (bp pan))) aG)
  (af (av 3 fm.nd (cj K (cv 1) (ak (ak (cv 0) ag) (cv 2))))
  (af (jl (i:=4) rfl (cc (N:=["_law_k","_law_other","_law_kinds_here","_law_many","_law_cell"]) (src:=[none,some 3,some 1,some 2,some 0]) (am dc) ["_law_cell","_law_kinds_here","_law_many","_law_other","_law_turns_here"]) (Cf T.range (az (ak (cv 2) ag) pan)) (λ_ _ _=>(bo (i:=0) ["_law_k","_law_other","_law_kinds_here","_law_many","_law_cell"])) (λ_ _ _=>bP) (λ_ _ _=>(dn (az (cj K (cv 2) (ak (ak (ak (ak (cv 4) ag) ag) (cv 0)) (cv 3))) (az (cv 1) pan)))) fm.nd rfl (Or.inl rfl) rfl (Or.inl rfl))
  (ao (aC (xm K (cv 4) dh (cD (ak ag (ak (ak (cv 0) ag) ag)))))))))),?_⟩
 show bg _ _ _ [oJ c,oR d,none,none,none] H;refine a8 (dt (aa rfl) (.inl (aO.of hk.at_))) ?_;rw[T7];refine aT (iy (aX (xA (aU (aa rfl) aq (by decide)) aq)) (λ_=>(aX (ug (aa rfl) aq)))) (λh=>?_) (λh=>?_)
 .refine⟨VQ _,λp hp=>q p [] _ ⟨VQ _,λ_ z=>(nomatch z),U5,λ_ z=>(nomatch z)⟩ (λ_ z=>(nomatch z)) hp ah ((aj.refl H).upd hp)⟩
 .have hm:2<=ks.length:=by rw[WD]at h;have:=PJ h.2;lia
  have at_:∀i:Int,0<=i->i<ks.length->jd (ks.map strV) i=some (strV (ks.getD i.toNat 0))/\ks.getD i.toNat 0∈ks:=λi h0 h1=>by
   have hi:i.toNat<ks.length:=by lia
   have e:ks[i.toNat]? =some (ks.getD i.toNat 0):=by rw[Ug,Ua hi];rfl
   have z:=bI (xs:=ks.map strV) (j:=i.toNat) (v:=strV (ks.getD i.toNat 0)) (by rw[Ub,e];rfl);rw[Wk h0]at z;exact⟨z,Us e⟩
  have inj:∀i j:Int,0<=i->i<ks.length->0<=j->j<ks.length->ks.getD i.toNat 0=ks.getD j.toNat 0->i=j:=λi j a b c' d' e=>by
   have hi:i.toNat<ks.length:=by lia
   have hj:j.toNat<ks.length:=by lia
   rw[Ug,Ug,Ua hi,Ua hj]at e;have:=(Vg hk.nd).mp (by simpa using e);lia
  have o0:=Wb (c / 3) (by lia:(ks.length:Int)≠0);have o1:=Wc (c / 3) (by lia:(0:Int)<ks.length);obtain⟨eo,mo⟩:=at_ _ o0 o1;refine a8 (v:=strV (ks.getD (c / 3 % (ks.length:Int)).toNat 0)) (bf (aa rfl) (aU (bF (aa rfl) aq ⟨by decide,by decide⟩) (aa rfl) (by lia)) (.inl (aO.of hk.at_)) eo) ?_;generalize hi0:c / 3 % (ks.length:Int)=i0 at o0 o1 eo mo;refine bC (λv H'=>∃(p:XB)(zs:List ((Str×Str)×XB)),v=.ref p/\H' p=some (.lst (bT zs))/\ic H' zs/\zs.length=ks.length - 1/\(∀(i:Nat) z,zs[i]? =some z->z.1=(one (ks.getD ((c / 3+1+(i:Int)) % (ks.length:Int)).toNat 0),one (ks.getD i0.toNat 0)))/\aj H H') (λQ z=>?_) ?_
  .refine zj (n:=(ks.length:Int) - 1) (λQ' z'=>(ae (iZ (aa rfl) aq) aw) _ (z' _ (aj.refl _))) (by lia) (by lia) rfl
    (λi H' v=>∃a,v=.ref a/\H' a=some (.tup [.str (one (ks.getD ((c / 3+1+(i:Int)) % (ks.length:Int)).toNat 0)),.str (one (ks.getD i0.toNat 0))])) (λi H1 H2 v ⟨a,e1,e2⟩ s=>⟨a,e1,s _ _ e2⟩) (λi H' hi s Q2 z2=>?_) (λp H' ys s hp hl hy=>?_)
   .have j0:=Wb (c / 3+1+(i:Int)) (by lia:(ks.length:Int)≠0);have j1:=Wc (c / 3+1+(i:Int)) (by lia:(0:Int)<ks.length);refine iM (x:=strV (ks.getD ((c / 3+1+(i:Int)) % (ks.length:Int)).toNat 0)) (y:=strV (ks.getD i0.toNat 0)) (bf (aa rfl) (aU (bG (bG (bF (aa rfl) aq ⟨by decide,by decide⟩) aq) (aa rfl)) (aa rfl) (by lia)) (.inl (aO.of (hk.same s).at_)) ?_) (aa rfl) λa ha=>z2 _ _ ⟨a,rfl,ah⟩ ((aj.refl _).upd ha);rw[We];exact(at_ _ j0 j1).1
   .obtain⟨zs,rfl,h1,h2,h3⟩:=wZ (λi=>(one (ks.getD ((c / 3+1+(i:Int)) % (ks.length:Int)).toNat 0),one (ks.getD i0.toNat 0))) ys 0 λi y hi=>by rw[VX];exact hy i y hi
    refine z _ _ ⟨p,zs,rfl,ah,h1.same ((aj.refl _).upd hp),by rw[h2,hl];lia,λi z hz=>by have:=h3 i z hz;rwa[VX]at this,s.upd hp⟩
  rintro _ H1 ⟨p,zs,rfl,hp,hz,zl,za,s1⟩;have kk:∃n:Nat,1+c / 18 % 2=(n:Int)/\1<=n/\n<=2:=⟨(1+c / 18 % 2).toNat,by lia,by lia,by lia⟩;obtain⟨n,en,n1,n2⟩:=kk;refine oU (lo:=none) (hi:=some (n:Int)) (aa rfl) lJ (jC ?_) (.inl (.inl hp)) λt ht=>?_
  .rw[<-en];exact(bG aq (aU (bF (aa rfl) aq ⟨by decide,by decide⟩) aq (by decide)))
  have ec:cutV (bT zs) none (some (n:Int))=bT (zs.take n):=by unfold cutV;rw[HT.sIx_none,HT.sIx_nat,U1,V8];show List.take (min n (List.map (λz=>V.ref z.2) zs).length) (List.map (λz=>V.ref z.2) zs)=List.map (λz=>V.ref z.2) (List.take n zs);rw[UY];exact List.take_eq_take_iff.mpr (by lia)
  rw[ec];have s2:aj H (upd H1 t (.lst (bT (zs.take n)))):=s1.upd ht;have val:∀(i:Nat) z,(zs.take n)[i]? =some z->i<n/\i<ks.length - 1/\z.1=(one (ks.getD ((c / 3+1+(i:Int)) % (ks.length:Int)).toNat 0),one (ks.getD i0.toNat 0)):=λi z h=>by have hi:=(Um.mp h).1;rw[Uu]at hi;rw[Vj (by lia)]at h;exact⟨by lia,by lia,za i z h⟩
  have ixr:∀i:Nat,i<ks.length - 1->¬(c / 3+1+(i:Int)) % (ks.length:Int)=i0:=λi hi e=>by rw[<-hi0]at e;have e2:=Wq.mp e;rw[show c / 3+1+(i:Int) - c / 3=1+i by lia,Wl (by lia) (by lia)]at e2;lia
  refine q t (zs.take n) _ ⟨by rw[Uu];lia,λz h=>?_,?_,λz h y h' e=>?_⟩ (λz h=>((aj.refl H1).upd ht) _ _ (hz z (UO h))) (s1.free ht) ah s2
  .obtain⟨i,hi⟩:=Vf h;obtain⟨_,_,e⟩:=val i z hi;rw[e];exact⟨⟨_,(at_ _ (Wb _ (by lia)) (Wc _ (by lia))).2,rfl⟩,_,mo,rfl⟩
  .rw[UC,Ux,Vd];intro i j hi hj hij e;obtain⟨a1,a2,a3⟩:=val i _ (Ua hi);obtain⟨b1,b2,b3⟩:=val j _ (Ua hj);rw[a3,b3]at e;have e:=inj _ _ (Wb _ (by lia)) (Wc _ (by lia)) (Wb _ (by lia)) (Wc _ (by lia)) (ke e);have e2:=Wq.mp e.symm;rw[show c / 3+1+(j:Int) - (c / 3+1+(i:Int))=(j:Int) - i by lia,Wl (by lia) (by lia)]at e2;lia
  .obtain⟨i,hi⟩:=Vf h;obtain⟨j,hj⟩:=Vf h';obtain⟨_,_,a3⟩:=val i z hi;obtain⟨_,b2,b3⟩:=val j y hj;rw[a3,b3]at e;exact ixr j b2 (inj _ _ o0 o1 (Wb _ (by lia)) (Wc _ (by lia)) (ke e)).symm
end
section
theorem rc{f cB cG:XB}{fd:Qf}(F:cZ K "_law_game" "_law_game" fJ f fd)(T:Txt mg aS aA aE aW)(C:LGg P w K mg Px cB cG):bh P w K mg Px dm 8 f fd ["_law_script"] (wO K cB cG):=by
 refine F.ok1 bi λcdv A Py s H vs Q E hr h=>?_;obtain⟨a,ns,rfl,hS,k⟩:=h;have hu:=bZ hr;refine⟨_,(af (vq (aH C._law_board hr (az (cv 0) pan)) (Nl K (n:=3) (cf (bA 1 bi.nd) (cf (bA 2 bi.nd) (cf (bA 3 bi.nd) jn)))))
  (af (av 4 bi.nd (aH C._law_kinds hr (az (aH C._law_cell_at hr (az (cv 0) (az ag pan))) pan)))
  (af (av 5 bi.nd (aH C._law_cell_at hr (az (cv 0) (az ag pan))))
  (af (av 6 bi.nd (bp pan))
  (af (fL Qj rfl (Cf T.range (az (cj K (bp (di rfl)) (ak (cv 5) ag)) pan)) (bA 7 bi.nd) (ao (dJ (gS (cv 6) (aH C._law_rule hr (az (aH C._law_mixed hr (az (ak (aH C._law_cell_at hr (az (cv 0) (az (ak ag (ak (cv 7) ag)) pan))) (cv 5)) (az (cv 7) pan))) (az (cv 4) pan)))))))
  (af (av 8 bi.nd (aH C._law_turns hr (az (aH C._law_cell_at hr (az (cv 0) (az ag pan))) (az (cv 4) pan))))
  (af (av 5 bi.nd (aH C._law_cell_at hr (az (cv 0) (az ag pan))))
  (af (av 9 bi.nd (bp pan))
  (af (fL Qj rfl (Cf T.range (az (cj K (bp (di rfl)) (ak (cv 5) ag)) pan)) (bA 7 bi.nd) (af (av 10 bi.nd (aH C._law_mixed hr (az (cv 5) (az (cv 7) pan))))
  (ao (dJ (gS (cv 9) (dn (az (cj K (bp (az aP (az aP pan))) (ak (cv 10) ag)) (az (cj K (cv 4) (ak (ak (cv 10) ag) (kB (ib K) cb T.len (az (cv 4) pan)))) pan))))))))
  (af (av 11 bi.nd (cj K (bp (di rfl)) (ak (ak (cv 5) ag) ag)))
  (ao (aC (HI C.Game hr (az (HI C.Board hr (az (cv 1) (az (cv 2) (az (cv 3) pan)))) (az (cv 4) (az (cv 6) (az (cv 8) (az (cv 9) (az (cv 11) pan))))))))))))))))))),?_⟩
 show bg _ _ _ [oR a,none,none,none,none,none,none,none,none,none,none,none] H;refine cO (λσ' H'=>∃(wi hi:Int)(d:XB)(hs:List Int),σ'=[oR a,oJ wi,oJ hi,oR d,none,none,none,none,none,none,none,none]/\1<=wi/\wi<=8/\1<=hi/\hi<=8/\H' d=some (.lst (hs.map V.int))/\(∀h∈hs,0<=h/\h<wi*hi)/\hs.Nodup/\(hs.length:Int)<wi*hi/\hs.length<=2/\aj H H') (λK' hK=>?_) ?_
 .refine J9 (ae (aa rfl) aw) ⟨a,ns,rfl,hS,λt d wi hi hs H' w1 w8 h1 h8 et ed gd nd ln l2 nq nt s=>?_⟩;exact Nw et (hK _ _ ⟨wi,hi,d,hs,rfl,w1,w8,h1,h8,ed,gd,nd,ln,l2,s⟩)
 rintro _ H1 ⟨wi,hi,d,hs,rfl,w1,w8,h1,h8,ed,gd,nd,ln,l2,s1⟩;have hS1:=s1.seq hS;refine bC (λv H'=>∃(kq:XB)(ks:List Nat),v=.ref kq/\jI H' kq ks/\aj H1 H') (λQ q=>?_) ?_
 .exact dZ (ae (aL (ae (aa rfl) (ae aq aw)) (λQ q=>⟨a,ns,2,rfl,hS1,by decide,q⟩)) aw) ⟨_,rfl,λkq ks H' z1 z2 z3 z4 z5 z6 z7=>q _ _ ⟨kq,ks,rfl,⟨z2,z3,z5,z6,z4⟩,z7⟩⟩
 rintro _ H2 ⟨kq,ks,rfl,ek,s2⟩;have hS2:=s2.seq hS1;refine a8 (aL (ae (aa rfl) (ae aq aw)) (λQ q=>⟨a,ns,3,rfl,hS2,by decide,q⟩)) ?_;generalize cellAt ns 3=c3;refine gM λrq hrq=>?_;have sr:aj H2 (upd H2 rq (.lst [])):=(aj.refl H2).upd hrq;obtain⟨n,e,hn⟩:=m5 (ns:=[4,5,6,3,8,2,12,0]) (i:=c3 % 8) (by lia) (by show _<(8:Int);lia);have hn2:0<=n/\n<=12:=by simp only[T8,Uk,or_false]at hn;lia
 refine cO (λσ' H'=>∃us:List (bj×XB),(∃o7,σ'=[oR a,oJ wi,oJ hi,oR d,oR kq,oJ c3,oR rq,o7,none,none,none,none])/\H' rq=some (.lst (cI us))/\eV H' us/\(∀z∈us,kR ks z.1)/\us.length<=12/\aj H2 H') (λK' hK=>?_) ?_
 .refine lv n (λQ q=>wW jH (by decide) (λH'=>(aU (aa rfl) aq (by decide))) e q) (by lia) (by lia)
   (λi σ' H'=>∃us:List (bj×XB),(∃o7,σ'=[oR a,oJ wi,oJ hi,oR d,oR kq,oJ c3,oR rq,o7,none,none,none,none])/\H' rq=some (.lst (cI us))/\eV H' us/\(∀z∈us,kR ks z.1)/\us.length=i/\aj H2 H')
   (λH' s=>⟨[],⟨_,rfl⟩,s _ _ ah,λ_ z=>(nomatch z),λ_ z=>(nomatch z),rfl,sr.trans s⟩) ?_ (λσ' H' h=>?_)
  .rintro i _ H3 hi' ⟨us,⟨o7,rfl⟩,h3,hR,hg,hl,s3⟩;show jy _ _ [oR a,oJ wi,oJ hi,oR d,oR kq,oJ c3,oR rq,oJ (0+(i:Int)),none,none,none,none] H3;rw[We];have hS3:=s3.seq hS2;refine nT (aa rfl) ⟨_,h3⟩ (dZ (ae (aL (ae (bG (aL (ae (aa rfl) (ae (bG aq (aU (aa rfl) aq (by decide))) aw)) (λQ q=>⟨a,ns,4+(i:Int) % 4,rfl,hS3,by lia,q⟩)) (aa rfl)) (ae (aa rfl) aw)) (λQ q=>⟨_,_,rfl,q⟩)) (ae (aa rfl) aw)) ⟨_,kq,ks,rfl,ek.same s3,λt u H4 g1 g2 g3 g4=>⟨_,g4 _ _ h3,by rw[T7,hl,P4];lia,us++[(u,t)],⟨_,rfl⟩,?_,?_,λz hz=>?_,by rw[Uj,hl];rfl,(s3.trans g4).put hrq⟩⟩)
   .rw[ah,show cI (us++[(u,t)])=cI us++[V.ref t]from Uq ..]
   .exact(hR.add g4 g3).put (g4 _ _ h3)
   .rcases Ul.mp hz with w|w
    .exact hg z w
    .rw[Ud.mp w];exact g1
  .obtain⟨us,o,x1,x2,x3,x4,x5⟩:=h;exact hK _ _ ⟨us,o,x1,x2,x3,by lia,x5⟩
 rintro _ H3 ⟨us,⟨o7,rfl⟩,h3,hR,hg,hl,s3⟩;have hS3:=s3.seq hS2;refine bC (λv H'=>∃(tq:XB)(ts:List ((Str×Str)×XB)),v=.ref tq/\xV ks ts/\ic H' ts/\H' tq=some (.lst (bT ts))/\aj H3 H') (λQ q=>?_) ?_
 .exact dZ (ae (aL (ae (aa rfl) (ae aq aw)) (λQ q=>⟨a,ns,8,rfl,hS3,by decide,q⟩)) (ae (aa rfl) aw)) ⟨_,kq,ks,rfl,ek.same s3,λtq ts H' g1 g2 g3 g4 g5=>q _ _ ⟨tq,ts,rfl,g1,g2,g4,g5⟩⟩
 rintro _ H4 ⟨tq,ts,rfl,tg,tp,et,s4⟩;have hS4:=s4.seq hS3;refine a8 (aL (ae (aa rfl) (ae aq aw)) (λQ q=>⟨a,ns,9,rfl,hS4,by decide,q⟩)) ?_;generalize cellAt ns 9=c9;refine gM λeq heq=>?_;have se:aj H4 (upd H4 eq (.lst [])):=(aj.refl H4).upd heq;obtain⟨n2,e2,hn3⟩:=m5 (ns:=[0,1,2,3,0,6]) (i:=c9 % 6) (by lia) (by show _<(6:Int);lia);have hn4:0<=n2/\n2<=6:=by simp only[T8,Uk,or_false]at hn3;lia
 have hpos:(0:Int)<((ks.map strV).length:Int):=by rw[T7];have:=ek.l1;lia
 refine cO (λσ' H'=>∃es:List ((Str×Str)×XB),(∃o7 o10,σ'=[oR a,oJ wi,oJ hi,oR d,oR kq,oJ c9,oR rq,o7,oR tq,oR eq,o10,none])/\H' eq=some (.lst (bT es))/\ic H' es/\(∀z∈es,z.1.1∈iD/\∃b∈ks,z.1.2=one b)/\es.length<=6/\aj H4 H') (λK' hK=>?_) ?_
 .refine lv n2 (λQ q=>wW jH (by decide) (λH'=>(aU (aa rfl) aq (by decide))) e2 q) (by lia) (by lia)
   (λi σ' H'=>∃es:List ((Str×Str)×XB),(∃o7 o10,σ'=[oR a,oJ wi,oJ hi,oR d,oR kq,oJ c9,oR rq,o7,oR tq,oR eq,o10,none])/\H' eq=some (.lst (bT es))/\ic H' es/\(∀z∈es,z.1.1∈iD/\∃b∈ks,z.1.2=one b)/\es.length=i/\aj H4 H')
   (λH' s=>⟨[],⟨_,_,rfl⟩,s _ _ ah,λ_ z=>(nomatch z),λ_ z=>(nomatch z),rfl,se.trans s⟩) ?_ (λσ' H' h=>?_)
  .rintro i _ H5 hi' ⟨es,⟨o7',o10,rfl⟩,h5,hP,hg5,hl5,s5⟩;show bg _ _ _ [oR a,oJ wi,oJ hi,oR d,oR kq,oJ c9,oR rq,oJ (0+(i:Int)),oR tq,oR eq,o10,none] H5;refine a8 (aL (ae (aa rfl) (ae (aa rfl) aw)) (λQ q=>⟨_,_,rfl,q⟩)) ?_;generalize mixed c9 (0+(i:Int))=mm;obtain⟨en,ee,he⟩:=w5 (ss:=iD) (i:=mm % 2) (by lia) (by show _<(2:Int);lia);have ek5:∀{H'},aj H5 H'->jI H' kq ks:=λz=>ek.same (((s3.trans s4).trans s5).trans z);obtain⟨kc,kcm,kce⟩:=(ek5 (aj.refl _)).pick (mm / 2);refine nT (aa rfl) ⟨_,h5⟩ (tupY (jp (kn jH (by decide) (λH'=>(aU (aa rfl) aq (by decide))) ee (λH6 s6=>gE (bf (aa rfl) (aU (bF (aa rfl) aq ⟨by decide,by decide⟩) (dt (aa rfl) (.inl (aO.of (ek5 s6).at_))) hpos) (.inl (aO.of (ek5 s6).at_)) kce) (AU ⟨by show 2<=fv;decide,λt ht=>?_⟩)))));have h56:=s6 _ _ h5;have s67:=s6.upd (o:=.tup [.str en,strV kc]) ht;refine⟨_,s67 _ _ h5,by rw[T7,hl5,P4];lia,es++[((en,one kc),t)],⟨_,_,rfl⟩,?_,(hP.add s67 ah).put (s67 _ _ h5),λz hz=>?_,by rw[Uj,hl5];rfl,(s5.trans s67).put heq⟩
   .rw[ah,show bT (es++[((en,one kc),t)])=bT es++[V.ref t]from Uq ..]
   .rcases Ul.mp hz with w|w
    .exact hg5 z w
    .rw[Ud.mp w];exact⟨he,kc,kcm,rfl⟩
  .obtain⟨es,o,x1,x2,x3,x4,x5⟩:=h;exact hK _ _ ⟨es,o,x1,x2,x3,by lia,x5⟩
 rintro _ H5 ⟨es,⟨o7',o10,rfl⟩,h5,hP,hg5,hl5,s5⟩;refine bC (λv H'=>∃st:Str,v=.str st/\st∈iN/\aj H5 H') (λQ q=>?_) ?_
 .obtain⟨n,e,hn⟩:=w5 (ss:=iN) (i:=c9 / 6 % 3) (by lia) (by show _<(3:Int);lia);exact kn jH (by decide) (λH'=>(aU (bF (aa rfl) aq ⟨by decide,by decide⟩) aq (by decide))) e (λH' s=>q _ _ ⟨n,rfl,hn,s⟩)
 rintro _ H6 ⟨st,rfl,hst,s6⟩;have s26:aj H2 H6:=((s3.trans s4).trans s5).trans s6;have ed6:=(s2.trans s26) _ _ ed;refine MF (HD (jp (HD (gE (aa rfl) (gE (aa rfl) (gE (aa rfl) (AU λx dx nx ndx ne=>?_)))))));refine⟨x,d,dx,wi,hi,hs,rfl,ah,by rw[au (ay ed6 nx),au (ay ed6 ndx)];exact ed6,w1,w8,h1,h8,gd,nd,ln,λhs' H7 pm O sb=>⟨rfl,?_⟩⟩;have s7:aj H6 H7:=pi (aj.refl H6) nx ndx sb;refine gE (aa rfl) (gE (aa rfl) (gE (aa rfl) (gE (aa rfl) (gE (aa rfl) (AU λg gx ng ngx nne=>?_)))));have sF:aj H7 (upd (upd H7 gx (.own g)) g (.ins cG gx [])):=((aj.refl H7).upd ngx).upd (by rw[au (Ne.symm nne)];exact ng);have ekF:=ek.same ((s26.trans s7).trans sF);have q3:=(((s4.trans s5).trans s6).trans s7).trans sF;have q4:=((s5.trans s6).trans s7).trans sF;have q5:=(s6.trans s7).trans sF;have mm:(ks.map one).map V.str=ks.map strV:=by rw[Uf];rfl
 have tln:∀z∈ts,z.1.1.length<=1000/\z.1.2.length<=1000:=λz hz=>by obtain⟨⟨a,_,e1⟩,b,_,e2⟩:=tg.kd z hz;rw[e1,e2];exact⟨iV a,iV b⟩
 have eln:∀z∈es,z.1.1.length<=1000/\z.1.2.length<=1000:=λz hz=>by obtain⟨e1,b,_,e2⟩:=hg5 z hz;rw[e2];exact⟨JW e1,iV b⟩
 refine⟨g,x,kq,rq,tq,eq,gx,ks.map one,cI us,bT ts,bT es,st,rfl,ah,by rw[mm];exact ekF.at_,q3 _ _ h3,q4 _ _ et,q5 _ _ h5,Jy ekF,IC (q3 _ _ h3) (hR.same q3) hg,AD (q4 _ _ et) (tp.same q4) tln,AD (q5 _ _ h5) (hP.same q5) eln,
  yZ ekF.at_ ek.ltr ek.nd ek.l1 ek.l6,yr (q3 _ _ h3) (hR.same q3) hg (by lia),ya (q4 _ _ et) (tp.same q4) tg,oX (q5 _ _ h5) (hP.same q5) (λz hz=>⟨(hg5 z hz).1,?_⟩) hl5,hst,(by decide:∀s∈iN,s.length<=1000) st hst,λH8 G sb'=>⟨rfl,?_⟩⟩
 .obtain⟨b,hb,e2⟩:=(hg5 z hz).2;exact T9.mpr ⟨b,hb,e2.symm⟩
 .rw[mm]at G;have s8:aj H7 H8:=pi (aj.refl H7) ng ngx sb';have t3:=(((s4.trans s5).trans s6).trans s7).trans s8;have t4:=((s5.trans s6).trans s7).trans s8;have t5:=(s6.trans s7).trans s8;exact k g x kq wi hi hs' ks us ts es st H8 ⟨G,O.same s8,ek.ltr,ek.l1,ek.l6,ek.nd,hR.same t3,hl,hg,tp.same t4,tg,hP.same t5,hl5,hg5,hst⟩ (by rw[pm.length_eq];exact l2) (by rw[pm.length_eq];exact ln) (((s1.trans s2).trans s3).trans t3)
end
theorem HC{xs:List V}{i:Int}(h0:0<=i)(h1:i<xs.length):∃v,jd xs i=some v/\v∈xs:=by obtain⟨v,e1,e2⟩:=B5 (xs:=xs) h0 h1;exact⟨v,e1,Us e2⟩
def zW(K:Frag)(cB cG:XB):Sp:=λvs H Q _=>∃(a g b:XB)(ns:List Int)(st:Int)(wi hi:Int)(hs:List Int)(ks:List Nat)(rs ts es:List V)(sw:Str),vs=[.ref a,.ref g,.int st]/\aO K H a (ns.map V.int)/\0<=st/\st<=100/\gT cG H g b (ks.map strV) rs ts es sw/\cr K cB H b wi hi hs/\(∀k∈ks,rT k)/\1<=ks.length/\ks.length<=6/\(hs.length:Int)<wi*hi/\
 ∀(z:Str)(H':Hp),z.length=(wi*hi).toNat->(∀(s c:Nat),z.cps.toList[s]? =some c->lP ks c (if(s:Int)∈hs then 35 else 46)=true)->aj H H'->Q (.str z) H'
theorem JA{cs:List Nat}(h:H d=some (.lst (cs.map strV)))(hl:cs.length<=1000)(q:Q (.str ⟨cs.toArray⟩) H):t7 K (.str "") [.ref d] H Q:=by
 rw[An];refine⟨cs.map one,aO.of (by rw[Uf];exact h),?_,?_⟩
 .rw[Uf];have es:∀l:List Nat,(l.map ((λx:Str=>x.length)∘one)).sum=l.length:=λl=>by
   induction l with
   |nil=>rfl
   |cons a r ih=>rw[Uw,List.sum_cons,ih,Ut];show 1+r.length=_;lia
  have ez:("":Str).length=0:=by decide+kernel
  have hz:fv=fv:=rfl;rw[es,ez];show cs.length+(cs.map one).length*0<=16777216;lia
 .rw[y4];exact q
theorem zi(F:List Int)(lo hi:Option Int):∃ss:List Int,cutV (F.map V.int) lo hi=ss.map V.int/\(∀s∈ss,s∈F)/\ss.length<=F.length:=by
 refine⟨(F.drop (HT.sIx (F.map V.int).length 0 lo)).take (HT.sIx (F.map V.int).length (F.map V.int).length hi - HT.sIx (F.map V.int).length 0 lo),?_,λs hs=>VE (UO hs),?_⟩
 .unfold cutV;rw[UY,List.map_drop]
 .rw[Uu,U8];lia
def gI(F:List Int)(x:V):Int:=F.getD (match x with| .int i=>(i % (F.length:Int)).toNat|_=>0) 0
theorem Ny(h:0<F.length)(x:V):gI F x∈F:=by
 have key:∀j,j<F.length->F.getD j 0∈F:=λj hj=>by rw[Ug,Ua hj];exact Uv _
 unfold gI;cases x with
 |int i=>
  have h0:=Wb i (by lia:(F.length:Int)≠0);have h1:=Wc i (by lia:(0:Int)<F.length);refine key _ ?_;dsimp only;lia
 |_=>exact key _ h
theorem Nz{F:List Int}(h:0<F.length)(i:Int):jd (F.map V.int) (i % ((F.map V.int).length:Int))=some (.int (gI F (.int i))):=by
 rw[T7];have h0:=Wb i (by lia:(F.length:Int)≠0);have h1:=Wc i (by lia:(0:Int)<F.length);obtain⟨v,e1,e2⟩:=B5 (xs:=F.map V.int) h0 (by rw[T7];exact h1);rw[e1];rw[Ub]at e2;unfold gI;dsimp only;rw[Ug];cases e:F[(i % (F.length:Int)).toNat]? with
 |none=>rw[e]at e2;cases e2
 |some z=>rw[e]at e2;exact e2.symm
def bareL(n:Nat)(hs:List Int):List Nat:=(List.range n).map λ(s:Nat)=>if(s:Int)∈hs then 35 else 46
def Ht(hs:List Int):V->V
 | .int i=>strV (if i∈hs then 35 else 46)
 |_=>.non
section
theorem tN{f cB cG:XB}{fd:Qf}(F:cZ K "_law_row" "_law_row" cw f fd)(T:Txt mg aS aA aE aW)(B:kT K cB)(D:xW K cG)(C:LG1 P w K mg Px):bh P w K mg Px dm 2 f fd ["_law_script","_law_game_here","_law_start"] (zW K cB cG):=by
 refine F.ok1 bD λcdv A Py s H vs Q E hr h=>?_;obtain⟨a,g,b,ns,st,wi,hi,hs,ks,rs,ts,es,sw,rfl,hS,st0,st1,G,O,hlt,k1,k6,ln,q⟩:=h;have hu:=bZ hr;refine⟨_,(af (av 3 bD.nd (ak (cJ K (cJ K (cv 1))) (cJ K (cJ K (cv 1)))))
  (af (av 4 bD.nd (fQ (cc (N:=["_law_square","_law_game_here"]) (src:=[none,some 1]) (am cw) ["_law_script","_law_game_here","_law_start","_law_size","_law_free","_law_signs","_law_cell","_law_cells","_law_spots","_law_k","_law_square","_law_more","_law_kind"]) (Cf T.range (az (cv 3) pan)) (λ_ _ _=>(bo (i:=0) ["_law_square","_law_game_here"])) (λ_ _ _=>(iU (aN K hu (cv 0) (cJ K (cJ K (cv 1)))))) (λ_ _ _=>(cv 0))))
  (af (jl (i:=5) rfl (cc (N:=["_law_square","_law_game_here"]) (src:=[none,some 1]) (am cw) ["_law_script","_law_game_here","_law_start","_law_size","_law_free","_law_signs","_law_cell","_law_cells","_law_spots","_law_k","_law_square","_law_more","_law_kind"]) (Cf T.range (az (cv 3) pan)) (λ_ _ _=>(bo (i:=0) ["_law_square","_law_game_here"])) (λ_ _ _=>bP) (λ_ _ _=>(cj K aP (Cg pL rN T.int (az (ls K hu (cv 0) (cJ K (cJ K (cv 1)))) pan)))) bD.nd rfl (Or.inl rfl) rfl (Or.inl rfl))
  (af (av 6 bD.nd (aH C._law_cell_at hr (az (cv 0) (az (cv 2) pan))))
  (af (jl (i:=7) rfl (cc (N:=["_law_k","_law_script","_law_start"]) (src:=[none,some 0,some 2]) (am cw) ["_law_script","_law_game_here","_law_start","_law_size","_law_free","_law_signs","_law_cell","_law_cells","_law_spots","_law_k","_law_square","_law_more","_law_kind"]) (Cf T.range (az ag pan)) (λ_ _ _=>(bo (i:=0) ["_law_k","_law_script","_law_start"])) (λ_ _ _=>bP) (λ_ _ _=>(aH C._law_mixed hr (az (aH C._law_cell_at hr (az (cv 1) (az (ak (ak (cv 2) ag) (cv 0)) pan))) (az (cv 0) pan)))) bD.nd rfl (Or.inl rfl) rfl (Or.inl rfl))
  (af (jl (i:=8) rfl (cc (N:=["_law_more","_law_free"]) (src:=[none,some 4]) (am cw) ["_law_script","_law_game_here","_law_start","_law_size","_law_free","_law_signs","_law_cell","_law_cells","_law_spots","_law_k","_law_square","_law_more","_law_kind"]) (rS K (xm K (cv 7) dh (cD (ak ag (ak (cv 6) ag))))) (λ_ _ _=>(bo (i:=0) ["_law_more","_law_free"])) (λ_ _ _=>bP) (λ_ _ _=>(cj K (cv 1) (ak (cv 0) (kB (ib K) cb T.len (az (cv 1) pan))))) bD.nd rfl (Or.inl rfl) rfl (Or.inl rfl))
  (af (aY (aN K hu (ak (ak (cv 6) ag) ag) ag) (ao (av 8 bD.nd (xm K (cv 4) dh (cD ag)))) aG)
  (af (aY (aN K hu (ak (ak (cv 6) ag) ag) ag) (ao (av 8 bD.nd (bp pan))) aG)
  (af (fL Qj rfl (Bb K T.enumerate (cv 8)) (Nl K (n:=2) (cf (bA 9 bD.nd) (cf (bA 10 bD.nd) jn))) (af (av 11 bD.nd (ak (cj K (cv 7) (ak (cv 9) ag)) (ak ag (ak (cv 9) ag))))
  (af (av 12 bD.nd (cj K (cJ K (cv 1)) (ak (ak (cv 11) ag) (kB (ib K) cb T.len (az (cJ K (cv 1)) pan)))))
  (ao (vq (cj K (bp (az (nN PySem.F.slot_str_upper PySem.F.type_str_upper AY (cv 12)) (az (cv 12) pan))) (ak (ak (cv 11) ag) ag)) (IU (cv 5) (cv 10) Ad))))))
  (ao (aC (ksm PySem.F.slot_str_join PySem.F.type_str_join (Nk K) aP (az (cv 5) pan))))))))))))),?_⟩
 show bg _ _ _ [oR a,oR g,oJ st,none,none,none,none,none,none,none,none,none,none] H;have mm:=O.many;have w1:=O.w1;have w8:=O.w8;have fb:∀(H':Hp)(σ:St)(j:Nat),σ[j]? =some (some (V.ref g))->aj H H'->Ev (B0 K (ci j) "board") σ H' (.ref b):=λH' σ j h s=>bq (aa h) ((G.same s).board D);refine a8 (eZ (bq (fb H _ 1 rfl (aj.refl H)) (O.wide B)) (bq (fb H _ 1 rfl (aj.refl H)) (O.high B)) (.inl ⟨by lia,by lia⟩)) ?_;obtain⟨hq,fh,eh⟩:=O.holes B;refine bC (λv H'=>∃fq,v=.ref fq/\H' fq=some (.lst ((fR wi hi hs).map V.int))/\aj H H') (λQ q=>?_) ?_
 .refine kF (n:=wi*hi) (rest:=[oR g]) (ae (aa rfl) aw) (by lia) (by rw[P4];lia) (by lia) rfl (Bt hs) (λv=>v) (λi hi=>?_) (λi hi _=>aa rfl) (λq' hq'=>?_)
  .exact aX (vX (aa rfl) (bq (fb H _ 1 rfl (aj.refl H)) fh) (.inl (aO.of eh)))
  .rw[vV];exact q _ _ ⟨q',rfl,ah,(aj.refl H).upd hq'⟩
 rintro _ H1 ⟨fq,rfl,ef,s1⟩;obtain⟨hq1,fh1,eh1⟩:=(O.same s1).holes B;refine bC (λv H'=>∃sq,v=.ref sq/\H1 sq=none/\H' sq=some (.lst ((bareL (wi*hi).toNat hs).map strV))/\aj H1 H') (λQ q=>?_) ?_
 .refine kF (n:=wi*hi) (rest:=[oR g]) (ae (aa rfl) aw) (by lia) (by rw[P4];lia) (by lia) rfl (λ_=>true) (Ht hs) (λi hi=>dH) (λi hi' _=>?_) (λq' hq'=>?_)
  .have e:strV (if decide (0+(i:Int)∈hs)=true then 35 else 46)=Ht hs (.int (0+(i:Int))):=by
    show _=strV (if 0+(i:Int)∈hs then 35 else 46)
    by_cases m:0+(i:Int)∈hs
    .rw[PF m,PF (Pz m)]
    .rw[PD m,PB m];rfl
   rw[<-e];exact cC aq (xC (BD (aa rfl) (bq (fb H1 _ 1 rfl s1) fh1) (.inl (aO.of eh1)))) (by decide) (NH _)
  .refine q _ _ ⟨q',rfl,hq',?_,(aj.refl H1).upd hq'⟩;rw[ah,UE.mpr (λ_ _=>rfl),Uf];unfold bareL;rw[Uf];congr 2;refine UG λi _=>?_;show strV (if 0+(i:Int)∈hs then 35 else 46)=strV (if(i:Int)∈hs then 35 else 46);rw[We]
 rintro _ H2 ⟨sq,rfl,sqn,esq,s2⟩;have s02:=s1.trans s2;refine a8 (aL (sp:=jZ K) (ae (aa rfl) (ae (aa rfl) aw)) (λQ q=>⟨a,ns,st,rfl,s02.seq hS,st0,q⟩)) ?_;generalize cellAt ns st=c;refine bC (λv H'=>∃(cq:XB)(cs:List Int),v=.ref cq/\H' cq=some (.lst (cs.map V.int))/\cs.length=6/\aj H2 H') (λQ q=>?_) ?_
 .refine kF (n:=6) (rest:=[oR a,oJ st]) (ae aq aw) (by lia) (by decide) (by decide) rfl (λ_=>true) (λx=>match x with| .int i=>.int (mixed (cellAt ns (st+1+i)) i)|_=>.non) (λi hi=>dH) (λi hi' _=>?_) (λq' hq'=>?_)
  .exact aL (sp:=pX) (ae (aL (sp:=jZ K) (ae (aa rfl) (ae (bG (bG (aa rfl) aq) (aa rfl)) aw)) (λQ q=>⟨a,ns,_,rfl,s02.seq hS,by lia,q⟩)) (ae (aa rfl) aw)) (λQ q=>⟨_,_,rfl,q⟩)
  .refine q _ _ ⟨q',(List.range 6).map λ(i:Nat)=>mixed (cellAt ns (st+1+(0+(i:Int)))) (0+(i:Int)),rfl,?_,by rw[T7,UH],(aj.refl H2).upd hq'⟩;rw[ah,UE.mpr (λ_ _=>rfl),Uf,Uf];rfl
 rintro _ H3 ⟨cq,cs,rfl,ecs,l6,s3⟩;have s03:=s02.trans s3;have esq3:=s3 _ _ esq;have ef3:=(s2.trans s3) _ _ ef;have fpos:=zd ln;show bg _ _ _ [oR a,oR g,oJ st,oJ (wi*hi),oR fq,oR sq,oJ c,oR cq,none,none,none,none,none] H3;have flen:(fR wi hi hs).length<=64:=by unfold fR;have:=UN (λi=> !decide (i∈hs)) ((List.range (wi*hi).toNat).map λ(i:Nat)=>(i:Int));rw[T7,UH]at this;lia
 have nsq:∀p,H3 p=none->p≠sq:=λp hp e=>by rw[e,esq3]at hp;cases hp
 refine bC (λv H'=>∃(pq:XB)(ss:List Int),v=.ref pq/\H' pq=some (.lst (ss.map V.int))/\pq≠sq/\(∀s∈ss,s∈fR wi hi hs)/\ss.length<=64/\aj H3 H') (λQ q=>?_) ?_
 .refine oU (lo:=none) (hi:=some (1+c % 6)) (aa rfl) (λQ q=>q) (λQ q=>vW (bG aq (aU (aa rfl) aq (by decide))) q) (aO.of ecs) (λp hp=>?_);have s4:=(aj.refl H3).upd (o:=.lst (cutV (cs.map V.int) none (some (1+c % 6)))) hp;have cl:(cutV (cs.map V.int) none (some (1+c % 6))).length<=6:=by have:=lO (cs.map V.int) none (some (1+c % 6));rw[T7]at this;lia
  have ef4:aO K _ fq ((fR wi hi hs).map V.int):=aO.of (s4 _ _ ef3);refine gJ (tl:=tC (.ref p)) (d:=p) (xs:=cutV (cs.map V.int) none (some (1+c % 6))) (rest:=[oR fq]) aq (aO.of ah) (by rw[P4];lia) rfl (λ_=>true) (λx=>.int (gI (fR wi hi hs) x)) (λx hx=>dH) (λx hx _=>?_) (λp2 hp2=>?_)
  .obtain⟨i,_,rfl⟩:=T9.mp (BM hx);exact bf (aa rfl) (aU (aa rfl) (dt (aa rfl) (.inl ef4)) (by rw[T7];lia)) (.inl ef4) (Nz fpos i)
  .refine q _ _ ⟨p2,(cutV (cs.map V.int) none (some (1+c % 6))).map (gI (fR wi hi hs)),rfl,?_,nsq _ (s4.free hp2),λs hs'=>?_,by rw[T7];lia,s4.upd hp2⟩
   .rw[ah,UE.mpr (λ_ _=>rfl),Uf];rfl
   .obtain⟨x,_,rfl⟩:=T9.mp hs';exact Ny fpos x
 rintro _ H4 ⟨pq,ss,rfl,epq,npq,hss,lss,s4⟩;show bg _ _ _ [oR a,oR g,oJ st,oJ (wi*hi),oR fq,oR sq,oJ c,oR cq,oR pq,none,none,none,none] H4;have ef4:=s4 _ _ ef3;refine il (λσ' H'=>∃(pq:XB)(ss:List Int),σ'=[oR a,oR g,oJ st,oJ (wi*hi),oR fq,oR sq,oJ c,oR cq,oR pq,none,none,none,none]/\H' pq=some (.lst (ss.map V.int))/\pq≠sq/\(∀s∈ss,s∈fR wi hi hs)/\ss.length<=64/\aj H3 H') ?_ (λgo=>?_)
 rotate_left
 .refine aT (aX (dY (aU (bF (aa rfl) aq ⟨by decide,by decide⟩) aq (by decide)) aq)) (λ_=>?_) (λ_=>go _ _ ⟨pq,ss,rfl,epq,npq,hss,lss,s4⟩);obtain⟨ss2,e2,h2,l2⟩:=zi (fR wi hi hs) none (some 12);exact nR (oU (lo:=none) (hi:=some 12) (aa rfl) (λQ q=>q) (λQ q=>vW aq q) (aO.of ef4) (λp hp=>go _ _ ⟨p,ss2,rfl,by rw[ah,e2],nsq _ (s4.free hp),h2,by lia,s4.upd hp⟩))
 rintro _ H4 ⟨pq,ss,rfl,epq,npq,hss,lss,s4⟩;refine il (λσ' H'=>∃(pq:XB)(ss:List Int),σ'=[oR a,oR g,oJ st,oJ (wi*hi),oR fq,oR sq,oJ c,oR cq,oR pq,none,none,none,none]/\H' pq=some (.lst (ss.map V.int))/\pq≠sq/\(∀s∈ss,s∈fR wi hi hs)/\ss.length<=64/\aj H3 H') ?_ (λgo=>?_)
 rotate_left
 .refine aT (aX (dY (aU (bF (aa rfl) aq ⟨by decide,by decide⟩) aq (by decide)) aq)) (λ_=>?_) (λ_=>go _ _ ⟨pq,ss,rfl,epq,npq,hss,lss,s4⟩);exact nR (lM (jD ⟨VQ _,λp hp=>go _ _ ⟨p,[],rfl,ah,nsq _ (s4.free hp),λs hs=>(by cases hs),VQ _,s4.upd hp⟩⟩))
 rintro _ H4 ⟨pq,ss,rfl,epq,npq,hss,lss,s4⟩;have esq4:=s4 _ _ esq3;have hsn:H sq=none:=s1.free sqn;have s04:=s03.trans s4;have back:∀H',SameBut sq H4 H'->aj H H':=λH' sb d o e=>sb d o (s04 d o e) (λz=>by rw[z,hsn]at e;cases e);have ncq:cq≠sq:=λz=>by
  have h1:H3 sq=some (.lst (cs.map V.int)):=z▸ecs;rw[esq3]at h1;have h2:(bareL (wi*hi).toNat hs).map strV=cs.map V.int:=by injection h1 with h1;injection h1
  cases cs with
  |nil=>simp at l6
  |cons x r=>
   cases hb:bareL (wi*hi).toNat hs with
   |nil=>rw[hb]at h2;cases h2
   |cons y r2=>rw[hb]at h2;injection h2 with h2 _;cases h2
 refine cO (λσ' H'=>∃(zs:List Nat)(o9 o10 o11 o12:Option V),σ'=[oR a,oR g,oJ st,oJ (wi*hi),oR fq,oR sq,oJ c,oR cq,oR pq,o9,o10,o11,o12]/\H' sq=some (.lst (zs.map strV))/\zs.length=(wi*hi).toNat/\(∀(s c:Nat),zs[s]? =some c->lP ks c (if(s:Int)∈hs then 35 else 46)=true)/\SameBut sq H4 H') (λK' hK=>?_) ?_
 .refine ue (λq' H'=>q'=pq/\H'=H4) (λQ q=>vW (v:=.ref pq) (aa rfl) (q _ _ ⟨rfl,rfl⟩)) ?_;rintro q' H' ⟨rfl,rfl⟩;refine⟨ss.map V.int,aO.of epq,λi σ' H''=>∃(zs:List Nat)(o9 o10 o11 o12:Option V),σ'=[oR a,oR g,oJ st,oJ (wi*hi),oR fq,oR sq,oJ c,oR cq,oR q',o9,o10,o11,o12]/\H'' sq=some (.lst (zs.map strV))/\zs.length=(wi*hi).toNat/\(∀(s c:Nat),zs[s]? =some c->lP ks c (if(s:Int)∈hs then 35 else 46)=true)/\SameBut sq H' H'',
   ⟨bareL (wi*hi).toNat hs,_,_,_,_,rfl,esq4,?_,?_,SameBut.refl _⟩,?_,?_,?_⟩
  .unfold bareL;rw[T7,UH]
  .intro s c' h;unfold bareL at h;rw[Ub]at h;cases hr:(List.range (wi*hi).toNat)[s]? with
   |none=>rw[hr]at h;cases h
   |some s'=>
    rw[hr]at h;have e1:s'=s:=by have:=Um.mp hr;obtain⟨h1,h2⟩:=this;rw[List.getElem_range]at h2;exact h2.symm
    subst e1;have h:(if(s':Int)∈hs then 35 else 46)=c':=by injection h
    rw[<-h];unfold lP
    by_cases m:(s':Int)∈hs
    .rw[PF m];rfl
    .rw[PD m,PD (by decide)];exact Pz (.inl rfl)
  .rintro i σ' H'' ⟨_,_,_,_,_,_,_,_,_,sb⟩;exact aO.of (sb _ _ epq npq)
  .rintro i x _ H5 t hx ⟨zs,o9,o10,o11,o12,rfl,e5,lz,gz,sb⟩ nt;obtain⟨z,hz,rfl⟩:=T9.mp (Us hx);refine Bk ah ?_;obtain⟨z0,z1,z2⟩:=Bu (hss z hz);have s6:=(aj.refl H5).upd (o:=.tup [.int (i:Int),.int z]) nt;generalize upd H5 t (HO.tup [V.int (i:Int),V.int z])=H6 at s6;have sb6:SameBut sq H' H6:=sb.trans s6.but;have ecs6:aO K H6 cq (cs.map V.int):=aO.of (sb6 _ _ (s4 _ _ ecs) ncq);have s06:=back H6 sb6;have e6:=s6 _ _ e5;show bg _ _ _ [oR a,oR g,oJ st,oJ (wi*hi),oR fq,oR sq,oJ c,oR cq,oR q',oJ (i:Int),oJ z,o11,o12] H6;obtain⟨n1,en1,_⟩:=m5 (ns:=cs) (i:=(i:Int) % 6) (by lia) (by lia);refine a8 (bG (bf (aa rfl) (aU (aa rfl) aq (by decide)) (.inl ecs6) en1) (eZ aq (bF (aa rfl) aq ⟨by decide,by decide⟩) (.inl ⟨by decide,by decide⟩))) ?_;generalize n1+4099*((i:Int) / 6)=more;obtain⟨kq,fk,ek⟩:=(G.same s06).kinds D;have kpos:(0:Int)<((ks.map strV).length:Int):=by rw[T7];lia
   obtain⟨kv,ekv,mkv⟩:=HC (xs:=ks.map strV) (i:=more / 64 % ((ks.map strV).length:Int)) (Wb _ (by lia)) (Wc _ kpos);obtain⟨k,hk,rfl⟩:=T9.mp mkv;refine a8 (bf (bq (aa rfl) fk) (aU (bF (aa rfl) aq ⟨by decide,by decide⟩) (dt (bq (aa rfl) fk) (.inl (aO.of ek))) kpos) (.inl (aO.of ek)) ekv) ?_;show tAsg _ _ _ [some (.ref a),some (.ref g),some (.int st),some (.int (wi*hi)),some (.ref fq),some (.ref sq),some (.int c),some (.ref cq),some (.ref q'),some (.int (i:Int)),some (.int z),some (.int more),some (strV k)] H6;obtain⟨v,ev,mv⟩:=HC (xs:=[strV (k - 32),strV k]) (i:=more / 512 % 2) (by lia) (by show _<(2:Int);lia);refine MW (l:=sq) (i:=z) (P:=λv H'=>aj H6 H'/\∃c,v=strV c/\(c∈ks\/c∈ks.map (· - 32))) (λQ q=>kn (ae (NC (aa rfl) (hlt k hk)) (ae (aa rfl) aw)) (by show 2<=1000;decide) (λH'=>(aU (bF (aa rfl) aq ⟨by decide,by decide⟩) aq (by decide))) ev (λH' s=>q _ _ ⟨s,?_⟩)) (λu H7 h=>?_)
   .simp only[T8,Uk,or_false]at mv
    rcases mv with rfl|rfl
    .exact⟨_,rfl,.inr (T9.mpr ⟨k,hk,rfl⟩)⟩
    .exact⟨_,rfl,.inl hk⟩
   .obtain⟨s7,c',rfl,hc'⟩:=h;refine⟨aa rfl,aa rfl,zs.map strV,s7 _ _ e6,z0,by rw[T7];lia,zs.set z.toNat c',_,_,_,_,rfl,?_,by rw[List.length_set];exact lz,λs c2 h2=>?_,(sb6.trans s7.but).self⟩
    .rw[ah,List.map_set]
    .by_cases hs2:s=z.toNat
     .subst hs2;rw[Vh (by lia)]at h2;cases h2;rw[PD (by rw[Wk z0];exact z2)];unfold lP;rw[PD (by decide)];exact Pz (.inr hc')
     .rw[Vi (λe=>hs2 e.symm)]at h2;exact gz s c2 h2
  .rintro σ' H'' h;exact hK _ _ h
 rintro _ H5 ⟨zs,o9,o10,o11,o12,rfl,e5,lz,gz,sb⟩;show cL _ _ [oR a,oR g,oJ st,oJ (wi*hi),oR fq,oR sq,oJ c,oR cq,oR pq,o9,o10,o11,o12] H5;refine ME aq (vW (aa rfl) (JA e5 (by lia) (q _ _ ?_ (λs c' h=>gz s c' h) (back _ sb))));show zs.toArray.size=_;rw[Uc];exact lz
end
section
theorem q9(F:cZ K "_law_side" "_law_side" fH f fd)(T:Txt mg aS aA aE aW):bh P w K mg Px dm 1 f fd ["_law_sign"] jY:=by
 refine F.ok1 qo λcdv A Py s H vs Q E hr h=>?_;obtain⟨c,rfl,hc,k⟩:=h;have hu:=bZ hr;refine⟨_,(af (aY (PW.pt (fP (aN K hu (cv 0) aP) (eP (aN K hu (cv 0) aP)))) (ao (aC dq)) aG)
  (ao (aC (Cg pL rN T.int (az (ls K hu (cv 0) aP) pan))))),?_⟩
 show bg _ _ _ [oT (one c)] H;have e1:(one c=".")<->c=46:=⟨λz=>ke (b:=46) (z.trans (by decide+kernel)),λz=>by rw[z];decide+kernel⟩;have e2:(one c="#")<->c=35:=⟨λz=>ke (b:=35) (z.trans (by decide+kernel)),λz=>by rw[z];decide+kernel⟩;unfold bX at k;refine aT (iy (aX (dN (aa rfl) aq)) (λ_=>(aX (dN (aa rfl) aq)))) (λh=>?_) (λh=>?_)
 .refine aK aq ?_;rw[PF]at k
  .exact k
  .rw[Wy]at h;exact h.imp (λz=>e1.mp (PH z)) (λz=>e2.mp (PH z))
 .rw[WD]at h;have n1:¬c=46:=λz=>PJ h.1 (e1.mpr z);have n2:¬c=35:=λz=>PJ h.2 (e2.mpr z);rw[PD (by lia)]at k;refine aK (xC (JU (aa rfl) aq)) ?_;have:(if decide (c∈("abcdefghijklmnopqrstuvwxyz":Str).cps.toList)=true then(1:Int)else 0)=if 65<=c/\c<=90 then 0 else 1:=by
   unfold Sg at hc
   by_cases z:rT c
   .rw[PF (Pz (xS.mpr z)),PD (by unfold rT at z;lia)]
   .rw[PD (by rw[PB (λw=>z (xS.mp w))];decide),PF (by unfold rT at z;lia)]
  rw[this];exact k
theorem qZ{f cB cG:XB}{fd:Qf}(F:cZ K "_law_step" "_law_step" fG f fd)(B:kT K cB)(D:xW K cG):bh P w K mg Px dm 1 f fd ["_law_game_here","_law_square","_law_across","_law_up"] (me K cB cG):=by
 refine F.ok1 fV λcdv A Py s H vs Q E hr h=>?_;obtain⟨g,b,wi,hi,sq,ax,up,hs,ks,rs,ts,es,st,rfl,G,O,k⟩:=h;have hu:=bZ hr;have w1:=O.w1;have w8:=O.w8;have fb:=G.board D;have fw:=O.wide B;have fh:=O.high B;obtain⟨hq,fq,eq⟩:=O.holes B;refine⟨_,(af (av 4 fV.nd (ak (ak (cv 1) (cJ K (cJ K (cv 0)))) (cv 2)))
  (af (av 5 fV.nd (ak (ak (cv 1) (cJ K (cJ K (cv 0)))) (cv 3)))
  (af (aY (PW.pt (fP (bO (mn K hu ag (cv 4) (cJ K (cJ K (cv 0))))) (eP (bO (mn K hu ag (cv 5) (cJ K (cJ K (cv 0)))))))) (ao (aC dq)) aG)
  (af (av 6 fV.nd (ak (ak (cv 5) (cJ K (cJ K (cv 0)))) (cv 4)))
  (ao (aC (eQ (aN K hu (cv 6) (cJ K (cJ K (cv 0)))) dq (cv 6)))))))),?_⟩
 show bg _ _ _ [oR g,oJ sq,oJ ax,oJ up,none,none,none] H;refine a8 (bG (aU (aa rfl) (bq (bq (aa rfl) (fb)) (fw)) (by lia)) (aa rfl)) ?_;refine a8 (bG (bF (aa rfl) (bq (bq (aa rfl) (fb)) (fw)) (⟨by lia,by lia⟩)) (aa rfl)) ?_;unfold Kl at k;generalize hc:sq % wi+ax=c at k;generalize hr':sq / wi+up=r at k;refine aT (iy (ck (l9 aq (aa rfl) (λ_=>(bq (bq (aa rfl) (fb)) (fw))))) (λ_=>(ck (l9 aq (aa rfl) (λ_=>(bq (bq (aa rfl) (fb)) (fh))))))) (λh=>?_) (λh=>?_)
 .refine aK aq ?_;rw[PD (λz=>by rw[Pz (⟨z.1,z.2.1⟩:0<=c/\c<wi),Pz (⟨z.2.2.1,z.2.2.2⟩:0<=r/\r<hi)]at h;cases h)]at k;exact k
 .have hcr:(0<=c/\c<wi)/\0<=r/\r<hi:=by simpa using h
  rw[PF ⟨hcr.1.1,hcr.1.2,hcr.2.1,hcr.2.2⟩]at k;have m1:r*wi<=8*8:=Wf (by have:=O.h8;lia) w8 (by lia) (by lia);refine a8 (bG (eZ (aa rfl) (bq (bq (aa rfl) (fb)) (fw)) (.inr ⟨by lia,by lia⟩)) (aa rfl)) ?_
  by_cases z:r*wi+c∈hs
  .rw[PF z]at k;exact oH (b:=decide (r*wi+c∈hs)) (aX (BD (aa rfl) (bq (bq (aa rfl) fb) fq) (.inl (aO.of eq)))) (λ_=>aq _ k) (λw=>PK z (PJ w))
  .rw[PD z]at k;exact oH (b:=decide (r*wi+c∈hs)) (aX (BD (aa rfl) (bq (bq (aa rfl) fb) fq) (.inl (aO.of eq)))) (λw=>PK (PH w) z) (λ_=>(aa rfl) _ k)
end
section
theorem l5{f cB cG:XB}{fd:Qf}(F:cZ K "_law_by_rule" "_law_by_rule" cV f fd)(C:CLb P w K mg Px cB cG):bh P w K mg Px dm 2 f fd ["_law_game_here","_law_row_here","_law_square","_law_rule_here"] (oS K cB cG):=by
 refine F.ok1 bJ λcdv A Py s H vs Q E hr h=>?_;obtain⟨g,b,r,row,sq,sd,wi,hi,hs,u,ks,rs,ts,es,st,rfl,G,B,hT,R,rl,s0,s1,hsd,sd2,n0,k⟩:=h;have hu:=bZ hr;have r64:=R.len;have w1:=B.w1;obtain⟨x1,x2⟩:=R.toRowS.at s0 (by lia);have xs:Sg (row.cps.toList.getD sq.toNat 0):=by obtain⟨j,_,e,_⟩:=jt x1;exact R.sg _ (Us e)
 have dy0:¬(u.ax=0/\u.dy sd=0):=λz=>n0 ⟨z.1,by have:=z.2;unfold bj.dy at this;split at this<;>lia⟩;obtain⟨n,ry,n8⟩:=IF (hs:=hs) B.w8 B.h8 B.w1 s0 s1 dy0;have T1:∀{H'},aj H H'->da K H' r u.vs:=λz=>aj.tupY z hT;have m0:=Wb sq (by lia:wi≠0);have m1:=Wc sq (by lia:0<wi);refine⟨_,(af (av 4 bJ.nd (aH C._law_side hr (az (cj K (cv 1) (cv 2)) pan)))
  (af (av 5 bJ.nd (cj K (cv 3) ag))
  (af (av 6 bJ.nd (cj K (bp (az (cj K (cv 3) ag) (az (jQ (cj K (cv 3) ag)) pan))) (cv 4)))
  (af (av 7 bJ.nd (aH C._law_step hr (az (cv 0) (az (cv 2) (az (cv 5) (az (cv 6) pan))))))
  (af (av 8 bJ.nd (bp pan))
  (af (aY (aN K hu (cj K (cv 3) ag) aP) (af (av 9 bJ.nd (eQ (aN K hu (cv 7) dq) dq (aH C._law_step hr (az (cv 0) (az (cv 7) (az (cv 5) (az (cv 6) pan)))))))
  (af (aY (PW.pt (gO (aN K hu (cv 9) dq) (gO (aN K hu (cj K (cv 1) (cv 9)) aP) (fW (aN K hu (aH C._law_side hr (az (cj K (cv 1) (cv 7)) pan)) (ak ag (cv 4))))))) (ao (dJ (gS (cv 8) (dn (az (cv 9) (az (cv 7) pan)))))) aG)
  (ao (aC (cv 8))))) aG)
  (af (mZ Qj (aN K hu (cv 7) dq) (af (aY (PW.pt (gO (aN K hu (cj K (cv 1) (cv 7)) aP) (fW (aN K hu (cj K (cv 3) ag) aP)))) (ao (dJ (gS (cv 8) (dn (az (cv 7) (az (jQ ag) pan)))))) aG)
  (af (aY (PW.pt (gO (aN K hu (aH C._law_side hr (az (cj K (cv 1) (cv 7)) pan)) (ak ag (cv 4))) (fW (aN K hu (cj K (cv 3) ag) aP)))) (ao (dJ (gS (cv 8) (dn (az (cv 7) (az (cv 7) pan)))))) aG)
  (af (aY (PW.pt (fP (aN K hu (cj K (cv 3) ag) aP) (eP (aN K hu (cj K (cv 1) (cv 7)) aP)))) (ao (aC (cv 8))) aG)
  (ao (av 7 bJ.nd (aH C._law_step hr (az (cv 0) (az (cv 7) (az (cv 5) (az (cv 6) pan)))))))))))
  (ao (aC (cv 8)))))))))),?_⟩
 show bg _ _ _ [oR g,oT row,oJ sq,oR r,none,none,none,none,none,none] H;refine a8 (v:=.int sd) (aL (ae (cC (aa rfl) (aa rfl) (by rw[P4];lia) x1) aw) (λQ q=>⟨_,rfl,xs,by rw[<-hsd]at q;exact q⟩)) ?_;refine a8 (v:=.int u.ax) (bf (aa rfl) aq (.inr hT) rfl) ?_;refine bC (λv H'=>v=.int (u.dy sd)/\aj H H') (λQ z=>?_) ?_
 .refine kn (v:=.int (u.dy sd)) (i:=sd) (ae (bf (x:=.int u.up) (aa rfl) aq (.inr hT) rfl) (ae (ja (bf (x:=.int u.up) (aa rfl) aq (.inr hT) rfl)) aw)) (by show 2<=1000;decide) (λH'=>aa rfl) ?_ (λH' s=>z _ _ ⟨rfl,s⟩)
  rcases sd2 with rfl|rfl
  .rfl
  .rfl
 rintro _ H1 ⟨rfl,q1⟩;have G1:=G.same q1;have B1:=B.same q1;generalize hdy:u.dy sd=dy at ry dy0;have step:∀(H':Hp),aj H H'->∀j:Nat,j<=n->∀Q:VK,Q (oI (rayL wi sq u.ax dy n)[j]?) H'->me K cB cG [.ref g,.int (mF wi sq u.ax dy j),.int u.ax,.int dy] H' Q E0:=λH' s j hj Q q=>by
  refine⟨g,b,wi,hi,_,u.ax,dy,hs,ks,rs,ts,es,st,rfl,G.same s,B.same s,?_⟩;rw[<-mV ry hj]at q;cases j with
  |zero=>rw[mj w1 (by simp;exact m0) (by simp;exact m1)];exact q
  |succ j=>
   obtain⟨a1,a2,_⟩:=ry.1 j (by lia);rw[mj w1 a1 a2];exact q
 have step0:∀(H':Hp),aj H H'->∀Q:VK,Q (oI (rayL wi sq u.ax dy n)[0]?) H'->me K cB cG [.ref g,.int sq,.int u.ax,.int dy] H' Q E0:=λH' s Q q=>by
  have z:=step H' s 0 (VQ _) Q q
  rwa[sA w1]at z
 refine a8 (v:=oI (rayL wi sq u.ax dy n)[0]?) (aL (ae (aa rfl) (ae (aa rfl) (ae (aa rfl) (ae (aa rfl) aw)))) (λQ q=>step0 H1 q1 Q q)) ?_;refine gM λq hq=>?_;have q2:aj H (upd H1 q (.lst [])):=q1.upd hq;have hqH:H q=none:=q1.free hq;have look:∀x∈rayL wi sq u.ax dy n,∃c,jd row.cps.toList x=some c/\Sg c/\sdV row x=bX c/\(one c="."<->sdV row x=.non):=λx hx=>by obtain⟨a1,a2,a3⟩:=qu w1 ry x hx;exact R.look a1 (by lia) a3
 have lead:fO wi hi hs row sq sd u (rK row sd u.so u.ai (rayL wi sq u.ax dy n)):=⟨n,by rw[hdy];exact ry,n8,by rw[hdy]⟩;refine aT (b:=decide (u.so="jump")) (aX (dN (bf (x:=.str u.so) (aa rfl) aq (.inr (T1 q2)) rfl) aq)) (λh=>?_) (λh=>?_)
 .have h:=PH h;have fin:∀H':Hp,bB H H' q (jumpL row sd (rayL wi sq u.ax dy n))->aj H H'->Q (.ref q) H':=λH' hP s=>k _ q _ lead hqH (by unfold rK;rw[PF h];exact hP) s;generalize hpath:rayL wi sq u.ax dy n=path at look fin step
  match path,look,fin,step,hpath with
  | [],look,fin,step,hpath=>
    refine a8 (v:=.non) (λQ z=>oH (b:=true) (aX (Dw (aa rfl) aq)) (λ_=>aq _ z) (λw=>nomatch w)) ?_;refine aT (b:=false) (λQ z=>(aX (gD (aa rfl) aq)) _ (gF z)) (λw=>nomatch w) λ_=>?_;exact aK (aa rfl) (fin _ (bB.nil.from q1) q2)
  |x::rest,look,fin,step,hpath=>
   have e0:mF wi sq u.ax dy 1=x:=by
    have:(rayL wi sq u.ax dy n)[0]? =some x:=by rw[hpath];rfl
    rw[<-mV ry (VQ _)]at this;split at this
    .exact PL this
    .cases this
   have n1:1<=n:=by have:=PM List.length hpath;rw[hU]at this;simp at this;lia
   obtain⟨cx,cx1,cx2,cx3,cx4⟩:=look x Ui;refine a8 (v:=oI rest[0]?) (λQ z=>oH (b:=false) (aX (Dx (aa rfl) aq)) (λw=>nomatch w) (λ_=>(aL (x:=oI rest[0]?) (ae (aa rfl) (ae (aa rfl) (ae (aa rfl) (ae (aa rfl) aw)))) (λQ' z'=>?_)) _ z)) ?_
   .have w:=step _ q2 1 n1 Q' (by simpa using z');rw[e0]at w;exact w
   match rest,look,fin with
   | [],look,fin=>
     refine aT (b:=false) (λQ z=>(aX (gD (aa rfl) aq)) _ (gF z)) (λw=>nomatch w) λ_=>?_;exact aK (aa rfl) (fin _ (bB.nil.from q1) q2)
   |y::rest',look,fin=>
    obtain⟨cy,cy1,cy2,cy3,cy4⟩:=look y (by simp);refine aT (b:=true&&(decide (one cy=".")&&decide (bX cx=.int (1 - sd)))) (ii (aX (ir (aa rfl) aq)) (λ_=>ii (aX (dN (cC (aa rfl) (aa rfl) (by rw[P4];lia) cy1) aq)) (λ_=>aX (uf (ae (cC (aa rfl) (aa rfl) (by rw[P4];lia) cx1) aw) cx2 (iZ aq (aa rfl)))))) (λh2=>?_) (λh2=>?_)
    .rw[Ww,Ws]at h2;refine nT (aa rfl) ⟨_,ah⟩ (iM (x:=.int y) (y:=.int x) (aa rfl) (aa rfl) λt ht=>?_);have nt:q≠t:=λz=>by rw[<-z,ah]at ht;cases ht
     refine⟨[],by rw[au nt];exact ah,by show 0<fv;decide,?_⟩;dsimp only;refine aK (v:=.ref q) (aa rfl) (fin _ ?_ ((q2.upd ht).put hqH));show bB H _ q (if sdV row x=.int (1 - sd)/\sdV row y=.non then [(y,x)]else []);rw[PF ⟨cx3.trans (PH h2.2),cy4.mp (PH h2.1)⟩];exact bB.add (l:=[]) (ps:=[]) rfl ah (λ_ z=>nomatch z) q2 ht
    .refine aK (aa rfl) (fin _ ?_ q2);show bB H _ q (if sdV row x=.int (1 - sd)/\sdV row y=.non then [(y,x)]else []);rw[PD (λz=>by
      rw[Pz (cy4.mpr z.2),Pz (cx3.symm.trans z.1)]at h2;cases h2)]
     exact bB.nil.from q1
 .have h:=PJ h;have fin:∀H':Hp,bB H H' q (dk row sd u.ai (if u.so="leap"then(rayL wi sq u.ax dy n).take 1 else rayL wi sq u.ax dy n))->aj H H'->Q (.ref q) H':=λH' hP s=>k _ q _ lead hqH (by unfold rK;rw[PD h];exact hP) s;have pl:(rayL wi sq u.ax dy n).length=n:=hU;have sqj:∀(j:Nat) x,(rayL wi sq u.ax dy n)[j]? =some x->mF wi sq u.ax dy (j+1)=x/\j+1<=n:=λj x e=>by have hj:=(Um.mp e).1;rw[pl]at hj;rw[<-mV ry (by lia),PF (ry.1 j hj)]at e;exact⟨PL e,hj⟩
  generalize hpath:rayL wi sq u.ax dy n=path at look fin step pl sqj;refine⟨λm σ' H'=>∃(j:Nat)(l:List (Int×Int)),m=8 - j/\j<=n/\(u.so="leap"->j=0)/\σ'=[oR g,oT row,oJ sq,oR r,oJ sd,oJ u.ax,oJ dy,some (oI path[j]?),oR q,none]/\bB H H' q l/\l.length<=2*j/\l++dk row sd u.ai ((if u.so="leap"then path.take 1 else path).drop j)=dk row sd u.ai (if u.so="leap"then path.take 1 else path)/\aj H H',
   ⟨8,0,[],rfl,VQ _,λ_=>rfl,rfl,bB.nil.from q1,VQ _,rfl,q2⟩,?_⟩
  rintro m _ H2 ⟨j,l,rfl,hjn,hlp,rfl,⟨ps,p1,p2,p3⟩,ll,el,s2⟩;cases hx:path[j]? with
  |none=>
   have hj:n<=j:=by rw[VM,pl]at hx;exact hx
   refine(aX (gD (aa rfl) aq)) _ (gF ?_);dsimp only;refine aK (v:=.ref q) (aa rfl) (fin _ ?_ s2);have:(if u.so="leap"then path.take 1 else path).drop j=[]:=by
    rw[VN];split
    .rw[Uu];lia
    .lia
   rw[this]at el;rw[<-el];show bB H H2 q (l++[]);rw[Uo];exact⟨ps,p1,p2,p3⟩
  |some x=>
   obtain⟨ex,hj1⟩:=sqj j x hx;have hmem:=Us hx;obtain⟨c,c1,c2,c3,c4⟩:=look x hmem;have hdrop:(if u.so="leap"then path.take 1 else path).drop j=x::(if u.so="leap"then path.take 1 else path).drop (j+1):=by
    have hd:path.drop j=x::path.drop (j+1):=by have hj:=(Um.mp hx);rw[U0 hj.1,hj.2]
    by_cases lp:u.so="leap"
    .have:=hlp lp;subst this;rw[PF lp];cases path with
     |nil=>simp at hx
     |cons a b=>simp at hx;subst hx;rfl
    .rw[PD lp];exact hd
   rw[hdrop,Ab sd2,<-UX]at el;have al:=DR row sd u.ai x;refine(aX (ir (aa rfl) aq)) _ (iG ⟨_,λ_ _ h=>h,?_⟩);show bg _ _ _ [oR g,oT row,oJ sq,oR r,oJ sd,oJ u.ax,oJ dy,oJ x,oR q,none] H2;refine il (λσ' H'=>σ'=[oR g,oT row,oJ sq,oR r,oJ sd,oJ u.ax,oJ dy,oJ x,oR q,none]/\bB H H' q (l++oC row u.ai x)/\aj H H') ?_ (λgo=>?_)
   rotate_left
   .refine aT (b:=decide (one c=".")&& !decide (u.ai="hit")) (ii (aX (dN (cC (aa rfl) (aa rfl) (by rw[P4];lia) c1) aq)) (λ_=>aX (jP (bf (x:=.str u.ai) (aa rfl) aq (.inr (T1 s2)) rfl) aq))) (λh2=>?_) (λh2=>?_)
    .rw[Ws]at h2;refine nT (aa rfl) ⟨_,p2⟩ (iM (x:=.int x) (y:=.int (-1)) (aa rfl) (ja aq) λt ht=>?_);have nt:q≠t:=λz=>by rw[<-z,p2]at ht;cases ht
     have z1:=PM List.length p1;rw[T7,T7]at z1;refine⟨_,by rw[au nt];exact p2,by rw[T7,P4];lia,go _ _ ⟨rfl,?_,(s2.upd ht).put hqH⟩⟩;unfold oC;rw[PF ⟨c4.mp (PH h2.1),by simpa using h2.2⟩];exact bB.add p1 p2 p3 s2 ht
    .refine go _ _ ⟨rfl,?_,s2⟩;unfold oC;rw[PD (λz=>by rw[Pz (c4.mpr z.1),PB z.2]at h2;cases h2),Uo];exact⟨ps,p1,p2,p3⟩
   rintro _ H3 ⟨rfl,⟨ps3,p13,p23,p33⟩,s3⟩;refine il (λσ' H'=>σ'=[oR g,oT row,oJ sq,oR r,oJ sd,oJ u.ax,oJ dy,oJ x,oR q,none]/\bB H H' q (l++oC row u.ai x++rQ row sd u.ai x)/\aj H H') ?_ (λgo=>?_)
   rotate_left
   .refine aT (b:=decide (bX c=.int (1 - sd))&& !decide (u.ai="go")) (ii (aX (uf (ae (cC (aa rfl) (aa rfl) (by rw[P4];lia) c1) aw) c2 (iZ aq (aa rfl)))) (λ_=>aX (jP (bf (x:=.str u.ai) (aa rfl) aq (.inr (T1 s3)) rfl) aq))) (λh2=>?_) (λh2=>?_)
    .rw[Ws]at h2;refine nT (aa rfl) ⟨_,p23⟩ (iM (x:=.int x) (y:=.int x) (aa rfl) (aa rfl) λt ht=>?_);have nt:q≠t:=λz=>by rw[<-z,p23]at ht;cases ht
     have z1:=PM List.length p13;rw[T7,T7,Uj]at z1;refine⟨_,by rw[au nt];exact p23,by rw[T7,P4];lia,go _ _ ⟨rfl,?_,(s3.upd ht).put hqH⟩⟩;unfold rQ;rw[PF ⟨c3.trans (PH h2.1),by simpa using h2.2⟩];exact bB.add p13 p23 p33 s3 ht
    .refine go _ _ ⟨rfl,?_,s3⟩;unfold rQ;rw[PD (λz=>by rw[Pz (c3.symm.trans z.1),PB z.2]at h2;cases h2),Uo];exact⟨ps3,p13,p23,p33⟩
   rintro _ H4 ⟨rfl,hP4,s4⟩;rw[<-UX]at el;refine aT (b:=decide (u.so="leap")|| !decide (one c=".")) (iy (aX (dN (bf (x:=.str u.so) (aa rfl) aq (.inr (T1 s4)) rfl) aq)) (λ_=>aX (jP (cC (aa rfl) (aa rfl) (by rw[P4];lia) c1) aq))) (λh2=>?_) (λh2=>?_)
   .refine aK (v:=.ref q) (aa rfl) (fin _ ?_ s4);have:(if sdV row x=.non then dk row sd u.ai ((if u.so="leap"then path.take 1 else path).drop (j+1))else [])=[]:=by
     by_cases z:sdV row x=.non
     .rw[PF z];rw[Pz (c4.mpr z),Wv,Wx]at h2;have lp:=PH h2;have:(if u.so="leap"then path.take 1 else path).drop (j+1)=[]:=by rw[PF lp,VN,Uu];lia
      rw[this];rfl
     .rw[PD z]
    rw[this,Uo]at el;rw[<-el];exact hP4
   .rw[WD]at h2;have lp:=PJ h2.1;have z:sdV row x=.non:=c4.mp (by simpa using h2.2);rw[PF z]at el;refine jW (v:=oI path[j+1]?) (aL (ae (aa rfl) (ae (aa rfl) (ae (aa rfl) (ae (aa rfl) aw)))) (λQ' z'=>?_)) ?_
    .have w:=step _ s4 (j+1) hj1 Q' z';rw[ex]at w;exact w
    .refine⟨8 - (j+1),by lia,j+1,_,rfl,hj1,λw=>PK w lp,rfl,hP4,?_,el,s4⟩;rw[Uj,Uj];lia
end
section
theorem om{f cB cG:XB}{fd:Qf}(F:cZ K "_law_goals" "_law_goals" dg f fd)(T:Txt mg aS aA aE aW)(D:xW K cG)(C:CLs P w K mg Px cB cG):bh P w K mg Px dm 3 f fd ["_law_game_here","_law_row_here","_law_square"] (mI K cB cG):=by
 refine F.ok1 ft λcdv A Py s H vs Q E hr h=>?_;obtain⟨g,b,row,kd,sq,sd,wi,hi,hs,ks,ts,es,st,us,rfl,G,B,U,u12,un0,R,rl,s0,s1,hsd,sd2,hkd,few,k⟩:=h;have hu:=bZ hr;have r64:=R.len;have w1:=B.w1;obtain⟨x1,x2⟩:=R.toRowS.at s0 (by lia);have ekd:=Nn hkd;obtain⟨rq,fl,hrq⟩:=G.rules D;refine⟨_,(af (av 3 ft.nd (bp pan))
  (af (fL Qj rfl (rS K (cJ K (cv 0))) (bA 4 ft.nd) (ao (aY (aN K hu (cj K (cv 4) ag) (nN PySem.F.slot_str_lower PySem.F.type_str_lower AZ (cj K (cv 1) (cv 2)))) (ao (av 3 ft.nd (ak (cv 3) (fQ (cc (N:=["_law_pair","_law_found"]) (src:=[none,some 3]) (am dg) ["_law_game_here","_law_row_here","_law_square","_law_found","_law_rule_here"]) (rS K (aH C._law_by_rule hr (az (cv 0) (az (cv 1) (az (cv 2) (az (cv 4) pan)))))) (λ_ _ _=>(bo (i:=0) ["_law_pair","_law_found"])) (λ_ _ _=>(iU (Nh K hu (cv 0) (cv 1)))) (λ_ _ _=>(cv 0)))))) aG)))
  (ao (aC (kB (Jt K) lA T.sorted (az (cv 3) pan)))))),?_⟩
 show bg _ _ _ [oR g,oT row,oJ sq,none,none] H;refine gM λq0 hq0=>?_;have sm:aj H (upd H q0 (.lst [])):=(aj.refl H).upd hq0;refine cO (λσ' H'=>∃(o:Option V)(q:XB)(l m:List (Int×Int)),σ'=[oR g,oT row,oJ sq,oR q,o]/\aV wi hi hs row sq sd (ofKind us kd) l/\m.Nodup/\(∀x,x∈m<->x∈l)/\bB H H' q m/\aj H H') (λK' hK=>?_) ?_
 .refine iX (λv H'=>v=.ref rq/\H'=upd H q0 (.lst [])) (λQ z=>(bq (aa rfl) (fl.keepS sm)) _ (z _ _ ⟨rfl,rfl⟩)) ?_;rintro _ _ ⟨rfl,rfl⟩;refine⟨rq,cI us,rfl,aO.of (sm _ _ hrq),λi σ' H'=>∃(o:Option V)(q:XB)(l m:List (Int×Int)),σ'=[oR g,oT row,oJ sq,oR q,o]/\aV wi hi hs row sq sd (ofKind (us.take i) kd) l/\m.Nodup/\(∀x,x∈m<->x∈l)/\bB H H' q m/\aj H H',⟨_,q0,[],[],rfl,.nil,U5,λ_=>Iff.rfl,bB.nil,sm⟩,?_,?_,?_⟩
  .rintro i σ' H' _ ⟨_,_,_,_,_,_,_,_,_,s2⟩;exact aO.of (s2 _ _ hrq)
  .rintro i x _ H2 hx ⟨o,q,l,m,rfl,hl,nd,mem,⟨ps,p1,p2,p3⟩,s2⟩;have hi':i<us.length:=by
    have:=(Um.mp hx).1
    rwa[T7]at this
   obtain rfl:x=.ref us[i].2:=by rw[Ub,Ua hi']at hx;exact(PL hx).symm
   have tk:us.take (i+1)=us.take i++[us[i]]:=by rw[Vy hi']
   have hz:=Uv hi';have ll:=hl.len;have ol:(ofKind (us.take i) kd).length<=12:=by refine VR (UN _ _) ?_;rw[Uu];lia
   have ml:=kh nd λx hx=>(mem x).mp hx;have z1:=PM List.length p1;rw[T7,T7]at z1;generalize us[i]=zz at tk hz;show ju _ _ _ _ [oR g,oT row,oJ sq,oR q,oR zz.2] H2;refine jV (b:=decide (zz.1.kd=one (PyProof.Rows.lo1 (row.cps.toList.getD sq.toNat 0)))) (aX (dN (bf (x:=.str zz.1.kd) (aa rfl) aq (.inr (.inl (.inl ((U.same s2) zz hz)))) rfl) (HQ (cC (aa rfl) (aa rfl) (by rw[P4];lia) x1) x2))) (λh=>?_) (λh=>?_)
   .have h:zz.1.kd=kd:=(PH h).trans ekd.symm;refine nR (iE ((aa rfl) _ (rE (ae (aa rfl) (ae (aa rfl) (ae (aa rfl) (ae (aa rfl) aw)))) ⟨g,b,zz.2,row,sq,sd,wi,hi,hs,zz.1,ks,cI us,ts,es,st,rfl,G.same s2,B.same s2,.inl (.inl ((U.same s2) zz hz)),R,rl,s0,s1,hsd,sd2,un0 zz hz,λl2 t H3 lr ht hP s3=>?_⟩)));obtain⟨ps2,g1,g2,g3⟩:=hP;have lr8:=lr.len;have z2:=PM List.length g1;rw[T7,T7]at z2;have p23:=s3 _ _ p2;have pp:∀p∈ps,H3 p.2=some (.tup (p.1.map V.int)):=λp hp=>s3 _ _ (p3 p hp).2;have gg:∀p∈ps2,H3 p.2=some (.tup (p.1.map V.int)):=λp hp=>(g3 p hp).2;refine⟨t,rfl,⟨_,aO.of g2⟩,jb (xs:=ps2.map λz=>V.ref z.2) (rest:=[oR q]) (by rw[T7,P4];lia) rfl (C7 ps2 (ps.map (·.1))) (λv=>v) (λi hi=>⟨_,(ps2.map λz=>V.ref z.2)[i],aO.of g2,Ua hi⟩) ⟨_,aO.of g2,VO _⟩ (λi v H' _ y=>⟨y.1,y.2 _ (aO.of g2)⟩) (λx hx=>?_) (λx hx _=>aa rfl) (λd hd=>?_)⟩
    .obtain⟨z,hz2,rfl⟩:=T9.mp hx;rw[xf gg hz2];exact JG (aa rfl) (aa rfl) (gg z hz2) (aO.of p23) pp
    .rw[tP gg,List.map_id'' (λ_=>rfl)];have fl2:=UN (λz:List Int×XB=> !decide (z.1∈ps.map (·.1))) ps2;have nq:q≠d:=ay p23 hd;refine⟨q,d,_,_,rfl,rfl,by rw[au nq];exact p23,ah,by rw[T7,T7,P4];lia,λp hp=>?_⟩;have sF:aj H3 (upd (upd H3 d (.lst ((ps2.filter λz=> !decide (z.1∈ps.map (·.1))).map λz=>V.ref z.2))) p (.lst ((ps.map λz=>V.ref z.2)++(ps2.filter λz=> !decide (z.1∈ps.map (·.1))).map λz=>V.ref z.2))):=((aj.refl H3).upd hd).upd hp;refine⟨_,p,l++l2,m++(l2.filter λx=> !decide (x∈m)),rfl,?_,C9 nd (lr.nd w1 (un0 zz hz)),A3 mem,⟨ps++ps2.filter λz=> !decide (z.1∈ps.map (·.1)),?_,?_,λy hy=>?_⟩,(s2.trans s3).trans sF⟩
     .rw[tk,ni,PF h];exact aV.add lr hl
     .rw[Uq,Uq,t6 p1 g1,p1]
     .rw[ah,Uq]
     .rcases Ul.mp hy with w|w
      .exact⟨(p3 y w).1,sF _ _ (pp y w)⟩
      .have w:=(UA.mp w).1;exact⟨s2.free (g3 y w).1,sF _ _ (gg y w)⟩
   .have h:¬zz.1.kd=kd:=λe=>PJ h (e.trans ekd);refine⟨_,q,l,m,rfl,?_,nd,mem,⟨ps,p1,p2,p3⟩,s2⟩;rw[tk,ni,PD h,Uo];exact hl
  .rintro σ' H' ⟨o,q,l,m,e,hl,r⟩;rw[T7,U3]at hl;exact hK _ _ ⟨o,q,l,m,e,hl,r⟩
 .rintro _ H1 ⟨o,q,l,m,rfl,hl,nd,mem,⟨ps,p1,p2,p3⟩,s2⟩;have m64:=few l hl m nd λx hx=>(mem x).mp hx;have z1:=PM List.length p1;rw[T7,T7]at z1;have ne:∀p∈ps,p.1≠[]:=λp hp=>by
   have:p.1∈m.map pk:=by rw[<-p1];exact T9.mpr ⟨p,hp,rfl⟩
   obtain⟨x,_,e⟩:=T9.mp this;rw[<-e];exact λz=>nomatch z
  refine Cw (aa rfl) (aO.of p2) (λp hp=>⟨ne p hp,(p3 p hp).2⟩) ?_ (by lia) λps' q' pm pw hq'=>?_
  .rw[p1,UC,Ux];exact(UC.mp nd).imp λz e=>z (qK e)
  .obtain⟨l',e,hm⟩:=Cq (l:=m) (L:=ps'.map (·.1)) λk hk=>by rw[<-p1];exact(pm.map _).mem_iff.mp hk
   have sF:aj H1 (upd H1 q' (.lst (ps'.map λz=>V.ref z.2))):=(aj.refl H1).upd hq';exact k l l' q' _ hl (nU.of mem p1 pm pw e) (s2.free hq') ⟨ps',e,ah,λp hp=>⟨(p3 p (pm.mem_iff.mp hp)).1,sF _ _ (p3 p (pm.mem_iff.mp hp)).2⟩⟩ (s2.trans sF)
end
section
theorem oe(F:cZ K "_law_whole" "_law_whole" eI f fd)(T:Txt mg aS aA aE aW):bh P w K mg Px dm 1 f fd ["_law_thing"] sB:=by refine F.ok1 n5 λcdv A Py s H vs Q E hr h=>?_;obtain⟨v,rfl,q⟩:=h;refine⟨_,(ao (aC (fc (A9 .int T.isinstance T.int rN (cv 0)) (fM (BR (A9 .bool T.isinstance T.bool xQ (cv 0))))))),?_⟩;show cL _ _ [oJ v] H;exact aK (cM (BA (aa rfl)) (λ_=>Bz (BA (aa rfl)))) q
theorem n9(F:cZ K "squares_of" "squares_of" db f fd)(T:Txt mg aS aA aE aW)(C:CP1 P w K mg Px):bh P w K mg Px dm 2 f fd ["row","side"] oO:=by
 refine F.ok1 nZ λcdv A Py s H vs Q E hr h=>?_;obtain⟨row,sd,rfl,hz,ha,q⟩:=h;have hu:=bZ hr;refine⟨_,(ao (aC (fQ (cc (N:=["square","sign","side"]) (src:=[none,none,some 1]) (am db) ["row","side"]) (Bb K T.enumerate (cv 0)) (λ_ _ _=>(Nl K (n:=2) (cf (bo (i:=0) ["square","sign","side"]) (cf (bo (i:=1) ["square","sign","side"]) jn)))) (λ_ _ _=>(iU (aN K hu (aH C.side_of hr (az (cv 1) pan)) (cv 2)))) (λ_ _ _=>(cv 0))))),?_⟩;show tComp _ _ _ _ _ [oT row,oJ sd] H Q;refine BP (z:=row) (rest:=[oJ sd]) (aa rfl) (by lia) rfl (λi c=>decide (bX c=.int sd)) (λi c=>.int (i:Int)) (λi c H' hc s R r=>?_) (λi c H' hc hp s=>aa rfl) (λH' d s hd=>?_)
 .refine BG (ae (aa rfl) aw) ⟨c,rfl,ha c (Us hc),λH2 s2=>vW (v:=.int sd) (aa rfl) ?_⟩;rw[qd];exact r H2 s2
 .have e:DC row.cps.toList (λi c=>decide (bX c=.int sd)) (λi c=>.int (i:Int)) row.length=(sqsOf row sd).map V.int:=by unfold DC sqsOf;rw[Uf];rfl
  rw[e];exact q d _ (s.free hd) ah (s.upd hd)
theorem AR{f cB cG:XB}{fd:Qf}(F:cZ K "moves" "moves" jk f fd)(C:CMv P w K mg Px cB cG):bh P w K mg Px dm 6 f fd ["game","place"] (jX K cB cG):=by
 refine F.ok1 j4 λcdv A Py s H vs Q E hr h=>?_;obtain⟨g,b,kq,p,row,sd,wi,hi,hs,ks,us,ts,es,st,rfl,G,hp,R,rl,k⟩:=h;have hu:=bZ hr;have r64:=R.len;refine⟨_,(af (av 2 j4.nd (cj K (cv 1) ag))
  (af (av 3 j4.nd (bp pan))
  (af (fL Qj rfl (rS K (aH C.squares_of hr (az (cv 2) (az (cj K (cv 1) ag) pan)))) (bA 4 j4.nd) (ao (dJ (BS (cv 3) (fQ (cc (N:=["pair","start"]) (src:=[none,some 4]) (am jk) ["game","place","row","found","start"]) (rS K (aH C.goals hr (az (cv 0) (az (cv 2) (az (cv 4) pan))))) (λ_ _ _=>(bo (i:=0) ["pair","start"])) (λ_ _ _=>bP) (λ_ _ _=>(dn (az (cv 1) (az (cj K (cv 0) ag) (az (cj K (cv 0) ag) pan))))))))))
  (ao (aC (cv 3)))))),?_⟩
 show bg _ _ _ [oR g,oR p,none,none,none] H;refine a8 (bf (x:=.str row) (aa rfl) aq (.inr hp) rfl) ?_;refine gM λq hq=>?_;have sm:aj H (upd H q (.lst [])):=(aj.refl H).upd hq;show bg _ _ _ [oR g,oR p,oT row,oR q,none] _;refine cO (λσ' H'=>(∃o,σ'=[oR g,oR p,oT row,oR q,o])/\(∃m,jR wi hi hs row us sd (sqsOf row sd) m/\m.length<=4096/\pQ H H' q m)/\aj H H') (λK' hK=>?_) ?_
 .refine iX (λv H'=>∃d,v=.ref d/\H' d=some (.lst ((sqsOf row sd).map V.int))/\d≠q/\aj (upd H q (.lst [])) H') (λQ z=>?_) ?_
  .refine dZ (ae (aa rfl) (ae (bf (x:=.int sd) (aa rfl) aq (.inr (sm.tupY hp)) rfl) aw)) ⟨row,sd,rfl,by lia,R.asc,λd H' d1 d2 d3=>z _ _ ⟨d,rfl,d2,λe=>?_,d3⟩⟩;rw[e,ah]at d1;cases d1
  .rintro _ H1 ⟨d,rfl,hd,ndq,s1'⟩;refine⟨d,(sqsOf row sd).map V.int,rfl,aO.of hd,λi σ' H'=>(∃o,σ'=[oR g,oR p,oT row,oR q,o])/\(∃m,jR wi hi hs row us sd ((sqsOf row sd).take i) m/\m.length<=64*i/\pQ H H' q m)/\aj H H'/\H' d=some (.lst ((sqsOf row sd).map V.int)),⟨⟨_,rfl⟩,⟨[],.nil,VQ _,[],rfl,s1' _ _ ah,λ_ z=>nomatch z⟩,sm.trans s1',hd⟩,?_,?_,?_⟩
   .rintro i σ' H' _ ⟨_,_,_,h⟩;exact aO.of h
   .rintro i x _ H2 hx ⟨⟨o,rfl⟩,⟨m,hm,ml,ps,p1,p2,p3⟩,s2,hd2⟩;have hi':i<(sqsOf row sd).length:=by
     have:=(Um.mp hx).1
     rwa[T7]at this
    obtain rfl:x=.int (sqsOf row sd)[i]:=by rw[Ub,Ua hi']at hx;exact(PL hx).symm
    have tk:(sqsOf row sd).take (i+1)=(sqsOf row sd).take i++[(sqsOf row sd)[i]]:=by rw[Vy hi']
    obtain⟨z0,z1,z2⟩:=oM (Uv hi');have i64:i<64:=VS hi' (VR oN r64);generalize(sqsOf row sd)[i]=sq at tk z0 z1 z2;show jy _ _ [oR g,oR p,oT row,oR q,oJ sq] H2;refine HP (aa rfl) p2 (rE (ae (aa rfl) (ae (aa rfl) (ae (aa rfl) aw))) (xz (G.same s2) R rl z0 z1 z2 λl' t H3 hg l64 ht hP s3=>?_).1);obtain⟨ps2,g1,g2,g3⟩:=hP;refine⟨t,rfl,⟨_,aO.of g2⟩,wy s3 g1 g2 (λp hp=>(g3 p hp).2) l64 rfl (λa x y H' Q' ha q'=>uS (aa rfl) (bf (x:=.int x) (aa rfl) aq (.inr (da.of ha)) rfl) (bf (x:=.int y) (aa rfl) aq (.inr (da.of ha)) rfl) q') (λd' H4 ps3 s4 hd' e1 e2=>?_)⟩;have sF:aj H2 (upd H4 d' (.lst (kRefs ps3))):=(s3.trans s4).upd hd';have y1:=PM List.length p1;have y2:=PM List.length e1;rw[T7]at y1;rw[T7,T7]at y2;refine⟨d',_,_,rfl,sF _ _ p2,ah,by rw[T7,T7,P4];lia,⟨_,rfl⟩,⟨_,?_,?_,wA p1 (λxs w=>by rw[sF _ _ p2]at w;cases w) (λp hp=>⟨(p3 p hp).1,sF _ _ (p3 p hp).2⟩) s2 e1 (λp hp=>⟨(e2 p hp).1,?_⟩)⟩,(s2.trans sF).put hq,?_⟩
    .rw[tk];exact jR.add hg hm
    .rw[Uj,T7];lia
    .rw[au (ay (e2 p hp).2 hd')];exact(e2 p hp).2
    .rw[au ndq];exact sF _ _ hd2
   .rintro σ' H' ⟨o,⟨m,hm,ml,hT⟩,s2,_⟩;rw[T7,U3]at hm;rw[T7]at ml;have:=oN (row:=row) (sd:=sd);exact hK _ _ ⟨o,⟨m,hm,by lia,hT⟩,s2⟩
 .rintro _ H1 ⟨⟨o,rfl⟩,⟨m,hm,ml,hT⟩,s2⟩;exact aK (aa rfl) (k m q H1 hm ml hq hT s2)
theorem oh{f cB cG:XB}{fd:Qf}(F:cZ K "_law_moves" "_law_moves" de f fd)(T:Txt mg aS aA aE aW)(C:CLm P w K mg Px cB cG):bh P w K mg Px dm 4 f fd ["_law_game_here","_law_place"] (jX K cB cG):=by
 refine F.ok1 fo λcdv A Py s H vs Q E hr h=>?_;obtain⟨g,b,kq,p,row,sd,wi,hi,hs,ks,us,ts,es,st,rfl,G,hp,R,rl,k⟩:=h;have hu:=bZ hr;have r64:=R.len;refine⟨_,(af (av 2 fo.nd (bp pan))
  (af (fL Qj rfl (Cf T.range (az (kB (ib K) cb T.len (az (cj K (cv 1) ag) pan)) pan)) (bA 3 fo.nd) (ao (aY (aN K hu (aH C._law_side hr (az (cj K (cj K (cv 1) ag) (cv 3)) pan)) (cj K (cv 1) ag)) (ao (av 2 fo.nd (ak (cv 2) (fQ (cc (N:=["_law_pair","_law_start"]) (src:=[none,some 3]) (am de) ["_law_game_here","_law_place","_law_found","_law_start"]) (rS K (aH C._law_goals hr (az (cv 0) (az (cj K (cv 1) ag) (az (cv 3) pan))))) (λ_ _ _=>(bo (i:=0) ["_law_pair","_law_start"])) (λ_ _ _=>bP) (λ_ _ _=>(dn (az (cv 1) (az (cj K (cv 0) ag) (az (cj K (cv 0) ag) pan))))))))) aG)))
  (ao (aC (cv 2))))),?_⟩
 show bg _ _ _ [oR g,oR p,none,none] H;refine gM λq0 hq0=>?_;have sm:aj H (upd H q0 (.lst [])):=(aj.refl H).upd hq0;show bg _ _ _ [oR g,oR p,oR q0,none] _;have row0:∀{σ:St}{H':Hp}{te:TE},aj H H'->Ev te σ H' (.ref p)->Ev (xP K te (tC (.int 0))) σ H' (.str row):=λs e=>bf (x:=.str row) e aq (.inr (s.tupY hp)) rfl;refine cO (λσ' H'=>∃o q m,σ'=[oR g,oR p,oR q,o]/\jR wi hi hs row us sd (sqsOf row sd) m/\m.length<=4096/\H q=none/\pQ H H' q m/\aj H H') (λK' hK=>?_) ?_
 .refine Bw (row.length:Int) (ae (rB (row0 sm (aa rfl)) (by rw[P4];lia)) aw) (by lia) (by lia) (λi σ' H'=>∃o q m,σ'=[oR g,oR p,oR q,o]/\jR wi hi hs row us sd (wD row sd i) m/\m.length<=64*i/\H q=none/\pQ H H' q m/\aj H H') ⟨_,q0,[],rfl,.nil,VQ _,hq0,⟨[],rfl,ah,λ_ z=>nomatch z⟩,sm⟩ ?_ ?_
  .rintro i _ H2 hi' ⟨o,q,m,rfl,hm,ml,hq,⟨ps,p1,p2,p3⟩,s2⟩;have z1:(0+(i:Int))<row.length:=by lia
   have z0:0<=(0+(i:Int)):=by lia
   obtain⟨x1,x2⟩:=R.toRowS.at z0 z1;have xs:Sg (row.cps.toList.getD (0+(i:Int)).toNat 0):=by obtain⟨j,_,e,_⟩:=jt x1;exact R.sg _ (Us e)
   have ei:(0+(i:Int))=(i:Int):=We _;have su:=uY (row:=row) (sd:=sd) (n:=i);rw[<-ei]at su;have i64:i<64:=by lia
   generalize(0+(i:Int))=sq at z1 z0 x1 x2 xs su;show ju _ _ _ _ [oR g,oR p,oR q,oJ sq] H2;refine jV (aX (zg (ae (cC (row0 s2 (aa rfl)) (aa rfl) (by rw[P4];lia) x1) aw) xs (bf (x:=.int sd) (aa rfl) aq (.inr (s2.tupY hp)) rfl))) (λh=>?_) (λh=>?_)
   .have hsd:sdV row sq=.int sd:=PH h;rw[PF hsd]at su;refine nR (iE ((aa rfl) _ (rE (ae (aa rfl) (ae (row0 s2 (aa rfl)) (ae (aa rfl) aw))) (xz (G.same s2) R rl z0 z1 hsd λl' t H3 hg l64 ht hP s3=>?_).2)));obtain⟨ps2,g1,g2,g3⟩:=hP;refine⟨t,rfl,⟨_,aO.of g2⟩,wy s3 g1 g2 (λp hp=>(g3 p hp).2) l64 rfl (λa x y H' Q' ha q'=>uS (aa rfl) (bf (x:=.int x) (aa rfl) aq (.inr (da.of ha)) rfl) (bf (x:=.int y) (aa rfl) aq (.inr (da.of ha)) rfl) q') (λd' H4 ps3 s4 hd' e1 e2=>?_)⟩;have sF:aj H2 (upd H4 d' (.lst (kRefs ps3))):=(s3.trans s4).upd hd';have y1:=PM List.length p1;have y2:=PM List.length e1;rw[T7]at y1;rw[T7,T7]at y2;refine⟨q,d',_,_,rfl,rfl,sF _ _ p2,ah,by rw[T7,T7,P4];lia,λr hr'=>?_⟩;refine⟨_,r,m++l'.map (tk3 sq),rfl,?_,?_,(s2.trans sF).free hr',wA p1 (λxs w=>by rw[hr']at w;cases w) (λp hp=>⟨(p3 p hp).1,sF _ _ (p3 p hp).2⟩) s2 e1 (λp hp=>⟨(e2 p hp).1,?_⟩),(s2.trans sF).upd hr'⟩
    .rw[su];exact jR.add hg hm
    .rw[Uj,T7];lia
    .rw[au (ay (e2 p hp).2 hd')];exact(e2 p hp).2
   .have hsd:¬sdV row sq=.int sd:=PJ h;rw[PD hsd,Uo]at su;refine⟨_,q,m,rfl,?_,by lia,hq,⟨ps,p1,p2,p3⟩,s2⟩;rw[su];exact hm
  .rintro σ' H' ⟨o,q,m,e,hm,ml,r⟩;rw[show((row.length:Int)).toNat=row.length by lia]at hm ml;exact hK _ _ ⟨o,q,m,e,hm,by lia,r⟩
 .rintro _ H1 ⟨o,q,m,rfl,hm,ml,hq,hT,s2⟩;exact aK (aa rfl) (k m q H1 hm ml hq hT s2)
end
section
theorem lX(F:cZ K "number_text" "number_text" dv f fd)(T:Txt mg aS aA aE aW):bh P w K mg Px dm 1 f fd ["number"] wG:=by
 refine F.ok1 eE λcdv A Py s H vs Q E hr h=>?_;obtain⟨n,rfl,h0,h1,k⟩:=h;have hu:=bZ hr;refine⟨_,(af (aY (aN K hu (cv 0) ag) oW aG)
  (af (av 1 eE.nd (ak ag ag))
  (af (av 2 eE.nd (bp pan))
  (af (av 3 eE.nd (cv 0))
  (af (mZ Qj (aN K hu (cv 3) (cv 1)) oW)
  (af (dJ (gS (cv 2) (HW zq rL T.str (pa_cons (cv 3) pan))))
  (ao (aC (kjr K T.reversed aP (cv 2)))))))))),?_⟩
 show bg _ _ _ [oJ n,none,none,none] H
 walk_at "rd"
 rw[PB (by lia:¬n<0)];refine gF ⟨⟨by decide,by decide,by decide⟩,?_⟩;simp only[uU,cE];refine⟨VQ _,λp hp=>?_⟩;refine⟨λm σ' H'=>m=0/\σ'=[oJ n,oJ (10 ^ (60:Int).toNat),oR p,oJ n]/\H'=upd H p (.lst []),⟨0,rfl,rfl,rfl⟩,?_⟩;rintro m σ' H' ⟨rfl,rfl,rfl⟩
 walk_at "rd"
 have hlt:¬((10:Int) ^ (60:Int).toNat<=n):=by
  have e:(10:Int) ^ (60:Int).toNat=10 ^ 60:=by decide
  rw[e];lia
 rw[PB hlt];simp only[Wt,if_false];simp only[B2,ci,Vv,Vw,ah];refine⟨⟨_,rfl⟩,?_⟩;have hlog:n.natAbs.log2<1920:=by
  have hz:n.natAbs<2 ^ 200:=by
   have:(10:Nat) ^ 60<2 ^ 200:=by decide
   lia
  by_cases hz0:n.natAbs=0
  .rw[hz0];decide
  .have:=(Nat.log2_lt hz0).mpr hz;lia
 refine⟨hlog,[],ah,by decide,?_⟩;refine⟨[QC (toString n)],aO.of ah,?_,?_⟩
 .have:=PyProof.Rows.toString_length_le h0 (by decide) h1;show(QC (toString n)).length+0+1*0<=16777216;lia
 .show Q (.str (QC (toString n))) _;refine k _ ?_;rw[Cp];exact(aj.refl H).upd hp
structure CSq(P:P6)(w:P9)(K:Frag)(mg:PN)(Px:Qe):Prop where
 number_text:dG P w K mg Px "number_text" ["number"] 1 wG
 column_of:dG P w K mg Px "column_of" ["wide","square"] 1 wR
 row_of:dG P w K mg Px "row_of" ["wide","square"] 1 wJ
theorem m7(F:cZ K "square_text" "square_text" du f fd)(T:Txt mg aS aA aE aW)(C:CSq P w K mg Px):bh P w K mg Px dm 2 f fd ["wide","square"] sD:=by
 refine F.ok1 mM λcdv A Py s H vs Q E hr h=>?_;obtain⟨wi,sq,rfl,w1,w8,s0,s8,q⟩:=h;have hu:=bZ hr;have m0:=Wb sq (by lia:wi≠0);have m1:=Wc sq (by lia:0<wi);have d0:0<=sq / wi:=Wg s0 (by lia);have big:(10:Int)<10 ^ 60:=by decide
 refine⟨_,(ao (aC (ak (cj K (kg T.COLUMNS) (aH C.column_of hr (az (cv 0) (az (cv 1) pan)))) (aH C.number_text hr (az (ak (aH C.row_of hr (az (cv 0) (az (cv 1) pan))) ag) pan))))),?_⟩;show cL _ _ [oJ wi,oJ sq] H;refine qt (iE ((cC (z:="abcdefghijklmnopqrstuvwxyz") aq (aL (sp:=wR) (x:=.int (sq % wi)) (ae (aa rfl) (ae (aa rfl) aw)) (λQ qq=>⟨wi,sq,rfl,by lia,qq⟩)) (by decide+kernel) (Cb m0 (by lia))) _ (dZ (ae (bG (aL (sp:=wJ) (x:=.int (sq / wi)) (ae (aa rfl) (ae (aa rfl) aw)) (λQ qq=>⟨wi,sq,rfl,by lia,by lia,qq⟩)) aq) aw) ⟨_,rfl,by lia,by lia,λH' s'=>?_⟩)));rw[AQ d0 s8];refine⟨by show 1+1<=fv;decide,?_⟩;rw[xR];exact q H' s'
structure CMt(P:P6)(w:P9)(K:Frag)(mg:PN)(Px:Qe):Prop where
 square_text:dG P w K mg Px "square_text" ["wide","square"] 2 sD
theorem qQ{f cB cG:XB}{fd:Qf}(F:cZ K "move_text" "move_text" fB f fd)(T:Txt mg aS aA aE aW)(B:kT K cB)(D:xW K cG)(C:CMt P w K mg Px):bh P w K mg Px dm 3 f fd ["game","move"] (gV K cB cG):=by
 refine F.ok1 fT λcdv A Py s H vs Q E hr h=>?_;obtain⟨g,b,mv,wi,hi,hs,ks,rs,ts,es,st,s,gl,t,rfl,G,O,em,s0,s1,g0,g1,t01,k⟩:=h;have hu:=bZ hr;have w1:=O.w1;have w8:=O.w8;have h8:=O.h8;refine⟨_,(af (av 2 fT.nd (cJ K (cJ K (cv 0))))
  (af (av 3 fT.nd (aH C.square_text hr (az (cv 2) (az (cj K (cv 1) ag) pan))))
  (af (av 4 fT.nd (aH C.square_text hr (az (cv 2) (az (cj K (cv 1) ag) pan))))
  (af (aY (aN K hu (cj K (cv 1) ag) (kg T.NOTHING)) (ao (aC (ak (ak (cv 3) aP) (cv 4)))) aG)
  (af (aY (aN K hu (cj K (cv 1) ag) (cj K (cv 1) ag)) (ao (aC (ak (ak (cv 3) aP) (cv 4)))) aG)
  (ao (aC (ak (ak (ak (ak (cv 3) aP) (aH C.square_text hr (az (cv 2) (az (cj K (cv 1) ag) pan)))) aP) (cv 4))))))))),?_⟩
 show bg _ _ _ [oR g,oR mv,none,none,none] H;have lx:("x":Str).length=1:=by decide+kernel
 have ld:("-":Str).length=1:=by decide+kernel
 have i0:∀(σ:St)(H':Hp),σ[1]? =some (some (V.ref mv))->aj H H'->Ev (xP K (ci 1) (tC (.int 0))) σ H' (.int s):=λσ H' h s'=>bf (aa h) aq (.inr (da.of (s' _ _ em))) rfl;have i1:∀(σ:St)(H':Hp),σ[1]? =some (some (V.ref mv))->aj H H'->Ev (xP K (ci 1) (tC (.int 1))) σ H' (.int gl):=λσ H' h s'=>bf (aa h) aq (.inr (da.of (s' _ _ em))) rfl;have i2:∀(σ:St)(H':Hp),σ[1]? =some (some (V.ref mv))->aj H H'->Ev (xP K (ci 1) (tC (.int 2))) σ H' (.int t):=λσ H' h s'=>bf (aa h) aq (.inr (da.of (s' _ _ em))) rfl;refine a8 (bq (bq (aa rfl) (G.board D)) (O.wide B)) ?_;refine bC (λv H'=>v=.str (lS wi s)/\aj H H') (λQ q=>dZ (ae (aa rfl) (ae (i0 _ _ rfl (aj.refl H)) aw)) ⟨wi,s,rfl,w1,w8,s0,mU w1 h8 s1,λH' s'=>q _ _ ⟨rfl,s'⟩⟩) ?_;rintro _ H1 ⟨rfl,sa⟩;refine bC (λv H'=>v=.str (lS wi gl)/\aj H1 H') (λQ q=>dZ (ae (aa rfl) (ae (i1 _ _ rfl sa) aw)) ⟨wi,gl,rfl,w1,w8,g0,mU w1 h8 g1,λH' s'=>q _ _ ⟨rfl,s'⟩⟩) ?_;rintro _ H2 ⟨rfl,sb⟩;have s2:=sa.trans sb;show bg _ _ _ [oR g,oR mv,oJ wi,oT (lS wi s),oT (lS wi gl)] H2;refine aT (aX (dY (i2 _ _ rfl s2) aq)) (λh=>?_) (λh=>?_)
 .have e:=PH h;refine aK (cQ (cQ (aa rfl) aq (by rw[bn,ld];decide)) (aa rfl) (by rw[bQ,bn,bn,ld];decide)) ?_;have:=k H2 s2;unfold uI at this
  rwa[PF e]at this
 .have e:=PJ h;refine aT (aX (dY (i2 _ _ rfl s2) (i1 _ _ rfl s2))) (λh=>?_) (λh=>?_)
  .have e2:=PH h;refine aK (cQ (cQ (aa rfl) aq (by rw[bn,lx];decide)) (aa rfl) (by rw[bQ,bn,bn,lx];decide)) ?_;have:=k H2 s2;unfold uI at this
   rwa[PD e,PF e2]at this
  .have e2:=PJ h;have t2:0<=t/\t<wi*hi:=by rcases t01 with z|z;exact PK z e;exact z
   refine qt (iE (iE (iE ((cQ (aa rfl) aq (by rw[bn,lx];decide)) _ (dZ (ae (aa rfl) (ae (i2 _ _ rfl s2) aw)) ⟨wi,t,rfl,w1,w8,t2.1,mU w1 h8 t2.2,λH3 s3=>⟨?_,aq _ ⟨?_,(show Ev (ci 4) _ _ (.str (lS wi gl))from aa rfl) _ ⟨?_,?_⟩⟩⟩⟩)))))
   .rw[bQ,bn,bn,lx];decide
   .rw[bQ,bQ,bn,bn,lx,ld];decide
   .rw[bQ,bQ,bQ,bn,bn,bn,lx,ld];decide
   .have:=k H3 (s2.trans s3);unfold uI at this
    rwa[PD e,PD e2]at this
end
section
structure CMo(P:P6)(w:P9)(K:Frag)(mg:PN)(Px:Qe)(cB cG:XB):Prop where
 moves:dG P w K mg Px "moves" ["game","place"] 6 (jX K cB cG)
 move_text:dG P w K mg Px "move_text" ["game","move"] 3 (gV K cB cG)
theorem vy{f cB cG cN:XB}{fd:Qf}(F:cZ K "move_of" "move_of" gY f fd)(m_NoMove:mg "NoMove"=some (.ref cN))(q_NoMove:Xb K cN [.type "ValueError",.type "Exception",.type "BaseException",.type "object"] "ValueError.__new__"=true)(C:CMo P w K mg Px cB cG):bh P w K mg Px (Ic P w) 7 f fd ["game","place","text"] (sH K cB cG cN):=by
 refine F.okX mO (λvs H Q E h=>?_) (λcdv A Py s H vs Q E hr h=>?_)
 .obtain⟨g,b,kq,p,row,sd,wi,hi,hs,ks,us,ts,es,st,m,z,rfl,_⟩:=h;rfl
 .obtain⟨g,b,kq,p,row,sd,wi,hi,hs,ks,us,ts,es,st,m,z,rfl,M,kQ,kE⟩:=h;have hu:=bZ hr;have mm:=M.gs.bd.many;have rl:(row.length:Int)=wi*hi:=by rw[M.rk.len];lia
  refine⟨_,(af (PS.nox (fL Qj rfl (rS K (aH C.moves hr (az (cv 0) (az (cv 1) pan)))) (bA 3 mO.nd) (ao (aY (aN K hu (aH C.move_text hr (az (cv 0) (az (cv 3) pan))) (cv 2)) (ao (aC (cv 3))) aG)))) (ao (AA PySem.F.excBase_ValueError rfl rfl m_NoMove q_NoMove (az aP pan) tX))),?_⟩;show bg _ _ _ [oR g,oR p,oT z,none] H;refine cO (λσ' H'=>(∃o3,σ'=[oR g,oR p,oT z,o3])/\(∀k∈m,mvK wi k≠z)/\aj H H') (λK' hK=>?_) ?_
  .refine iX (λv H'=>∃(q:XB)(ps:List (List Int×XB)),v=.ref q/\ps.map (·.1)=m/\H' q=some (.lst (kRefs ps))/\(∀p∈ps,H' p.2=some (.tup (p.1.map V.int)))/\aj H H') (λQ qq=>dZ (ae (aa rfl) (ae (aa rfl) aw)) ⟨g,b,kq,p,row,sd,wi,hi,hs,ks,us,ts,es,st,rfl,M.gs,M.pl,M.rk.g M.gs.ltr mm.2,rl,λm' q H' h1 h2 h3 h4 h5=>?_⟩) ?_
   .obtain⟨ps,p1,p2,p3⟩:=h4;have e:=M.mvs.uniq h1;subst e;exact qq _ _ ⟨q,ps,rfl,p1,p2,λp hp=>(p3 p hp).2,h5⟩
   rintro _ H1 ⟨q,ps,rfl,ep,eq,et,s1⟩;refine⟨q,kRefs ps,rfl,aO.of eq,λi σ' H'=>(∃o3,σ'=[oR g,oR p,oT z,o3])/\(∀k∈m.take i,mvK wi k≠z)/\aj H1 H',⟨⟨_,rfl⟩,(λk hk=>by simp at hk),aj.refl _⟩,λi σ H' _ h=>aO.of (h.2.2 _ _ eq),?_,?_⟩
   .rintro i x _ H2 hx ⟨⟨o3,rfl⟩,hn,s2⟩;unfold kRefs at hx;rw[Ub]at hx;cases hp:ps[i]? with
    |none=>rw[hp]at hx;cases hx
    |some y=>
     obtain⟨k,t⟩:=y;rw[hp]at hx;cases hx;have hm:m[i]? =some k:=by rw[<-ep,Ub,hp];rfl
     have km:k∈m:=Us hm;have tk:=s2 _ _ (et _ (Us hp));obtain⟨s',gl,t',rfl,a1,a2,a3,a4,a5⟩:=M.mv k km;show ju _ _ _ _ [oR g,oR p,oT z,oR t] H2;refine pV (λb H'=>b=decide (uI wi s' gl t'=z)/\aj H2 H') (λQ qq=>zp (ae (aa rfl) (ae (aa rfl) aw)) ⟨g,b,t,wi,hi,hs,ks.map strV,cI us,bT ts,bT es,st,s',gl,t',rfl,M.gs.gm.same (s1.trans s2),M.gs.bd.same (s1.trans s2),tk,a1,a2,a3,a4,a5,λH' s3=>(show Ev (ci 2) _ _ (.str z)from aa rfl) _ (qq _ _ ⟨rfl,s3⟩)⟩) (λH3 w=>?_) (λH3 w=>?_)
     .exact aK (aa rfl) (kQ _ t _ km (PH w.1.symm) (w.2 _ _ tk) ((s1.trans s2).trans w.2))
     .refine⟨⟨_,rfl⟩,λk' hk'=>?_,s2.trans w.2⟩;rw[List.take_add_one,hm]at hk'
      rcases Ul.mp hk' with hk'|hk'
      .exact hn k' hk'
      .rw[Ud.mp hk'];exact PJ w.1.symm
   .rintro σ' H2 ⟨o,hn,s2⟩;refine hK _ _ ⟨o,λk hk=>hn k ?_,s1.trans s2⟩;have:(kRefs ps).length=m.length:=by unfold kRefs;rw[<-ep,T7,T7]
    rw[this,U3];exact hk
  rintro _ H1 ⟨⟨o3,rfl⟩,hn,s1⟩;exact⟨by show 1<=fv;decide,kE hn _ s1⟩
end
section
theorem oo(F:cZ K "_law_alone" "_law_alone" eM f fd)(T:Txt mg aS aA aE aW)(L:AlC mg K D b1 b2 b3 b4 b5 b6 b7 b8 b9):Pu P w K mg Px 1 f fd ["_law_e"] (wS D):=by
 refine F.okN fu (λvs H Q E h=>?_) (λcdv A Py s H vs Q hr h=>?_)
 .obtain⟨a,rfl,_⟩:=h;rfl
 .obtain⟨a,rfl,ha,k⟩:=h;have hu:=hr.hu;obtain⟨c1,m_BadBoard,i1⟩:=L.f1;obtain⟨c2,m_BadGame,i2⟩:=L.f2;obtain⟨c3,m_BadLine,i3⟩:=L.f3;obtain⟨c4,m_BadPlace,i4⟩:=L.f4;obtain⟨c5,m_NoMove,i5⟩:=L.f5;obtain⟨c6,m_TooWide,i6⟩:=L.f6;obtain⟨c7,m_NoWord,i7⟩:=L.f7;obtain⟨c8,m_Over,i8⟩:=L.f8;obtain⟨c9,m_NothingBack,i9⟩:=L.f9;refine⟨_,(af (av 1 fu.nd (bp (az (kB (cX K) bu T.isinstance (az (cv 0) (az (kg (v:=.ref _) ⟨_,m_BadBoard,rfl⟩) pan))) (az (kB (cX K) bu T.isinstance (az (cv 0) (az (kg (v:=.ref _) ⟨_,m_BadGame,rfl⟩) pan))) (az (kB (cX K) bu T.isinstance (az (cv 0) (az (kg (v:=.ref _) ⟨_,m_BadLine,rfl⟩) pan))) (az (kB (cX K) bu T.isinstance (az (cv 0) (az (kg (v:=.ref _) ⟨_,m_BadPlace,rfl⟩) pan))) pan)))))) (af (av 1 fu.nd (ak (cv 1) (bp (az (kB (cX K) bu T.isinstance (az (cv 0) (az (kg (v:=.ref _) ⟨_,m_NoMove,rfl⟩) pan))) (az (kB (cX K) bu T.isinstance (az (cv 0) (az (kg (v:=.ref _) ⟨_,m_TooWide,rfl⟩) pan))) (az (kB (cX K) bu T.isinstance (az (cv 0) (az (kg (v:=.ref _) ⟨_,m_NoWord,rfl⟩) pan))) (az (kB (cX K) bu T.isinstance (az (cv 0) (az (kg (v:=.ref _) ⟨_,m_Over,rfl⟩) pan))) pan))))))) (af (av 1 fu.nd (ak (cv 1) (bp (az (kB (cX K) bu T.isinstance (az (cv 0) (az (kg (v:=.ref _) ⟨_,m_NothingBack,rfl⟩) pan))) pan)))) (ao (aC (fc (ls K hu (J2 (cv 1) gw) ag) (fM (kB (cX K) bu T.isinstance (az (cv 0) (az (xa (v:=.ty "ValueError") rfl T.ValueError oB rfl) pan)))))))))),?_⟩;show bg _ _ _ [oR a,none] H;have is:∀{σ:St}{H':Hp}{te:TE}{c:XB}{b:Bool},aj H H'->Ev te σ H' (.ref a)->WX K (.ref D) (.ref c)=some b->Ev (cB (O6 K) (ba te (ba (tC (.ref c)) cE))) σ H' (.bl b):=λs e i=>vY (ae e (ae aq aw)) wX (s _ _ ha) L.x i;have s0:=aj.refl H;refine bC (λv H'=>∃q,v=.ref q/\H' q=some (.lst [.bl b1,.bl b2,.bl b3,.bl b4])/\aj H H') (λQ z=>lM (dP (is s0 (aa rfl) i1) (dP (is s0 (aa rfl) i2) (dP (is s0 (aa rfl) i3) (dP (is s0 (aa rfl) i4) (jD ⟨by show 4<=fv;decide,λp hp=>z _ _ ⟨p,rfl,ah,s0.upd hp⟩⟩)))))) ?_;rintro _ H1 ⟨q1,rfl,e1,s1⟩;show bg _ _ _ [oR a,oR q1] H1;refine bC (λv H'=>∃q,v=.ref q/\H' q=some (.lst [.bl b1,.bl b2,.bl b3,.bl b4,.bl b5,.bl b6,.bl b7,.bl b8])/\aj H H') (λQ z=>iE ((show Ev (ci 1) _ _ (.ref q1)from aa rfl) _ (lM (dP (is s1 (aa rfl) i5) (dP (is s1 (aa rfl) i6) (dP (is s1 (aa rfl) i7) (dP (is s1 (aa rfl) i8) (jD ⟨by show 4<=fv;decide,λp hp=>?_⟩)))))))) ?_
  .have sa:=(aj.refl H1).upd (o:=.lst [.bl b5,.bl b6,.bl b7,.bl b8]) hp;exact⟨q1,p,_,_,rfl,rfl,sa _ _ e1,ah,by show 8<=fv;decide,λr hr'=>z _ _ ⟨r,rfl,ah,(s1.trans sa).upd hr'⟩⟩
  rintro _ H2 ⟨q2,rfl,e2,s2⟩;show bg _ _ _ [oR a,oR q2] H2;refine bC (λv H'=>∃q,v=.ref q/\H' q=some (.lst [.bl b1,.bl b2,.bl b3,.bl b4,.bl b5,.bl b6,.bl b7,.bl b8,.bl b9])/\aj H H') (λQ z=>iE ((show Ev (ci 1) _ _ (.ref q2)from aa rfl) _ (lM (dP (is s2 (aa rfl) i9) (jD ⟨by show 1<=fv;decide,λp hp=>?_⟩))))) ?_
  .have sa:=(aj.refl H2).upd (o:=.lst [.bl b9]) hp;exact⟨q2,p,_,_,rfl,rfl,sa _ _ e2,ah,by show 9<=fv;decide,λr hr'=>z _ _ ⟨r,rfl,ah,(s2.trans sa).upd hr'⟩⟩
  rintro _ H3 ⟨q3,rfl,e3,s3⟩;show cL _ _ [oR a,oR q3] H3;have cnt:Ev (NT (ci 1) (tC (.bl true))) [some (.ref a),some (.ref q3)] H3 (.int 1):=λQ z=>(show Ev (ci 1) _ _ (.ref q3)from aa rfl) _ ⟨⟨_,e3⟩,⟨_,e3,rfl,rfl,by rw[L.one];exact z⟩⟩;refine aK (v:=.bl true) (cM (a:=true) (b:=true) (dY (i:=1) (j:=1) cnt aq) (λ_=>vY (ae (aa rfl) (ae aq aw)) ID (s3 _ _ ha) L.x L.v)) (k _ s3)
structure CTm(P:P6)(w:P9)(K:Frag)(mg:PN)(Px:Qe)(cB cG cN:XB):Prop where
 move_of:DW P w K mg Px "move_of" ["game","place","text"] 7 (sH K cB cG cN)
 _law_alone:Kj P w K mg Px "_law_alone" ["_law_e"] 1 (wS cN)
theorem qX{f cB cG cN cP:XB}{fd:Qf}(F:cZ K "_law_told" "_law_told" fF f fd)(T:Txt mg aS aA aE aW)(m_PlayError:mg "PlayError"=some (.ref cP))(m_NoMove:mg "NoMove"=some (.ref cN))(x1:Xc K (.ref cN) (.ref cP)=some true)(x2:WX K (.ref cN) (.ref cN)=some true)(x3:PySem.W.ExcC K cN)(C:CTm P w K mg Px cB cG cN):bh P w K mg Px dm 8 f fd ["_law_game_here","_law_place","_law_text_here"] (wF K cB cG):=by
 refine F.ok1 j5 λcdv A Py s H vs Q E hr h=>?_;obtain⟨g,b,kq,p,row,sd,wi,hi,hs,ks,us,ts,es,st,m,z,rfl,M,kQ,kE⟩:=h;have hu:=bZ hr;refine⟨_,(af (CQ (i:=3) C.move_of hr (λ_ _ z=>z) (az (cv 0) (az (cv 1) (az (cv 2) pan))) m_PlayError j5.nd rfl (λ_=>(ao (aY (PW.pt (gO (bM (kB (cX K) bu T.isinstance (az (cv 3) (az (kg (v:=.ref _) ⟨_,m_NoMove,rfl⟩) pan)))) (fW (bM (Jz C._law_alone (hr.n _) (az (cv 3) pan)))))) (ao (aC dq)) aG))))
  (ao (aC aP))),?_⟩
 show bg _ _ _ [oR g,oR p,oT z,none] H;refine Mz (ae (aa rfl) (ae (aa rfl) (ae (aa rfl) aw))) ⟨g,b,kq,p,row,sd,wi,hi,hs,ks,us,ts,es,st,m,z,rfl,M,kQ,λhno H' s=>⟨x1,λa ha=>?_⟩⟩;have ea:(upd H' a (Ch (.ref cN) a)) a=some (Ch (.ref cN) a):=ah;have sa:=s.upd (o:=Ch (.ref cN) a) ha;show ju _ _ _ _ [oR g,oR p,oT z,oR a] _;exact pV (λb H2=>b=true/\aj H H2) (λR zz=>Cr (vY (ae (aa rfl) (ae aq aw)) wX ea x3 x2) (J4 (ae (aa rfl) aw) ⟨a,rfl,ea,λH2 s2=>zz _ _ ⟨rfl,sa.trans s2⟩⟩)) (λH2 w=>aK aq (kE hno _ w.2)) (λH2 w=>nomatch w.1)
end
section
def jj(K:Frag)(cB cG:XB):Sp:=λvs H Q _=>∃(g b:XB)(wi hi:Int)(hs:List Int)(ks rs ts es:List V)(st:Str)(s:Int),vs=[.ref g,.int s]/\gT cG H g b ks rs ts es st/\cr K cB H b wi hi hs/\0<=s/\s<wi*hi/\Q (.str (lS wi s)) H
structure CLx(P:P6)(w:P9)(K:Frag)(mg:PN)(Px:Qe)(cB cG:XB):Prop where
 _law_square_text:dG P w K mg Px "_law_square_text" ["_law_game_here","_law_square"] 1 (jj K cB cG)
theorem jw{f cB cG:XB}{fd:Qf}(F:cZ K "_law_square_text" "_law_square_text" bY f fd)(B:kT K cB)(D:xW K cG):bh P w K mg Px dm 1 f fd ["_law_game_here","_law_square"] (jj K cB cG):=by
 refine F.ok1 jv λcdv A Py s H vs Q E hr h=>?_;obtain⟨g,b,wi,hi,hs,ks,rs,ts,es,st,sq,rfl,G,O,s0,s1,q⟩:=h;have hu:=bZ hr;have w1:=O.w1;have w8:=O.w8;have m0:=Wb sq (by lia:wi≠0);have m1:=Wc sq (by lia:0<wi);have d0:0<=sq / wi:=Wg s0 (by lia);have d8:=mU w1 O.h8 s1;refine⟨_,(ao (aC (ak (cj K aP (ak (cv 1) (cJ K (cJ K (cv 0))))) (cj K aP (ak (cv 1) (cJ K (cJ K (cv 0)))))))),?_⟩;show cL _ _ [oR g,oJ sq] H;have wE:Ev (B0 K (B0 K (ci 0) "board") "wide") [some (.ref g),some (.int sq)] H (.int wi):=bq (bq (aa rfl) (G.board D)) (O.wide B);refine aK (cQ (cC (z:="abcdefgh") aq (aU (aa rfl) wE (by lia)) (by decide+kernel) (DS m0 (by lia))) (cC (z:="12345678") aq (bF (aa rfl) wE ?_) (by decide+kernel) (Du d0 d8)) (by show 1+1<=fv;decide)) ?_
 .first|exact⟨by lia,by lia⟩|exact .inl ⟨by lia,by lia⟩|lia
 .rw[xR];exact q
theorem qY{f cB cG:XB}{fd:Qf}(F:cZ K "_law_text" "_law_text" dX f fd)(B:kT K cB)(D:xW K cG)(C:CLx P w K mg Px cB cG):bh P w K mg Px dm 3 f fd ["_law_game_here","_law_move"] (gV K cB cG):=by
 refine F.ok1 fU λcdv A Py s H vs Q E hr h=>?_;obtain⟨g,b,mv,wi,hi,hs,ks,rs,ts,es,st,s,gl,t,rfl,G,O,em,s0,s1,g0,g1,t01,k⟩:=h;have hu:=bZ hr;have w1:=O.w1;have w8:=O.w8;have h8:=O.h8;refine⟨_,(af (vq (fQ (cc (N:=["_law_square","_law_game_here"]) (src:=[none,some 0]) (am dX) ["_law_game_here","_law_move","_law_start","_law_goal","_law_taken"]) (kpt K (cv 1)) (λ_ _ _=>(bo (i:=0) ["_law_square","_law_game_here"])) (λ_ _ _=>bP) (λ_ _ _=>(eQ (aN K hu (cv 0) ag) (jQ ag) (aH C._law_square_text hr (az (cv 1) (az (cv 0) pan)))))) (kgl K (n:=3) (cf (bA 2 fU.nd) (cf (bA 3 fU.nd) (cf (bA 4 fU.nd) jn)))))
  (af (aY (aN K hu (cv 4) (jQ ag)) (ao (aC (ak (ak (cv 2) aP) (cv 3)))) aG)
  (af (aY (aN K hu (cv 4) (cv 3)) (ao (aC (ak (ak (cv 2) aP) (cv 3)))) aG)
  (ao (aC (ak (ak (ak (ak (cv 2) aP) (cv 4)) aP) (cv 3))))))),?_⟩
 show bg _ _ _ [oR g,oR mv,none,none,none] H;have lx:("x":Str).length=1:=by decide+kernel
 have ld:("-":Str).length=1:=by decide+kernel
 have callE:∀n:Int,0<=n->n<wi*hi->Ev (cY (jj K cB cG) (ba (ci 1) (ba (ci 0) cE))) [some (.int n),some (.ref g)] H (.str (lS wi n)):=λn n0 n1=>aL (ae (aa rfl) (ae (aa rfl) aw)) (λQ qq=>⟨g,b,wi,hi,hs,ks,rs,ts,es,st,n,rfl,G,O,n0,n1,qq⟩);have elE:∀n:Int,(n= -1\/(0<=n/\n<wi*hi))->Ev (Ip (dD (dE K .Lt (ci 0) (tC (.int 0)))) (BZ (tC (.int 1))) (cY (jj K cB cG) (ba (ci 1) (ba (ci 0) cE)))) [some (.int n),some (.ref g)] H (if n<0 then .int (-1)else .str (lS wi n)):=λn hn=>by
  intro Q qq;refine(show Tv (dD (dE K .Lt (ci 0) (tC (.int 0)))) [some (.int n),some (.ref g)] H (decide (n<0))from aX (ug (aa rfl) aq)) _ ?_
  by_cases h:n<0
  .rw[Pz h];rw[PF h]at qq;exact iG ((ja aq) _ qq)
  .rw[PB h];rw[PD h]at qq;exact gF ((callE n (by lia) (by lia)) _ qq)
 refine Af (uq (xs:=[.int s,.int gl,.int t]) (rest:=[oR g]) (aa rfl) (da.of em) (by show 3<=fv;decide) rfl (λ_=>true) (λx=>match x with| .int n=>if n<0 then .int (-1)else .str (lS wi n)|v=>v) (λx hx=>dH) (λx hx _=>?_) (λd' hd'=>JL (aO.of ah) ?_))
 .rcases T8.mp hx with rfl|hx
  .exact elE s (.inr ⟨s0,s1⟩)
  .rcases T8.mp hx with rfl|hx
   .exact elE gl (.inr ⟨g0,g1⟩)
   .rw[Ud.mp hx];exact elE t t01
 have sa:=(aj.refl H).upd (o:=.lst (([V.int s,.int gl,.int t].filter λ_=>true).map λx=>match x with| .int n=>if n<0 then .int (-1)else .str (lS wi n)|v=>v)) hd'
 generalize upd H d' _=H2 at sa ⊢;show bg _ _ _ [oR g,oR mv,some (if s<0 then .int (-1)else .str (lS wi s)),some (if gl<0 then .int (-1)else .str (lS wi gl)),some (if t<0 then .int (-1)else .str (lS wi t))] H2;rw[PD (by lia:¬s<0),PD (by lia:¬gl<0)]
 rcases t01 with rfl|⟨t0,t1⟩
 .rw[PF (by decide)];refine aT (b:=true) (aX (dY (i:= -1) (j:= -1) (aa rfl) (ja aq))) (λ_=>?_) (λh=>nomatch h);refine aK (cQ (cQ (aa rfl) aq (by rw[bn,ld];decide)) (aa rfl) (by rw[bQ,bn,bn,ld];decide)) ?_;have:=k H2 sa;unfold uI at this
  rwa[PF rfl]at this
 .rw[PD (by lia:¬t<0)];refine aT (b:=false) (aX (λQ qq=>(show Ev (ci 4) _ _ (.str (lS wi t))from aa rfl) _ ((ja aq) _ qq))) (λh=>nomatch h) (λ_=>?_);have:=k H2 sa;unfold uI at this;rw[PD (by lia:¬t= -1)]at this;refine aT (aX (dN (aa rfl) (aa rfl))) (λh=>?_) (λh=>?_)
  .have e:=Iv w1 t0 g0 (PH h);rw[PF e]at this;exact aK (cQ (cQ (aa rfl) aq (by rw[bn,lx];decide)) (aa rfl) (by rw[bQ,bn,bn,lx];decide)) this
  .have e:¬t=gl:=λe=>PJ h (by rw[e]);rw[PD e]at this;exact aK (cQ (cQ (cQ (cQ (aa rfl) aq (by rw[bn,lx];decide)) (aa rfl) (by rw[bQ,bn,bn,lx];decide)) aq (by rw[bQ,bQ,bn,bn,lx,ld];decide)) (aa rfl) (by rw[bQ,bQ,bQ,bn,bn,bn,lx,ld];decide)) this
end
section
theorem lY(F:cZ K "_law_changed" "_law_changed" cT f fd)(T:Txt mg aS aA aE aW):bh P w K mg Px dm 1 f fd ["_law_texts","_law_others","_law_cell"] zX:=by
 refine F.ok1 cF λcdv A Py s H vs Q E hr h=>?_;obtain⟨d1,d2,c,ys,zs,rfl,h1,h2,yn,zn,ty,tz,k⟩:=h;have hu:=bZ hr;refine⟨_,(af (av 3 cF.nd (cj K (ak (ak (cv 0) (cv 1)) (bp (az aP pan))) (ak (ak (cv 2) ag) (ak (ak (kB (ib K) cb T.len (az (cv 0) pan)) (kB (ib K) cb T.len (az (cv 1) pan))) ag))))
  (af (av 4 cF.nd (ak (ak (cv 2) ag) (ak (kB (ib K) cb T.len (az (cv 3) pan)) ag)))
  (af (av 5 cF.nd (cj K aP (ak (ak (cv 2) ag) ag)))
  (af (av 6 cF.nd (ak (cv 2) ag))
  (af (aY (aN K hu (cv 6) ag) (ao (aC (nN PySem.F.slot_str_upper PySem.F.type_str_upper AY (cv 3)))) aG)
  (af (aY (aN K hu (cv 6) ag) (ao (aC (ak (cv 3) (cj K (bp (az (cv 3) (az aP (az aP (az aP pan))))) (ak (ak (cv 2) ag) ag))))) aG)
  (af (aY (aN K hu (cv 6) ag) (ao (aC aP)) aG)
  (af (aY (aN K hu (cv 6) ag) (ao (aC (ak (xm K (cv 3) dh (cD (cv 4))) (xm K (cv 3) (cD (ak (cv 4) ag)) dh)))) aG)
  (af (aY (aN K hu (cv 6) ag) (ao (aC (ak (ak (xm K (cv 3) dh (cD (cv 4))) (cv 5)) (xm K (cv 3) (cD (cv 4)) dh)))) aG)
  (af (IQ (CP K hu (cv 6)) (Az (AI (cv 3) (xb (ak (ak (cv 2) ag) ag)) (xb (ak (ak (cv 2) ag) ag)))) aG)
  (ao (aC (ak (ak (xm K (cv 3) dh (cD (cv 4))) (cv 5)) (xm K (cv 3) (cD (ak (cv 4) ag)) dh)))))))))))))),?_⟩
 show bg _ _ _ [oR d1,oR d2,oJ c,none,none,none,none] H;have ta:HZ "a1-a2":=by constructor<;>decide+kernel
 refine bC (λv H'=>∃y,v=.str y/\HZ y/\aj H H') (λQ q=>?_) ?_
 .refine No (iE (iE ((aa rfl) _ ((aa rfl) _ (xM h1 h2 (by rw[T7,T7];lia) λp hp=>?_)))));have sa:=(aj.refl H).upd (o:=.lst (ys.map V.str++zs.map V.str)) hp;have ea:(upd H p (.lst (ys.map V.str++zs.map V.str))) p=some (.lst (ys.map V.str++zs.map V.str)):=ah;generalize upd H p (.lst (ys.map V.str++zs.map V.str))=H1 at sa ea ⊢;refine lM (dP aq (jD ⟨by show 1<=fv;decide,λp2 hp2=>?_⟩));have sb:=(aj.refl H1).upd (o:=.lst [.str "a1-a2"]) hp2;refine xM (sb _ _ ea) ah (by rw[Uj,T7,T7];show _+1<=_;lia) λp3 hp3=>?_;have sc:=(sa.trans sb).upd (o:=.lst (ys.map V.str++zs.map V.str++[.str "a1-a2"])) hp3;have ec:(upd (upd H1 p2 (.lst [.str "a1-a2"])) p3 (.lst (ys.map V.str++zs.map V.str++[.str "a1-a2"]))) p3=some (.lst ((ys++zs++[("a1-a2":Str)]).map V.str)):=by rw[ah];simp
  generalize upd (upd H1 p2 (.lst [.str "a1-a2"])) p3 (.lst (ys.map V.str++zs.map V.str++[.str "a1-a2"]))=H3 at sc ec ⊢;have n0:0<((ys.map V.str).length:Int)+((zs.map V.str).length:Int)+1:=by lia
  refine(aU (bF (aa rfl) aq ⟨by decide,by decide⟩) (bG (bG (dt (aa rfl) (.inl (aO.of (sc _ _ h1)))) (dt (aa rfl) (.inl (aO.of (sc _ _ h2))))) aq) n0) _ ?_;have i0:0<=c / 8 % (((ys.map V.str).length:Int)+((zs.map V.str).length:Int)+1):=Wb _ (by lia);have i1:=Wc (c / 8) n0;obtain⟨y,ey,hy⟩:=HB (ss:=ys++zs++[("a1-a2":Str)]) i0 (by rw[Uj,Uj];rw[T7,T7]at i1 ⊢;show _<((_+_+1:Nat):Int);lia);refine⟨_,.str y,.inl (aO.of ec),ey,q _ _ ⟨y,rfl,?_,sc⟩⟩
  rcases Ul.mp hy with hy|hy
  .rcases Ul.mp hy with hy|hy
   .exact ty y hy
   .exact tz y hy
  .rw[Ud.mp hy];exact ta
 rintro _ H1 ⟨y,rfl,⟨y8,yc⟩,s1⟩;show bg _ _ _ [oR d1,oR d2,oJ c,oT y,none,none,none] H1;have yz:y.length<=fv:=by rw[P4];lia
 refine a8 (aU (bF (aa rfl) aq ⟨by decide,by decide⟩) (bG (rB (aa rfl) yz) aq) (by lia)) ?_;generalize c / 512 % ((y.length:Int)+1)=pl;have l22:("abcdefgh12345678-x 0AX":Str).cps.toList.length=22:=by decide+kernel
 have b0:0<=c / 8192 % 22:=Wb _ (by decide);have b1:c / 8192 % 22<22:=Wc _ (by decide);have hlt:(c / 8192 % 22).toNat<("abcdefgh12345678-x 0AX":Str).cps.toList.length:=by rw[l22];lia
 have eq:=bI (Ua hlt);rw[Wk b0]at eq;refine a8 (cC (z:="abcdefgh12345678-x 0AX") aq (aU (bF (aa rfl) aq ⟨by decide,by decide⟩) aq (by decide)) (by decide+kernel) eq) ?_;generalize("abcdefgh12345678-x 0AX":Str).cps.toList[(c / 8192 % 22).toNat]=ch;refine a8 (aU (aa rfl) aq (by decide)) ?_;generalize c % 8=kd;show bg _ _ _ [oR d1,oR d2,oJ c,oT y,oJ pl,oT (⟨#[ch]⟩),oJ kd] H1;have fin:∀{te:TE}{σ:St}{D:iI}{m:Nat},D.rt=Q->Cm te σ H1 m->cL te D σ H1:=λe h=>qt (h _ λz H' _ s=>by rw[e];exact k z H' (s1.trans s));have p1:∀H',Cm (BY K (ci 3) ik (nP (ci 4))) [some (.ref d1),some (.ref d2),some (.int c),some (.str y),some (.int pl),some (.str ⟨#[ch]⟩),some (.int kd)] H' 8:=λH'=>vZ (aa rfl) lJ (jC (aa rfl)) y8 (by decide);have p2:∀H',Cm (ci 5) [some (.ref d1),some (.ref d2),some (.int c),some (.str y),some (.int pl),some (.str ⟨#[ch]⟩),some (.int kd)] H' 1:=λH'=>v1 (aa rfl) (VO 1);have p3:∀H',Cm (BY K (ci 3) (nP (ci 4)) ik) [some (.ref d1),some (.ref d2),some (.int c),some (.str y),some (.int pl),some (.str ⟨#[ch]⟩),some (.int kd)] H' 8:=λH'=>vZ (aa rfl) (jC (aa rfl)) lJ y8 (by decide);have p4:∀H',Cm (BY K (ci 3) (nP (kJ .Add (ci 4) (tC (.int 1)))) ik) [some (.ref d1),some (.ref d2),some (.int c),some (.str y),some (.int pl),some (.str ⟨#[ch]⟩),some (.int kd)] H' 8:=λH'=>vZ (aa rfl) (jC (bG (aa rfl) aq)) lJ y8 (by decide);refine aT (aX (dY (aa rfl) aq)) (λ_=>aK (JP (aa rfl) (by lia) yc) (k _ _ s1)) (λ_=>?_);refine aT (aX (dY (aa rfl) aq)) (λ_=>?_) (λ_=>?_)
 .refine fin rfl (m:=16) (jo (m:=8) (m':=8) (v1 (aa rfl) y8) (λH2 s2 Q' q'=>?_) (by decide));obtain⟨v,ev,hv⟩:=HB (ss:=[y,""," ","-"]) (i:=c / 512 % 4) (Wb _ (by decide)) (Wc _ (by decide));have l0:("":Str).length<=8:=by decide+kernel
  have l1:(" ":Str).length<=8:=by decide+kernel
  have l2:("-":Str).length<=8:=by decide+kernel
  refine Jr (ae (aa rfl) (ae aq (ae aq (ae aq aw)))) (by show 4<=1000;decide) (λH3 _=>aU (bF (aa rfl) aq ⟨by decide,by decide⟩) aq (by decide)) ev λH3 s3=>q' v H3 ?_ s3;simp only[T8,Uk,or_false]at hv
  rcases hv with rfl|rfl|rfl|rfl<;>assumption
 refine aT (aX (dY (aa rfl) aq)) (λ_=>aK aq (k _ _ s1)) (λ_=>?_);refine aT (aX (dY (aa rfl) aq)) (λ_=>fin rfl (jo (p1 H1) (λH2 _=>p4 H2) (by decide))) (λ_=>?_);refine aT (aX (dY (aa rfl) aq)) (λ_=>fin rfl (jo (jo (p1 H1) (λH2 _=>p2 H2) (by decide)) (λH2 _=>p3 H2) (by decide))) (λ_=>?_);refine aT (aX (dY (aa rfl) aq)) (λ_=>?_) (λ_=>fin rfl (jo (jo (p1 H1) (λH2 _=>p2 H2) (by decide)) (λH2 _=>p4 H2) (by decide)));have j0:=Wb (c / 512) (by decide:(2:Int)≠0);have j1:=Wc (c / 512) (by decide:(0:Int)<2);have jE:∀H',Ev (kJ .Mod (kJ .FloorDiv (ci 2) (tC (.int 512))) (tC (.int 2))) [some (.ref d1),some (.ref d2),some (.int c),some (.str y),some (.int pl),some (.str ⟨#[ch]⟩),some (.int kd)] H' (.int (c / 512 % 2)):=λH'=>aU (bF (aa rfl) aq ⟨by decide,by decide⟩) aq (by decide);have lx:("x":Str).length<=1000:=by decide+kernel
 have ld:("-":Str).length<=1000:=by decide+kernel
 have nx:("-":Str)≠"x":=by decide+kernel
 refine qt ((aa rfl) _ ⟨y,rfl,by lia,jE H1 _ ?_⟩)
 rcases(show c / 512 % 2=0\/c / 512 % 2=1 by lia)with e|e
 .exact .inl ⟨by rw[e],jE H1 _ (.inl ⟨by rw[e],"-","x",rfl,rfl,nx,lx,λr=>k r _ s1⟩)⟩
 .exact .inr ⟨by rw[e],jE H1 _ (.inr ⟨by rw[e],"x","-",rfl,rfl,nx.symm,ld,λr=>k r _ s1⟩)⟩
end
def wM(K:Frag):Sp:=λvs H Q _=>∃(a:XB)(ns:List Int),vs=[.ref a]/\aO K H a (ns.map V.int)/\ns.length<=63/\∀H',Q (.bl true) H'
structure CL(P:P6)(w:P9)(K:Frag)(mg:PN)(Px:Qe)(cB cG:XB):Prop extends LG1 P w K mg Px where
 _law_game:dG P w K mg Px "_law_game" ["_law_script"] 8 (wO K cB cG)
 _law_row:dG P w K mg Px "_law_row" ["_law_script","_law_game_here","_law_start"] 2 (zW K cB cG)
 _law_moves:dG P w K mg Px "_law_moves" ["_law_game_here","_law_place"] 4 (jX K cB cG)
 _law_text:dG P w K mg Px "_law_text" ["_law_game_here","_law_move"] 3 (gV K cB cG)
 move_text:dG P w K mg Px "move_text" ["game","move"] 3 (gV K cB cG)
 _law_told:dG P w K mg Px "_law_told" ["_law_game_here","_law_place","_law_text_here"] 8 (wF K cB cG)
 _law_whole:dG P w K mg Px "_law_whole" ["_law_thing"] 1 sB
 _law_changed:dG P w K mg Px "_law_changed" ["_law_texts","_law_others","_law_cell"] 1 zX
section
theorem Jl{f cB cG:XB}{fd:Qf}(F:cZ K "law" "law" iz f fd)(T:Txt mg aS aA aE aW)(B:kT K cB)(D:xW K cG)(C:CL P w K mg Px cB cG):bh P w K mg Px dm 9 f fd ["_law_script"] (wM K):=by
 refine F.ok1 eF λcdv A Py s H vs Q E hr h=>?_;obtain⟨a,ns,rfl,hS,hlen,k⟩:=h;have hu:=bZ hr;refine⟨_,(af (av 1 eF.nd (aH C._law_game hr (az (cv 0) pan)))
  (af (av 2 eF.nd (dn (az (aH C._law_row hr (az (cv 0) (az (cv 1) (az ag pan)))) (az (ak (aH C._law_cell_at hr (az (cv 0) (az ag pan))) ag) pan))))
  (af (av 3 eF.nd (xm K (aH C._law_moves hr (az (cv 1) (az (cv 2) pan))) dh (cD ag)))
  (af (jl (i:=4) rfl (cc (N:=["_law_move","_law_game_here"]) (src:=[none,some 1]) (am iz) ["_law_script","_law_game_here","_law_place","_law_found","_law_texts","_law_move","_law_text_here","_law_told_here","_law_back","_law_others","_law_by_text","_law_k","_law_cell"]) (rS K (aH C._law_moves hr (az (cv 1) (az (cv 2) pan)))) (λ_ _ _=>(bo (i:=0) ["_law_move","_law_game_here"])) (λ_ _ _=>bP) (λ_ _ _=>(aH C._law_text hr (az (cv 1) (az (cv 0) pan)))) eF.nd rfl (Or.inl rfl) rfl (Or.inl rfl))
  (af (fL Qj rfl (Nf K T.zip (az (cv 3) (az (cv 4) pan))) (Nl K (n:=2) (cf (bA 5 eF.nd) (cf (bA 6 eF.nd) jn))) (af (av 7 eF.nd (aH C.move_text hr (az (cv 1) (az (cv 5) pan))))
  (af (aY (PW.pt (fP (bO (bM (A9 .str T.isinstance T.str rL (cv 7)))) (eP (aN K hu (cv 7) (cv 6))))) (ao (aC gw)) aG)
  (af (av 8 eF.nd (aH C._law_told hr (az (cv 1) (az (cv 2) (az (cv 6) pan)))))
  (ao (aY (PW.pt (fP (bO (bM (A9 .tuple T.isinstance T.tuple uz (cv 8)))) (fP (aN K hu (cv 8) (cv 5)) (eP (aN K hu (fQ (cc (N:=["_law_one"]) (src:=[none]) (am iz) ["_law_script","_law_game_here","_law_place","_law_found","_law_texts","_law_move","_law_text_here","_law_told_here","_law_back","_law_others","_law_by_text","_law_k","_law_cell"]) (kpt K (cv 8)) (λ_ _ _=>(bo (i:=0) ["_law_one"])) (λ_ _ _=>(iU (bO (bM (aH C._law_whole hr (az (cv 0) pan)))))) (λ_ _ _=>(cv 0))) (bp pan)))))) (ao (aC gw)) aG))))))
  (af (jl (i:=9) rfl (cc (N:=["_law_move","_law_game_here"]) (src:=[none,some 1]) (am iz) ["_law_script","_law_game_here","_law_place","_law_found","_law_texts","_law_move","_law_text_here","_law_told_here","_law_back","_law_others","_law_by_text","_law_k","_law_cell"]) (rS K (xm K (aH C._law_moves hr (az (cv 1) (az (dn (az (cj K (cv 2) ag) (az (ak ag (cj K (cv 2) ag)) pan))) pan))) dh (cD ag))) (λ_ _ _=>(bo (i:=0) ["_law_move","_law_game_here"])) (λ_ _ _=>bP) (λ_ _ _=>(aH C._law_text hr (az (cv 1) (az (cv 0) pan)))) eF.nd rfl (Or.inl rfl) rfl (Or.inl rfl))
  (af (av 10 eF.nd (kdz K (az (cv 4) (az (aH C._law_moves hr (az (cv 1) (az (cv 2) pan))) pan)) T.dict T.zip))
  (af (fL Qj rfl (Bb K T.enumerate (ak (bp (az (aH C._law_cell_at hr (az (cv 0) (az ag pan))) pan)) (xm K (cv 0) (cD ag) (cD ag)))) (Nl K (n:=2) (cf (bA 11 eF.nd) (cf (bA 12 eF.nd) jn))) (af (av 6 eF.nd (aH C._law_changed hr (az (xm K (cv 4) dh (cD ag)) (az (cv 9) (az (aH C._law_mixed hr (az (cv 12) (az (cv 11) pan))) pan)))))
  (ao (aY (Ng K hu (aH C._law_told hr (az (cv 1) (az (cv 2) (az (cv 6) pan)))) (Nm hu (cv 10) (cv 6))) (ao (aC gw)) aG))))
  (ao (aC gw)))))))))),?_⟩
 show bg _ _ _ [oR a,none,none,none,none,none,none,none,none,none,none,none,none] H;refine bC (λv H'=>∃(g b kq:XB)(wi hi:Int)(hs:List Int)(ks:List Nat)(us:List (bj×XB))(ts es:List ((Str×Str)×XB))(st:Str),v=.ref g/\kS K cB cG H' g b kq wi hi hs ks us ts es st/\(hs.length:Int)<wi*hi/\aj H H') (λQ q=>?_) ?_
 .exact dZ (ae (aa rfl) aw) ⟨a,ns,rfl,hS,λg b kq wi hi hs ks us ts es st H' h1 h2 h3 h4=>q _ _ ⟨g,b,kq,wi,hi,hs,ks,us,ts,es,st,rfl,h1,h3,h4⟩⟩
 rintro _ H1 ⟨g,b,kq,wi,hi,hs,ks,us,ts,es,st,rfl,G,ln,s1⟩;have hS1:=s1.seq hS;have mm:=G.bd.many;refine bC (λv H'=>∃(pl:XB)(z:Str)(sd:Int),v=.ref pl/\H' pl=some (.tup [.str z,.int sd])/\DT wi hi hs ks z/\aj H1 H') (λQ q=>?_) ?_
 .refine tupY (jp (dZ (ae (aa rfl) (ae (aa rfl) (ae aq aw))) ⟨a,g,b,ns,10,wi,hi,hs,ks,cI us,bT ts,bT es,st,rfl,hS1,by decide,by decide,G.gm,G.bd,G.ltr,G.k1,G.k6,ln,λz H' e1 e2 s=>?_⟩));exact gE (aU (aL (x:=.int (cellAt ns 17)) (ae (aa rfl) (ae aq aw)) (λQ q=>⟨a,ns,17,rfl,s.seq hS1,by decide,q⟩)) aq (by decide)) (AU ⟨by show 2<=fv;decide,λt ht=>q _ _ ⟨t,z,_,rfl,ah,⟨e1,e2⟩,s.upd ht⟩⟩)
 rintro _ H2 ⟨pl,z,sd,rfl,epl,R,s2⟩;have hS2:=s2.seq hS1;have G2:=G.same s2;have rlen:=R.len;have rl:(z.length:Int)=wi*hi:=by rw[rlen];lia
 have RG:=R.g G.ltr mm.2;have mvY:∀(H':Hp)(t:XB)(v:Int)(Q:VK),aj H2 H'->H' t=some (.tup [.str z,.int v])->(∀(m:List (List Int))(d:XB)(ps:List (List Int×XB))(H'':Hp),jR wi hi hs z us v (sqsOf z v) m->ps.map (·.1)=m->H'' d=some (.lst (kRefs ps))->nX H'' ps->ps.length<=4096->aj H' H''->Q (.ref d) H'')->jX K cB cG [.ref g,.ref t] H' Q E0:=λH' t v Q s ht q=>
  ⟨g,b,kq,t,z,v,wi,hi,hs,ks,us,ts,es,st,rfl,G2.same s,da.of ht,RG,rl,λm d H'' h1 h2 _ h4 h5=>by
   obtain⟨ps,p1,p2,p3⟩:=h4;refine q m d ps H'' h1 p1 p2 (λp hp=>(p3 p hp).2) ?_ h5;have:=PM List.length p1;rw[T7]at this;lia⟩
 have PC:∀{H':Hp}{t:XB}{v:Int}{m:List (List Int)},aj H2 H'->H' t=some (.tup [.str z,.int v])->jR wi hi hs z us v (sqsOf z v) m->DU K cB cG H' g b kq t z v wi hi hs ks us ts es st m:=λs e hm=>⟨G2.same s,da.of e,R,hm⟩;refine bC (λv H'=>∃(d:XB)(m:List (List Int))(ps:List (List Int×XB)),v=.ref d/\jR wi hi hs z us sd (sqsOf z sd) m/\ps.map (·.1)=m/\H' d=some (.lst ((kRefs ps).take 8))/\nX H' ps/\ps.length<=4096/\aj H2 H') (λQ q=>Hs (dZ (ae (aa rfl) (ae (aa rfl) aw)) (mvY H2 pl sd _ (aj.refl _) epl λm d ps H' h1 h2 h3 h4 h6 h7=>lJ _ (jC aq _ ⟨_,aO.of h3,λq1 hq1=>q _ _ ⟨q1,m,ps,rfl,h1,h2,?_,h4.same ((aj.refl H').upd hq1),h6,h7.upd hq1⟩⟩)))) ?_
 .rw[ah];exact PM (λl=>some (HO.lst l)) (BN (kRefs ps) 8)
 rintro _ H3 ⟨d,m,ps,rfl,hm,p1,ed,kp,pl4,s3⟩;have hS3:=s3.seq hS2;have mB:∀k∈m,MB wi hi k:=(PC (aj.refl _) epl hm).mv;have one:∀{k k':List Int},k∈m->k'∈m->mvK wi k=mvK wi k'->k=k':=λh1 h2 e=>(PC (aj.refl _) epl hm).one h1 h2 e;refine bC (λv H'=>∃(tx:XB),v=.ref tx/\H' tx=some (.lst ((m.map (mvK wi)).map V.str))/\aj H3 H') (λQ q=>xK (dZ (ae (aa rfl) (ae (aa rfl) aw)) (mvY H3 pl sd _ s3 (s3 _ _ epl) λm' d' ps' H' h1 h2 h3 h4 h6 h7=>⟨d',rfl,⟨_,aO.of h3⟩,?_⟩))) ?_
 .have em:m'=m:=h1.uniq hm;subst em;refine wx (G2.same (s3.trans h7)) h3 h4 (by lia) (λp hp=>mB _ (by rw[<-h2];exact T9.mpr ⟨p,hp,rfl⟩)) rfl λd'' H'' s'' e''=>q _ _ ⟨d'',rfl,?_,h7.trans s''⟩;rw[e'',<-h2,Uf,Uf,Uf];rfl
 rintro _ H4 ⟨tx,rfl,etx,s4⟩;have hS4:=s4.seq hS3;have s24:=s3.trans s4;show bg _ _ _ [oR a,oR g,oR pl,oR d,oR tx,none,none,none,none,none,none,none,none] H4;have ml:ps.length=m.length:=by rw[<-p1,T7]
 refine cO (λσ' H'=>(∃o5 o6 o7 o8,σ'=[oR a,oR g,oR pl,oR d,oR tx,o5,o6,o7,o8,none,none,none,none])/\aj H4 H') (λK' hK=>?_) ?_
 .refine Bv (xs:=(kRefs ps).take 8) (ys:=(m.map (mvK wi)).map V.str) (ae (aa rfl) (ae (aa rfl) aw)) (aO.of (s4 _ _ ed)) (aO.of etx) (by rw[Uu,T7,T7,T7];lia) (λi σ' H'=>(∃o5 o6 o7 o8,σ'=[oR a,oR g,oR pl,oR d,oR tx,o5,o6,o7,o8,none,none,none,none])/\aj H4 H') ⟨⟨_,_,_,_,rfl⟩,aj.refl _⟩ ?_ ?_ (λσ' H' h=>hK _ _ h)
  .rintro i σ' H' ⟨_,s5⟩;exact⟨aO.of (s5 _ _ (s4 _ _ ed)),aO.of (s5 _ _ etx)⟩
  .rintro i x y t _ H5 hx hy ht ⟨⟨o5,o6,o7,o8,rfl⟩,s5⟩;refine Bk ah ?_;have s6:=s5.trans ((aj.refl H5).upd (o:=.tup [x,y]) ht);generalize upd H5 t (HO.tup [x,y])=H6 at s6;have hx':(kRefs ps)[i]? =some x:=by
    have h8:i<8:=by have:=(Um.mp hx).1;rw[Uu]at this;lia
    rwa[Vj h8]at hx
   rw[Ub]at hx';obtain⟨p,ep,rfl⟩:=WQ.mp hx';have pm:=Us ep;have km:p.1∈m:=by rw[<-p1];exact T9.mpr ⟨p,pm,rfl⟩
   obtain rfl:V.str (mvK wi p.1)=y:=by rw[Ub,Ub,<-p1,Ub,ep]at hy;exact PL hy
   have ekp:=(s4.trans s6) _ _ (kp p pm);have G6:=G2.same (s24.trans s6);show bg _ _ _ [oR a,oR g,oR pl,oR d,oR tx,oR p.2,oT (mvK wi p.1),o7,o8,none,none,none,none] H6;refine bC (λv H'=>v=.str (mvK wi p.1)/\aj H6 H') (λQ q=>?_) ?_
   .obtain⟨s,gl,t',e,a1,a2,a3,a4,a5⟩:=mB _ km;rw[e]at ekp;exact dZ (ae (aa rfl) (ae (aa rfl) aw)) ⟨g,b,p.2,wi,hi,hs,_,_,_,_,st,s,gl,t',rfl,G6.gm,G6.bd,ekp,a1,a2,a3,a4,a5,λH'' s''=>q _ _ ⟨by rw[e];rfl,s''⟩⟩
   rintro _ H7 ⟨rfl,s7⟩;show bg _ _ _ [oR a,oR g,oR pl,oR d,oR tx,oR p.2,oT (mvK wi p.1),oT (mvK wi p.1),o8,none,none,none,none] H7;refine aT (iy (ck (aX (JR (aa rfl)))) (λ_=>aX (jP (aa rfl) (aa rfl)))) (λh=>?_) (λ_=>?_)
   .rw[Pz rfl]at h;exact PK h (by decide)
   have s67:=s6.trans s7;refine bC (λv H'=>∃q,v=.ref q/\H' q=some (.tup (p.1.map V.int))/\aj H7 H') (λQ q=>?_) ?_
   .refine dZ (ae (aa rfl) (ae (aa rfl) (ae (aa rfl) aw))) ⟨g,b,kq,pl,z,sd,wi,hi,hs,ks,us,ts,es,st,m,mvK wi p.1,rfl,PC (s24.trans s67) ((s24.trans s67) _ _ epl) hm,λk' q' H' hk' e hq s=>?_,λhno=>PK rfl (hno _ km)⟩;have:=one hk' km e;subst this;exact q _ _ ⟨q',rfl,hq,s⟩
   rintro _ H8 ⟨q8,rfl,e8,s8⟩;show ju _ _ _ _ [oR a,oR g,oR pl,oR d,oR tx,oR p.2,oT (mvK wi p.1),oT (mvK wi p.1),oR q8,none,none,none,none] H8;have ek8:=(s7.trans s8) _ _ ekp;refine pV (λb H'=>b=false/\aj H8 H') (λR' z'=>?_) (λH' w=>nomatch w.1) (λH' w=>⟨⟨_,_,_,_,rfl⟩,(s67.trans s8).trans w.2⟩);refine zK ((ck (aX (JT (aa rfl) e8))) _ (gF (zK ((aX (JQ (k:=true) (aa rfl) (aa rfl) (ui (n:=19) e8 ek8))) _ (gF (J1 ?_))))));have l3:=hm.len3 _ km;refine uq (aa rfl) (da.of e8) (by rw[T7,P4];lia) rfl (λ_=>false) (λv=>v) (λx hx=>?_) (λx hx w=>nomatch w) λd' hd'=>?_
   .obtain⟨n,_,rfl⟩:=T9.mp hx;exact ck (aX (aL (x:=.bl true) (ae (aa rfl) aw) (λQ q=>⟨n,rfl,q⟩)))
   .rw[List.filter_eq_nil_iff.mpr (λ_ _=>by decide),UZ];refine lM (jD ⟨VQ _,λr hr'=>?_⟩);have sa:aj H8 (upd H8 d' (.lst [])):=(aj.refl H8).upd hd';have sb:=(aj.refl (upd H8 d' (.lst []))).upd (o:=.lst []) hr';exact⟨true,Dz (n:=19) (sb _ _ ah) ah,z' _ _ ⟨rfl,sa.trans sb⟩⟩
 rintro _ H5 ⟨⟨o5,o6,o7,o8,rfl⟩,s5⟩;have s25:=s24.trans s5;have epl5:=s25 _ _ epl;have txm:∀k∈m,HZ (mvK wi k):=(PC (aj.refl _) epl hm).tx;refine bC (λv H'=>∃(oq:XB)(zs:List Str),v=.ref oq/\H' oq=some (.lst (zs.map V.str))/\zs.length<=8/\(∀z∈zs,HZ z)/\aj H5 H') (λQ q=>?_) ?_
 .refine xK (Hs (BX (dP (aa rfl) (jp (iM (bf (x:=.str z) (aa rfl) aq (.inr (da.of epl5)) rfl) (iZ aq (bf (x:=.int sd) (aa rfl) aq (.inr (da.of epl5)) rfl)) λt1 h1=>jD ?_)))));have sa:=(aj.refl H5).upd (o:=.tup [.str z,.int (1 - sd)]) h1;have et1:(upd H5 t1 (.tup [.str z,.int (1 - sd)])) t1=some (.tup [.str z,.int (1 - sd)]):=ah;generalize upd H5 t1 (.tup [.str z,.int (1 - sd)])=H6 at sa et1 ⊢;refine mvY _ t1 (1 - sd) _ (s25.trans sa) et1 λm2 d2 ps2 H7 hm2 p2 e2 kp2 pl2 s7=>?_;have M2:=PC (s25.trans sa) et1 hm2;refine lJ _ (jC aq _ ⟨_,aO.of e2,λq1 hq1=>⟨q1,rfl,⟨_,aO.of ah⟩,?_⟩⟩);have sb:=(aj.refl H7).upd (o:=.lst (cutV (kRefs ps2) none (some 4))) hq1;have ec:(upd H7 q1 (.lst (cutV (kRefs ps2) none (some 4)))) q1=some (.lst (kRefs (ps2.take 4))):=by rw[ah];exact PM (λl=>some (HO.lst l)) ((BN (kRefs ps2) 4).trans UY.symm)
  generalize upd H7 q1 (.lst (cutV (kRefs ps2) none (some 4)))=H8 at sb ec ⊢;have mem2:∀p∈ps2.take 4,p.1∈m2:=λp hp=>by rw[<-p2];exact T9.mpr ⟨p,UO hp,rfl⟩
  have l4:(ps2.take 4).length<=4:=by rw[Uu];lia
  refine wx (G2.same (((s25.trans sa).trans s7).trans sb)) ec (λp hp=>sb _ _ (kp2 p (UO hp))) (by lia) (λp hp=>M2.mv _ (mem2 p hp)) rfl λd'' H'' s'' e''=>q _ _ ⟨d'',_,rfl,e'',by rw[T7];lia,λw hw=>?_,((sa.trans s7).trans sb).trans s''⟩;obtain⟨p,hp,rfl⟩:=T9.mp hw;exact M2.tx _ (mem2 p hp)
 rintro _ H6 ⟨oq,zs,rfl,eoq,zl,tz,s6⟩;have s26:=s25.trans s6;have epl6:=s26 _ _ epl;have etx6:=(s5.trans s6) _ _ etx;show bg _ _ _ [oR a,oR g,oR pl,oR d,oR tx,o5,o6,o7,o8,oR oq,none,none,none] H6;refine bC (λv H'=>∃(bt:XB)(ps3:List (List Int×XB)),v=.ref bt/\H' bt=some (.dK (kvsZ [] (ps3.map λp=>(mvK wi p.1,V.ref p.2))))/\ps3.map (·.1)=m/\nX H' ps3/\aj H6 H') (λQ q=>Pd (dP (aa rfl) (jp (dZ (ae (aa rfl) (ae (aa rfl) aw)) (mvY H6 pl sd _ s26 epl6 λm3 d3 ps3 H' h1 h2 h3 h4 h6 h7=>jD ⟨tx,d3,ps3.map λp=>(mvK wi p.1,V.ref p.2),rfl,?_,?_,by rw[T7];lia,λr hr'=>?_⟩))))) ?_
 .have em:m3=m:=h1.uniq hm;subst em;refine aO.of ?_;rw[h7 _ _ etx6,<-h2,Uf,Uf,Uf];rfl
 .refine aO.of ?_;rw[h3,Uf];rfl
 .exact q _ _ ⟨r,ps3,rfl,ah,by rw[h2];exact h1.uniq hm,h4.same ((aj.refl H').upd hr'),h7.upd hr'⟩
 rintro _ H7 ⟨bt,ps3,rfl,ebt,p3,kp3,s7⟩;have s27:=s26.trans s7;have hS7:=((s5.trans s6).trans s7).seq hS4;show bg _ _ _ [oR a,oR g,oR pl,oR d,oR tx,o5,o6,o7,o8,oR oq,oR bt,none,none] H7;refine cO (λσ' H'=>True) (λK' hK=>?_) ?_
 .refine ue (λq' H'=>(∃cs:List Int,H' q'=some (.lst (cs.map V.int))/\cs.length<=64)/\aj H7 H') (λQ q=>?_) ?_
  .refine iE (lM (dP (aL (x:=.int (cellAt ns 18)) (ae (aa rfl) (ae aq aw)) (λQ q=>⟨a,ns,18,rfl,hS7,by decide,q⟩)) (jD ⟨by show 1<=fv;decide,λp hp=>?_⟩)));have sa:=(aj.refl H7).upd (o:=.lst [.int (cellAt ns 18)]) hp;have ea:(upd H7 p (.lst [.int (cellAt ns 18)])) p=some (.lst [.int (cellAt ns 18)]):=ah;generalize upd H7 p (.lst [.int (cellAt ns 18)])=H8 at sa ea ⊢;refine oU (aa rfl) (jC aq) (jC aq) (sa.seq hS7) λp2 hp2=>?_;have sb:=(aj.refl H8).upd (o:=.lst (cutV (ns.map V.int) (some 19) (some 28))) hp2;obtain⟨ss,es1,es3⟩:=Pf ns (some 19) (some 28);exact⟨p,p2,_,_,rfl,rfl,sb _ _ ea,ah,by rw[es1,T7,P4];show 1+_<=_;lia,λr hr'=>q _ _ ⟨⟨cellAt ns 18::ss,by rw[ah,es1];rfl,by rw[Ut];lia⟩,(sa.trans sb).upd hr'⟩⟩
  rintro q' H8 ⟨⟨cs,eq',cl⟩,s8⟩;refine⟨_,aO.of eq',λi σ' H'=>(∃o6 o11 o12,σ'=[oR a,oR g,oR pl,oR d,oR tx,o5,o6,o7,o8,oR oq,oR bt,o11,o12])/\aj H8 H',⟨⟨_,_,_,rfl⟩,aj.refl _⟩,?_,?_,λσ' H' _=>hK _ _ trivial⟩
  .rintro i σ' H' ⟨_,sb⟩;exact aO.of (sb _ _ eq')
  .rintro i x _ H9 t hx ⟨⟨o6,o11,o12,rfl⟩,s9⟩ nt;obtain⟨c,hc,rfl⟩:=T9.mp (Us hx);refine Bk ah ?_;have sx:=s9.trans ((aj.refl H9).upd (o:=.tup [.int (i:Int),.int c]) nt);generalize upd H9 t (HO.tup [V.int (i:Int),V.int c])=Hx at sx;have s7x:=s8.trans sx;show bg _ _ _ [oR a,oR g,oR pl,oR d,oR tx,o5,o6,o7,o8,oR oq,oR bt,oJ (i:Int),oJ c] Hx;refine bC (λv H'=>∃y,v=.str y/\aj Hx H') (λQ q=>BX (jp (oU (aa rfl) lJ (jC aq) (aO.of ((s7.trans s7x) _ _ etx6)) λp hp=>?_))) ?_
   .have sa:=(aj.refl Hx).upd (o:=.lst (cutV ((m.map (mvK wi)).map V.str) none (some 8))) hp;refine dP (aa rfl) (dP (aL (x:=.int (mixed c (i:Int))) (ae (aa rfl) (ae (aa rfl) aw)) (λQ q=>⟨_,_,rfl,q⟩)) (jD ⟨p,oq,mixed c (i:Int),(m.map (mvK wi)).take 8,zs,rfl,?_,(s7x.trans sa) _ _ (s7 _ _ eoq),by rw[Uu];lia,zl,λy hy=>?_,tz,λy H' s'=>q _ _ ⟨y,rfl,sa.trans s'⟩⟩))
    .rw[ah];exact PM (λl=>some (HO.lst l)) ((BN _ 8).trans UY.symm)
    .obtain⟨k',hk',rfl⟩:=T9.mp (UO hy);exact txm _ hk'
   rintro _ Hy ⟨y,rfl,sy⟩;have s7y:=s7x.trans sy;show ju _ _ _ _ [oR a,oR g,oR pl,oR d,oR tx,o5,oT y,o7,o8,oR oq,oR bt,oJ (i:Int),oJ c] Hy;refine pV (λb H'=>b=false/\aj Hy H') (λR' z'=>M8 ?_) (λH' w=>nomatch w.1) (λH' w=>⟨⟨_,_,_,rfl⟩,(sx.trans sy).trans w.2⟩);have mem3:∀{v:V},valV (kvsZ [] (ps3.map λp=>(mvK wi p.1,V.ref p.2))) (.inr y)=some v->∃p∈ps3,p.1∈m/\mvK wi p.1=y/\v=.ref p.2:=λh=>by
    rcases pj _ _ h with⟨pr,hpr,e1,e2⟩|e
    .obtain⟨p,hp,rfl⟩:=T9.mp hpr;exact⟨p,hp,by rw[<-p3];exact T9.mpr ⟨p,hp,rfl⟩,e1,e2.symm⟩
    .cases e
   have getY:∀(H':Hp)(Q:VK),aj Hy H'->Q ((valV (kvsZ [] (ps3.map λp=>(mvK wi p.1,V.ref p.2))) (.inr y)).getD .non) H'->uV (ci 10) (ci 6) [some (.ref a),some (.ref g),some (.ref pl),some (.ref d),some (.ref tx),o5,some (.str y),o7,o8,some (.ref oq),some (.ref bt),some (.int (i:Int)),some (.int c)] H' Q:=λH' Q s q=>
    (aa rfl) _ ⟨bt,rfl,.inl ⟨_,Rd.of ((s7y.trans s) _ _ ebt)⟩,(aa rfl) _ ⟨_,.inl ⟨_,.inr y,Rd.of ((s7y.trans s) _ _ ebt),rfl,rfl⟩,q⟩⟩
   refine dZ (ae (aa rfl) (ae (aa rfl) (ae (aa rfl) aw))) ⟨g,b,kq,pl,z,sd,wi,hi,hs,ks,us,ts,es,st,m,y,rfl,PC (s27.trans s7y) ((s27.trans s7y) _ _ epl) hm,λk' q1 H' hk' e1 hq1 s'=>getY H' _ s' ?_,λhno H' s'=>getY H' _ s' ?_⟩
   .cases hv:valV (kvsZ [] (ps3.map λp=>(mvK wi p.1,V.ref p.2))) (.inr y)with
    |none=>
     have:=(px _ _ hv).1;rw[<-p3]at hk';obtain⟨p,hp,rfl⟩:=T9.mp hk';exact PK e1 (this _ (T9.mpr ⟨p,hp,rfl⟩))
    |some v=>
     obtain⟨p,hp,hpm,ep,rfl⟩:=mem3 hv;have ek:=one hpm hk' (ep.trans e1.symm);subst ek;exact⟨true,.rr (ui (n:=19) hq1 ((s7y.trans s') _ _ (kp3 p hp))),z' _ _ ⟨rfl,s'⟩⟩
   .cases hv:valV (kvsZ [] (ps3.map λp=>(mvK wi p.1,V.ref p.2))) (.inr y)with
    |none=>exact⟨true,.nn,z' _ _ ⟨rfl,s'⟩⟩
    |some v=>
     obtain⟨p,hp,hpm,ep,rfl⟩:=mem3 hv;exact PK ep (hno _ hpm)
 .rintro σ' H' _;exact aK aq (k H')
end
end K15
namespace L2
open PySem PySem.W PyProof.Rows
theorem zG{q:P6}{loose:List Str}{XP:(PN)->Qe->Prop}{YP:P9->Qe->Prop}{α:Type}{Yf:PZ->α}{Ya:P9->α}{r:RowW}{d:DefRec}{kwd:List (Str×Qx)}{run:h9->List h9->Sem h9}(hY:∀(w:P9)(s₀ s₁:PZ),Yf s₀=Ya w->(∀b o,s₀.heap.get? b=some o->s₁.heap.get? b=some o)->YP w s₁.heap)(h:WalkO q loose XP YP r d kwd run):PySem.W.WalkX q loose XP Yf Ya r d kwd run:=
 λw s₀ s₁ mg mb G y a o pm cd doc dV kV ho hd hcd hD hmg hg args vals as L hpre hlay hrd hwl hlo=>h w s₀ s₁ mg mb G (hY w s₀ s₁ y L.keeps) a o pm cd doc dV kV ho hd hcd hD hmg hg args vals as hpre hlay hrd hwl hlo
theorem ln1{P:List h9->Prop}(h:∀a0:h9,P [a0]):∀us:List h9,us.length=1->P us
 | [a0],_=>h a0
theorem ln2{P:List h9->Prop}(h:∀a0 a1:h9,P [a0,a1]):∀us:List h9,us.length=2->P us
 | [a0,a1],_=>h a0 a1
theorem ln3{P:List h9->Prop}(h:∀a0 a1 a2:h9,P [a0,a1,a2]):∀us:List h9,us.length=3->P us
 | [a0,a1,a2],_=>h a0 a1 a2
theorem OY{P:List h9->Prop}(h:∀a0 a1 a2 a3:h9,P [a0,a1,a2,a3]):∀us:List h9,us.length=4->P us
 | [a0,a1,a2,a3],_=>h a0 a1 a2 a3
theorem ln7{P:List h9->Prop}(h:∀a0 a1 a2 a3 a4 a5 a6:h9,P [a0,a1,a2,a3,a4,a5,a6]):∀us:List h9,us.length=7->P us
 | [a0,a1,a2,a3,a4,a5,a6],_=>h a0 a1 a2 a3 a4 a5 a6
def uT:Nat->List Obj->Nat->Nat->PySem.W.BT
 |0,_,_,_=>.nil
 |f+1,l,a,b=>(l[b]?).elim .nil λo=>.node o (uT f l (2*a) (a+b)) (uT f l (2*a) (2*a+b))
def toT(s:PZ):SharedT:=⟨uT 12 s.heap.objs.toList 1 0,s.heap.objs.size,s.heap.life,s.gens,s.drawn,s.toks,s.os⟩
theorem Nd{p q:P6}{loose:List Str}{Xt:PZ->Bool}{α:Type}{Yf:PZ->α}{Ya:P9->α}{N:Nat}{g0:Bool}{H₀:Sk->Qe}{gs₀:Array RY}{d₀:Drawn}{k₀ m₀:Nat}{ann:Option h9}{n0 nb n nf:Nat}{b:List Ql}{env:Tz}{qp p0 p1 p2:So}{sa:P9->Rs->PZ}{sb sc:P9->Rs->SharedT}{sf:P9->Rs->PZ}(open_:∀w:P9,(fencedOpening Qg p w N).map (λs=>(s.heap,s.gens,s.drawn,s.toks))=some (H₀ w.params,gs₀,d₀,k₀))(size:∀w:P9,((H₀ w.params).isNs P3&&gs₀.size == 0,(H₀ w.params).objs.size,(H₀ w.params).nsMap P3 "__annotations__")=(true,m₀,ann))(pre:∀w os,topGo Qg p w m₀ ann n0 ⟨H₀ w.params,gs₀,d₀,k₀,os⟩ (topStub p)=some (sa w os,⟨denote Qg (.body b env),.body b env,p0,[SL qp]⟩))(block:∀w os,segRun Qg p w m₀ ann 1 nb (sa w os) (blockOf b env (.body b env) p0 [SL qp])=some (.next,(sb w os).abs,.body b env,p1))(main:∀w os,segRunT Qg p w m₀ ann 1 n (sb w os) (piecesOf b env (.body b env) p1 [SL qp])=some (.next,sc w os,.body b env,p2))(fin:∀w os,topRun Qg p w m₀ ann nf (sc w os).abs ⟨doneF .next,.body b env,p2,[SL qp]⟩=some (sf w os))(le:Nat.ble (n0+(nb+(n+nf))) N=true)(looks:∀w os,((TR (QY p.main.body) (H₀ w.params) (sf w os).heap&&Tt p (sf w os).heap&&gensDone (sf w os)&&laidKept (H₀ w.params) (sf w os).heap),
    openSeen q loose (QY p.main.body) Xt g0 (sf w os),Yf (sf w os))=(true,openGood q loose,Ya w)):LeftO p q loose Xt Yf Ya N g0:=λw=>by
 obtain⟨⟨h,gs,d,k,os⟩,e,e'⟩:=WQ.mp (open_ w);obtain⟨rfl,rfl,rfl,rfl⟩:h=H₀ w.params/\gs=gs₀/\d=d₀/\k=k₀:=by simpa using e'
 obtain⟨z1,z2,z3⟩:_/\_/\_:=by simpa only[Prod.mk.injEq]using size w
 obtain⟨l1,l2,l3⟩:_/\_/\_:=by simpa only[Prod.mk.injEq]using looks w os
 have r1:=piece_app (rest:=[]) (segRun_of (main w os)) (piece_nil (fin w os));rw[Uo]at r1;have r3:=go_top (pre w os) (piece_block (block w os) r1);have r:=topRun_mono (N - (n0+(nb+(n+nf)))) _ _ _ _ r3;rw[show n0+(nb+(n+nf))+(N - (n0+(nb+(n+nf))))=N by have:=Wa le;lia]at r;have t:TC Qg p w N ⟨H₀ w.params,gs,d,k,os⟩=some (sf w os):=by
  unfold TC;dsimp only;rw[z1,z2,z3,r];show(match TR (QY p.main.body) (H₀ w.params) (sf w os).heap&&Tt p (sf w os).heap&&gensDone (sf w os)&&laidKept (H₀ w.params) (sf w os).heap with|true=>_|false=>_)=_
  rw[l1]
 unfold openEnds;rw[e];show(TC Qg p w N _).map _=_;rw[t];exact PM some (Prod.ext l2 l3)
abbrev NA(name qual:Str)(params:Arguments)(body:List Ql)(scope:RS)(globals:XB)(closure:List (Str×XB))(dV kV doc pm:h9)(an:Option XB)(cdv ct:h9)(bl:XB):Qf:=
 {name,qualname:=qual,params,body:=.stmts body,scope,globals,closure,defaults:=dV,kwdefaults:=kV,doc,pyModule:=pm,annotations:=an,code:=cdv,closureTuple:=ct,builtins:=bl}
noncomputable def stT(t:PySem.W.BT)(n k:Nat)(P:Sk)(os:Rs):SharedT:=⟨t,n,(boot_heap P).life,Array.mk [],boot_drawn,k,os⟩
theorem yW{p q:P6}{loose:List Str}{Xt:PZ->Bool}{α:Type}{Yf:PZ->α}{Ya:P9->α}{N:Nat}{g0:Bool}{H₀:Sk->Qe}{gs₀:Array RY}{d₀:Drawn}{k₀ m₀:Nat}{ann:Option h9}{n0 nb n:Nat}{b:List Ql}{env:Tz}{qp p0 p1:So}{sa:P9->Rs->PZ}{sb:P9->Rs->SharedT}{sf:P9->Rs->PZ}(open_:∀w:P9,(fencedOpening Qg p w N).map (λs=>(s.heap,s.gens,s.drawn,s.toks))=some (H₀ w.params,gs₀,d₀,k₀))(size:∀w:P9,((H₀ w.params).isNs P3&&gs₀.size == 0,(H₀ w.params).objs.size,(H₀ w.params).nsMap P3 "__annotations__")=(true,m₀,ann))(pre:∀w os,topGo Qg p w m₀ ann n0 ⟨H₀ w.params,gs₀,d₀,k₀,os⟩ (topStub p)=some (sa w os,⟨denote Qg (.body b env),.body b env,p0,[SL qp]⟩))(block:∀w os,segRun Qg p w m₀ ann 1 nb (sa w os) (blockOf b env (.body b env) p0 [SL qp])=some (.next,(sb w os).abs,.body b env,p1))(main:∀w os,topRun Qg p w m₀ ann n (sb w os).abs (restOf b env (.body b env) p1 [SL qp])=some (sf w os))(le:Nat.ble (n0+(nb+n)) N=true)(looks:∀w os,((TR (QY p.main.body) (H₀ w.params) (sf w os).heap&&Tt p (sf w os).heap&&gensDone (sf w os)&&laidKept (H₀ w.params) (sf w os).heap),
    openSeen q loose (QY p.main.body) Xt g0 (sf w os),Yf (sf w os))=(true,openGood q loose,Ya w)):LeftO p q loose Xt Yf Ya N g0:=λw=>by
 obtain⟨⟨h,gs,d,k,os⟩,e,e'⟩:=WQ.mp (open_ w);obtain⟨rfl,rfl,rfl,rfl⟩:h=H₀ w.params/\gs=gs₀/\d=d₀/\k=k₀:=by simpa using e'
 obtain⟨z1,z2,z3⟩:_/\_/\_:=by simpa only[Prod.mk.injEq]using size w
 obtain⟨l1,l2,l3⟩:_/\_/\_:=by simpa only[Prod.mk.injEq]using looks w os
 have r3:=go_top (pre w os) (piece_block (block w os) (main w os));have r:=topRun_mono (N - (n0+(nb+n))) _ _ _ _ r3;rw[show n0+(nb+n)+(N - (n0+(nb+n)))=N by have:=Wa le;lia]at r;have t:TC Qg p w N ⟨H₀ w.params,gs,d,k,os⟩=some (sf w os):=by
  unfold TC;dsimp only;rw[z1,z2,z3,r];show(match TR (QY p.main.body) (H₀ w.params) (sf w os).heap&&Tt p (sf w os).heap&&gensDone (sf w os)&&laidKept (H₀ w.params) (sf w os).heap with|true=>_|false=>_)=_
  rw[l1]
 unfold openEnds;rw[e];show(TC Qg p w N _).map _=_;rw[t];exact PM some (Prod.ext l2 l3)
def xy(as:List XB)(s:PZ):List (Option Obj):=as.map s.heap.get?
def xx(K:Sk->Frag)(w:P9):List (Option Obj):=(K w.params).map λp=>some p.2
theorem Nr{K:Sk->Frag}{as:List XB}(e:∀P,as=(K P).map (·.1))(w:P9)(s₀ s₁:PZ)(y:xy as s₀=xx K w)(k:∀b o,s₀.heap.get? b=some o->s₁.heap.get? b=some o):(K w.params).In s₁.heap:=
 InK.keeps w s₀.heap s₁.heap (InK.of e w s₀ y) k
end L2
namespace K15
open PySem L2
def ζw:List Str->Nat->List h9
 | [],_=>[]
 |x::r,n=>.str x n::ζw r (n+1)
noncomputable abbrev gK(l:List Str)(n:Nat):Array h9:=⟨ζw l n⟩
noncomputable abbrev fj(x:Array h9)(n:Nat):Obj:=⟨.type "tuple",none,.seq x n,#[]⟩
noncomputable abbrev eA(a b:Str)(s:Ql):Obj:=⟨.none,none,.func (L2.NA a b (fY s) (dj s) (am s) 0 [] .none .none .none .none none .none .none 0),#[]⟩
noncomputable abbrev gG(a b:Str)(n m l:Nat)(i j k o:Int)(r:Nat)(f:Bool)(p:Int)(q x y z:Nat)(u v:Int)(e:Nat):Obj:=⟨.type "code",none,.fields #[.str a n,.str b m,.str "/claim/cut.py" l,.int i 0,.int j 0,.int 0 0,.int k 0,.int o 0,.ref r,.bool f,.int p 0,.ref q,.none,.ref x,.ref y,.ref z,.int u 0,.int v 0,.str "/claim/cut.py" e],#[]⟩
noncomputable abbrev xY(a b:Str)(n m l:Nat)(i j k o:Int)(r:Nat)(f:Bool)(p:Int)(q:Nat)(u v:Int)(e:Nat):Obj:=⟨.type "code",none,.fields #[.str a n,.str b m,.str "/claim/cut.py" l,.int i 0,.int j 0,.int 0 0,.int k 0,.int o 0,.ref r,.bool f,.int p 0,.ref q,.none,.none,.none,.none,.int u 0,.int v 0,.str "/claim/cut.py" e],#[]⟩
noncomputable abbrev eB(a b:Str)(s:Ql)(m:Str)(n c:Nat):Obj:=⟨.type "function",none,.func (W2 a b (fY s) (dj s) (am s) .none .none .none (.str m n) none (.ref c) .none),#[]⟩
noncomputable abbrev Kp(x:Array h9):Obj:=⟨.none,none,.fields x,#[]⟩
noncomputable abbrev rV(x:Array h9):Obj:=⟨.type "code",none,.fields x,#[]⟩
noncomputable abbrev aM(P:Sk)(x:Str)(n:Nat)(v:h9):DictEntry:=⟨PyData.keyHash P x,.str x n,v⟩
noncomputable abbrev aI(x:Obj):PySem.W.BT:=.node x .nil .nil
noncomputable abbrev aF(x:Obj)(a b:PySem.W.BT):PySem.W.BT:=.node x a b
noncomputable abbrev bS:h9:=.int 0 0
noncomputable abbrev iL(n:Nat):h9:=.str "/claim/cut.py" n
noncomputable abbrev aR(n:Int):h9:=.int n 0
abbrev hP:P6:=PySem.Challenge.pw_playboard_k15_moves_in_texts
noncomputable def hQ:P6:={hP with main:={hP.main with body:=bz 0::bz 2::bz 3::bz 4::bz 5::bz 6::bz 7::bz 8::bz 9::bz 10::bz 11::bz 13::bz 14::bz 15::bz 16::bz 18::bz 19::bz 20::bz 21::bz 22::bz 23::bz 24::bz 25::bz 26::bz 27::bz 28::bz 29::bz 30::bz 31::bz 32::bz 33::bz 34::bz 35::bz 37::bz 38::bz 39::bz 40::bz 41::bz 43::bz 45::bz 46::bz 47::bz 48::bz 49::bz 51::bz 52::bz 53::bz 54::bz 55::bz 57::bz 59::bz 60::bz 62::bz 63::bz 64::bz 66::bz 68::bz 69::bz 70::bz 71::bz 72::bz 73::bz 74::bz 75::bz 76::bz 77::bz 78::bz 79::bz 80::bz 81::bz 82::bz 83::bz 84::bz 85::bz 86::bz 87::[]}}
noncomputable section
variable(P:Sk)
def zo3:Obj:=⟨(.type "dict"),none,(.dict #[aM P "__name__" 165 (.str "law_playboard_k15_moves_in_texts" 799),aM P "__doc__" 166 .none,aM P "__package__" 167 .none,aM P "__loader__" 168 (.builtin "__main__.__loader__#opaque"),aM P "__spec__" 169 .none,aM P "__annotations__" 170 (.ref 6),aM P "__builtins__" 171 (.ref 4),aM P "__file__" 173 (iL 172),aM P "__cached__" 174 .none,aM P "_wall" 193 (.ref 21),aM P "PlayError" 213 (.ref 31),aM P "BadBoard" 229 (.ref 44),aM P "BadGame" 245 (.ref 56),aM P "BadLine" 270 (.ref 75),aM P "BadPlace" 286 (.ref 87),aM P "NoMove" 302 (.ref 99),aM P "TooWide" 318 (.ref 111),aM P "NoWord" 334 (.ref 123),aM P "Over" 350 (.ref 135),aM P "NothingBack" 366 (.ref 147),aM P "is_whole" 375 (.ref 156),aM P "is_letter" 382 (.ref 163),aM P "is_among" 391 (.ref 170),aM P "number_text" 401 (.ref 177),aM P "SORTS" 407 (.ref 178),aM P "AIMS" 411 (.ref 179),aM P "END_WORDS" 414 (.ref 180),aM P "STUCK_WORDS" 418 (.ref 181),aM P "MOST_KINDS" 420 (.int 6 419),aM P "MOST_RULES" 422 (.int 24 421),aM P "MOST_PAIRS" 424 (.int 6 423),aM P "is_word" 432 (.ref 188),aM P "is_tuple_of" 440 (.ref 195),aM P "is_list_of" 449 (.ref 202),aM P "is_step" 459 (.ref 209),aM P "is_rule" 469 (.ref 216),aM P "is_pair" 478 (.ref 223),aM P "are_pairs" 484 (.ref 228),aM P "is_turns" 490 (.ref 233),aM P "is_ends" 498 (.ref 240),aM P "are_kinds" 504 (.ref 245),aM P "are_rules" 510 (.ref 250),aM P "EMPTY" 514 (.str "." 513),aM P "HOLE" 516 (.str "#" 515),aM P "kind_of" 523 (.ref 257),aM P "side_of" 530 (.ref 264),aM P "squares_of" 536 (.ref 269),aM P "ray" 550 (.ref 276),aM P "NOTHING" 555 (.int (-1) 554),aM P "slid" 568 (.ref 283),aM P "jumped" 577 (.ref 290),aM P "by_rule" 589 (.ref 297),aM P "goals" 600 (.ref 304),aM P "COLUMNS" 604 (.str "abcdefghijklmnopqrstuvwxyz" 603),aM P "column_of" 612 (.ref 311),aM P "row_of" 620 (.ref 318),aM P "square_at" 629 (.ref 325),aM P "square_text" 637 (.ref 332),aM P "moves" 645 (.ref 337),aM P "move_text" 658 (.ref 344),aM P "move_of" 668 (.ref 351),aM P "LONGEST" 672 (.int 8 671),aM P "are_holes" 678 (.ref 356),aM P "Board" 743 (.ref 397),aM P "Game" 798 (.ref 430),aM P "_law_cell_at" 808 (.ref 441),aM P "_law_mixed" 816 (.ref 448),aM P "_law_whole" 823 (.ref 455),aM P "_law_board" 836 (.ref 462),aM P "_law_kinds" 842 (.ref 467),aM P "_law_rule" 856 (.ref 474),aM P "_law_turns" 862 (.ref 479),aM P "_law_game" 880 (.ref 486),aM P "_law_row" 886 (.ref 491),aM P "_law_side" 893 (.ref 498),aM P "_law_step" 906 (.ref 505),aM P "_law_by_rule" 922 (.ref 512),aM P "_law_goals" 928 (.ref 517),aM P "_law_moves" 934 (.ref 522),aM P "_law_square_text" 942 (.ref 529),aM P "_law_text" 948 (.ref 534),aM P "_law_changed" 961 (.ref 541),aM P "_law_alone" 969 (.ref 548),aM P "_law_told" 979 (.ref 555),aM P "law" 985 (.ref 560)] 85),#[]⟩
def ar:Obj:=fj #[] 0
def ON:Obj:=Kp #[(aR 1),bS,(.ref 20),(aR 5),bS,(.ref 27),(aR 7),bS,(.ref 40),(aR 9),bS,(.ref 52),(aR 11),bS,(.ref 64),(aR 16),bS,(.ref 83),(aR 18),bS,(.ref 95),(aR 20),bS,(.ref 107),(aR 22),bS,(.ref 119),(aR 24),bS,(.ref 131),(aR 26),bS,(.ref 143),(aR 29),bS,(.ref 155),(aR 31),bS,(.ref 162),(aR 33),bS,(.ref 169),(aR 35),bS,(.ref 176),(aR 54),bS,(.ref 187),(aR 56),bS,(.ref 194),(aR 58),bS,(.ref 201),(aR 60),bS,(.ref 208),(aR 65),bS,(.ref 215),(aR 75),bS,(.ref 222),(aR 77),bS,(.ref 227),(aR 79),bS,(.ref 232),(aR 86),bS,(.ref 239),(aR 88),bS,(.ref 244),(aR 92),bS,(.ref 249),(aR 97),bS,(.ref 256),(aR 99),bS,(.ref 263),(aR 103),bS,(.ref 268),(aR 106),bS,(.ref 275),(aR 117),bS,(.ref 282),(aR 128),bS,(.ref 289),(aR 132),bS,(.ref 296),(aR 138),bS,(.ref 303),(aR 145),bS,(.ref 310),(aR 147),bS,(.ref 317),(aR 149),bS,(.ref 324),(aR 151),bS,(.ref 331),(aR 154),bS,(.ref 336),(aR 161),bS,(.ref 343),(aR 170),bS,(.ref 350),(aR 177),bS,(.ref 355),(aR 183),bS,(.ref 362),(aR 212),bS,(.ref 407),(aR 238),bS,(.ref 440),(aR 242),bS,(.ref 447),(aR 244),bS,(.ref 454),(aR 246),bS,(.ref 461),(aR 260),bS,(.ref 466),(aR 264),bS,(.ref 473),(aR 278),bS,(.ref 478),(aR 285),bS,(.ref 485),(aR 300),bS,(.ref 490),(aR 316),bS,(.ref 497),(aR 320),bS,(.ref 504),(aR 327),bS,(.ref 511),(aR 347),bS,(.ref 516),(aR 353),bS,(.ref 521),(aR 359),bS,(.ref 528),(aR 361),bS,(.ref 533),(aR 368),bS,(.ref 540),(aR 386),bS,(.ref 547),(aR 391),bS,(.ref 554),(aR 398),bS,(.ref 559)]
def OM:Obj:=xY "<module>" "<module>" 182 183 184 1 0 0 0 11 false 181 12 185 1 186
def OL:Obj:=⟨(.type "frame"),none,.plain,#[(some (.ref 13)),(some (.ref 3)),(some (.ref 3)),none,(some (.str "__main__" 164)),none,(some (.ref 0))]⟩
def bw:Obj:=Kp #[]
def L7:Obj:=fj #[(.str "k" 190)] 0
def OK:Obj:=eA "_wall" "_wall" wU
def LZ:Obj:=gG "_wall" "_wall" 187 188 189 1 1 0 3 15 true 181 16 17 18 19 191 1 192
def LW:Obj:=eB "_wall" "_wall" wU "__main__" 164 20
def LU:Obj:=fj #[(.type "ValueError")] 0
def lR:Obj:=⟨(.type "builtin_function_or_method"),none,(.fields #[(.builtin "type.__prepare__"),(.type "type")]),#[]⟩
def OJ:Obj:=⟨(.type "dict"),none,(.dict #[aM P "__module__" 203 (.str "playboard.errors" 194),aM P "__qualname__" 205 (.str "PlayError" 204),aM P "__firstlineno__" 207 (.int 5 206),aM P "__static_attributes__" 208 (.ref 29)] 4),#[]⟩
def OH:Obj:=xY "PlayError" "PlayError" 198 199 200 5 0 0 0 25 false 181 26 201 5 202
def OG:Obj:=⟨(.type "frame"),none,.plain,#[(some (.ref 27)),(some (.ref 3)),(some (.ref 24)),none,(some (.str "playboard.errors" 194)),none,(some (.ref 0))]⟩
def LC:Obj:=⟨(.type "dict"),none,(.dict #[aM P "__module__" 203 (.str "playboard.errors" 194),aM P "__firstlineno__" 207 (.int 5 206),aM P "__static_attributes__" 208 (.ref 29),aM P "__weakref__" 210 (.ref 32),aM P "__doc__" 211 .none] 3),#[]⟩
def Lz:Obj:=⟨(.type "type"),none,(.cls ⟨"PlayError",[(.type "ValueError")],[(.ref 31),(.type "ValueError"),(.type "Exception"),(.type "BaseException"),(.type "object")],30,"PlayError",true,[],[(.ref 44),(.ref 56),(.ref 75),(.ref 87),(.ref 99),(.ref 111),(.ref 123),(.ref 135),(.ref 147)],false,none,false⟩),#[(some (.ref 22)),none,(some (.str "PlayError" 196)),(some (.str "PlayError" 204)),(some (.builtin "ValueError.__new__")),(some (.bool true))]⟩
def Lx:Obj:=⟨(.type "getset_descriptor"),none,(.fields #[(.str "__weakref__" 209),(.ref 31),(.builtin "ExceptionGroup.__weakref__"),.none]),#[]⟩
def OF:Obj:=⟨(.type "super"),none,(.fields #[(.ref 31),(.ref 31),(.ref 31)]),#[]⟩
def OE:Obj:=⟨(.type "builtin_function_or_method"),none,(.fields #[(.builtin "object.__init_subclass__"),(.ref 31)]),#[]⟩
def iF:Obj:=fj #[(.ref 31)] 0
def OD:Obj:=⟨(.type "dict"),none,(.dict #[aM P "__module__" 221 (.str "playboard.errors" 194),aM P "__qualname__" 223 (.str "BadBoard" 222),aM P "__firstlineno__" 225 (.int 7 224),aM P "__static_attributes__" 226 (.ref 42)] 4),#[]⟩
def OC:Obj:=xY "BadBoard" "BadBoard" 216 217 218 7 0 0 0 38 false 181 39 219 7 220
def OB:Obj:=⟨(.type "frame"),none,.plain,#[(some (.ref 40)),(some (.ref 3)),(some (.ref 37)),none,(some (.str "playboard.errors" 194)),none,(some (.ref 0))]⟩
def K6:Obj:=⟨(.type "dict"),none,(.dict #[aM P "__module__" 221 (.str "playboard.errors" 194),aM P "__firstlineno__" 225 (.int 7 224),aM P "__static_attributes__" 226 (.ref 42),aM P "__doc__" 227 .none] 2),#[]⟩
def K2:Obj:=⟨(.type "type"),none,(.cls ⟨"BadBoard",[(.ref 31)],[(.ref 44),(.ref 31),(.type "ValueError"),(.type "Exception"),(.type "BaseException"),(.type "object")],43,"BadBoard",true,[],[],false,none,false⟩),#[(some (.ref 35)),none,(some (.str "BadBoard" 214)),(some (.str "BadBoard" 222)),(some (.builtin "ValueError.__new__")),(some (.bool true))]⟩
def OA:Obj:=⟨(.type "super"),none,(.fields #[(.ref 44),(.ref 44),(.ref 44)]),#[]⟩
def Oz:Obj:=⟨(.type "builtin_function_or_method"),none,(.fields #[(.builtin "object.__init_subclass__"),(.ref 44)]),#[]⟩
def Oy:Obj:=⟨(.type "dict"),none,(.dict #[aM P "__module__" 237 (.str "playboard.errors" 194),aM P "__qualname__" 239 (.str "BadGame" 238),aM P "__firstlineno__" 241 (.int 9 240),aM P "__static_attributes__" 242 (.ref 54)] 4),#[]⟩
def Ox:Obj:=xY "BadGame" "BadGame" 232 233 234 9 0 0 0 50 false 181 51 235 9 236
def Ow:Obj:=⟨(.type "frame"),none,.plain,#[(some (.ref 52)),(some (.ref 3)),(some (.ref 49)),none,(some (.str "playboard.errors" 194)),none,(some (.ref 0))]⟩
def KG:Obj:=⟨(.type "dict"),none,(.dict #[aM P "__module__" 237 (.str "playboard.errors" 194),aM P "__firstlineno__" 241 (.int 9 240),aM P "__static_attributes__" 242 (.ref 54),aM P "__doc__" 243 .none] 2),#[]⟩
def KB:Obj:=⟨(.type "type"),none,(.cls ⟨"BadGame",[(.ref 31)],[(.ref 56),(.ref 31),(.type "ValueError"),(.type "Exception"),(.type "BaseException"),(.type "object")],55,"BadGame",true,[],[],false,none,false⟩),#[(some (.ref 47)),none,(some (.str "BadGame" 230)),(some (.str "BadGame" 238)),(some (.builtin "ValueError.__new__")),(some (.bool true))]⟩
def Ov:Obj:=⟨(.type "super"),none,(.fields #[(.ref 56),(.ref 56),(.ref 56)]),#[]⟩
def Ou:Obj:=⟨(.type "builtin_function_or_method"),none,(.fields #[(.builtin "object.__init_subclass__"),(.ref 56)]),#[]⟩
def Ot:Obj:=⟨(.type "dict"),none,(.dict #[aM P "__module__" 253 (.str "playboard.errors" 194),aM P "__qualname__" 255 (.str "BadLine" 254),aM P "__firstlineno__" 257 (.int 11 256),aM P "__init__" 265 (.ref 72),aM P "__static_attributes__" 267 (.ref 73)] 5),#[]⟩
def Os:Obj:=Kp #[(aR 13),(aR 4),(.ref 71)]
def Oq:Obj:=xY "BadLine" "BadLine" 248 249 250 11 0 0 0 62 false 181 63 251 11 252
def Op:Obj:=⟨(.type "frame"),none,.plain,#[(some (.ref 64)),(some (.ref 3)),(some (.ref 61)),none,(some (.str "playboard.errors" 194)),none,(some (.ref 0))]⟩
def KA:Obj:=fj (gK ["self","at"] 261) 0
def Oo:Obj:=eA "__init__" "BadLine.__init__" gu
def Kz:Obj:=gG "__init__" "BadLine.__init__" 258 259 260 13 2 0 3 66 true 181 67 68 69 70 263 13 264
def Ky:Obj:=eB "__init__" "BadLine.__init__" gu "playboard.errors" 194 71
def Kx:Obj:=fj #[(.str "at" 266)] 0
def Kw:Obj:=⟨(.type "dict"),none,(.dict #[aM P "__module__" 253 (.str "playboard.errors" 194),aM P "__firstlineno__" 257 (.int 11 256),aM P "__init__" 265 (.ref 72),aM P "__static_attributes__" 267 (.ref 73),aM P "__doc__" 268 .none] 2),#[]⟩
def Kv:Obj:=⟨(.type "type"),none,(.cls ⟨"BadLine",[(.ref 31)],[(.ref 75),(.ref 31),(.type "ValueError"),(.type "Exception"),(.type "BaseException"),(.type "object")],74,"BadLine",true,[],[],false,none,false⟩),#[(some (.ref 59)),none,(some (.str "BadLine" 246)),(some (.str "BadLine" 254)),(some (.builtin "ValueError.__new__")),(some (.bool true))]⟩
def On:Obj:=⟨(.type "super"),none,(.fields #[(.ref 75),(.ref 75),(.ref 75)]),#[]⟩
def Om:Obj:=⟨(.type "builtin_function_or_method"),none,(.fields #[(.builtin "object.__init_subclass__"),(.ref 75)]),#[]⟩
def Ol:Obj:=⟨(.type "dict"),none,(.dict #[aM P "__module__" 278 (.str "playboard.errors" 194),aM P "__qualname__" 280 (.str "BadPlace" 279),aM P "__firstlineno__" 282 (.int 16 281),aM P "__static_attributes__" 283 (.ref 85)] 4),#[]⟩
def Oj:Obj:=xY "BadPlace" "BadPlace" 273 274 275 16 0 0 0 81 false 181 82 276 16 277
def Oi:Obj:=⟨(.type "frame"),none,.plain,#[(some (.ref 83)),(some (.ref 3)),(some (.ref 80)),none,(some (.str "playboard.errors" 194)),none,(some (.ref 0))]⟩
def Ku:Obj:=⟨(.type "dict"),none,(.dict #[aM P "__module__" 278 (.str "playboard.errors" 194),aM P "__firstlineno__" 282 (.int 16 281),aM P "__static_attributes__" 283 (.ref 85),aM P "__doc__" 284 .none] 2),#[]⟩
def Ks:Obj:=⟨(.type "type"),none,(.cls ⟨"BadPlace",[(.ref 31)],[(.ref 87),(.ref 31),(.type "ValueError"),(.type "Exception"),(.type "BaseException"),(.type "object")],86,"BadPlace",true,[],[],false,none,false⟩),#[(some (.ref 78)),none,(some (.str "BadPlace" 271)),(some (.str "BadPlace" 279)),(some (.builtin "ValueError.__new__")),(some (.bool true))]⟩
def Oh:Obj:=⟨(.type "super"),none,(.fields #[(.ref 87),(.ref 87),(.ref 87)]),#[]⟩
def Og:Obj:=⟨(.type "builtin_function_or_method"),none,(.fields #[(.builtin "object.__init_subclass__"),(.ref 87)]),#[]⟩
def Of:Obj:=⟨(.type "dict"),none,(.dict #[aM P "__module__" 294 (.str "playboard.errors" 194),aM P "__qualname__" 296 (.str "NoMove" 295),aM P "__firstlineno__" 298 (.int 18 297),aM P "__static_attributes__" 299 (.ref 97)] 4),#[]⟩
def Oe:Obj:=xY "NoMove" "NoMove" 289 290 291 18 0 0 0 93 false 181 94 292 18 293
def Od:Obj:=⟨(.type "frame"),none,.plain,#[(some (.ref 95)),(some (.ref 3)),(some (.ref 92)),none,(some (.str "playboard.errors" 194)),none,(some (.ref 0))]⟩
def Kr:Obj:=⟨(.type "dict"),none,(.dict #[aM P "__module__" 294 (.str "playboard.errors" 194),aM P "__firstlineno__" 298 (.int 18 297),aM P "__static_attributes__" 299 (.ref 97),aM P "__doc__" 300 .none] 2),#[]⟩
def Kq:Obj:=⟨(.type "type"),none,(.cls ⟨"NoMove",[(.ref 31)],[(.ref 99),(.ref 31),(.type "ValueError"),(.type "Exception"),(.type "BaseException"),(.type "object")],98,"NoMove",true,[],[],false,none,false⟩),#[(some (.ref 90)),none,(some (.str "NoMove" 287)),(some (.str "NoMove" 295)),(some (.builtin "ValueError.__new__")),(some (.bool true))]⟩
def Mx:Obj:=⟨(.type "super"),none,(.fields #[(.ref 99),(.ref 99),(.ref 99)]),#[]⟩
def Mw:Obj:=⟨(.type "builtin_function_or_method"),none,(.fields #[(.builtin "object.__init_subclass__"),(.ref 99)]),#[]⟩
def Mv:Obj:=⟨(.type "dict"),none,(.dict #[aM P "__module__" 310 (.str "playboard.errors" 194),aM P "__qualname__" 312 (.str "TooWide" 311),aM P "__firstlineno__" 314 (.int 20 313),aM P "__static_attributes__" 315 (.ref 109)] 4),#[]⟩
def Mu:Obj:=xY "TooWide" "TooWide" 305 306 307 20 0 0 0 105 false 181 106 308 20 309
def Mt:Obj:=⟨(.type "frame"),none,.plain,#[(some (.ref 107)),(some (.ref 3)),(some (.ref 104)),none,(some (.str "playboard.errors" 194)),none,(some (.ref 0))]⟩
def Hk:Obj:=⟨(.type "dict"),none,(.dict #[aM P "__module__" 310 (.str "playboard.errors" 194),aM P "__firstlineno__" 314 (.int 20 313),aM P "__static_attributes__" 315 (.ref 109),aM P "__doc__" 316 .none] 2),#[]⟩
def Hj:Obj:=⟨(.type "type"),none,(.cls ⟨"TooWide",[(.ref 31)],[(.ref 111),(.ref 31),(.type "ValueError"),(.type "Exception"),(.type "BaseException"),(.type "object")],110,"TooWide",true,[],[],false,none,false⟩),#[(some (.ref 102)),none,(some (.str "TooWide" 303)),(some (.str "TooWide" 311)),(some (.builtin "ValueError.__new__")),(some (.bool true))]⟩
def Ms:Obj:=⟨(.type "super"),none,(.fields #[(.ref 111),(.ref 111),(.ref 111)]),#[]⟩
def Mr:Obj:=⟨(.type "builtin_function_or_method"),none,(.fields #[(.builtin "object.__init_subclass__"),(.ref 111)]),#[]⟩
def Mq:Obj:=⟨(.type "dict"),none,(.dict #[aM P "__module__" 326 (.str "playboard.errors" 194),aM P "__qualname__" 328 (.str "NoWord" 327),aM P "__firstlineno__" 330 (.int 22 329),aM P "__static_attributes__" 331 (.ref 121)] 4),#[]⟩
def Mp:Obj:=xY "NoWord" "NoWord" 321 322 323 22 0 0 0 117 false 181 118 324 22 325
def Mo:Obj:=⟨(.type "frame"),none,.plain,#[(some (.ref 119)),(some (.ref 3)),(some (.ref 116)),none,(some (.str "playboard.errors" 194)),none,(some (.ref 0))]⟩
def Hi:Obj:=⟨(.type "dict"),none,(.dict #[aM P "__module__" 326 (.str "playboard.errors" 194),aM P "__firstlineno__" 330 (.int 22 329),aM P "__static_attributes__" 331 (.ref 121),aM P "__doc__" 332 .none] 2),#[]⟩
def Hh:Obj:=⟨(.type "type"),none,(.cls ⟨"NoWord",[(.ref 31)],[(.ref 123),(.ref 31),(.type "ValueError"),(.type "Exception"),(.type "BaseException"),(.type "object")],122,"NoWord",true,[],[],false,none,false⟩),#[(some (.ref 114)),none,(some (.str "NoWord" 319)),(some (.str "NoWord" 327)),(some (.builtin "ValueError.__new__")),(some (.bool true))]⟩
def Mn:Obj:=⟨(.type "super"),none,(.fields #[(.ref 123),(.ref 123),(.ref 123)]),#[]⟩
def Mm:Obj:=⟨(.type "builtin_function_or_method"),none,(.fields #[(.builtin "object.__init_subclass__"),(.ref 123)]),#[]⟩
def Ml:Obj:=⟨(.type "dict"),none,(.dict #[aM P "__module__" 342 (.str "playboard.errors" 194),aM P "__qualname__" 344 (.str "Over" 343),aM P "__firstlineno__" 346 (.int 24 345),aM P "__static_attributes__" 347 (.ref 133)] 4),#[]⟩
def Mj:Obj:=xY "Over" "Over" 337 338 339 24 0 0 0 129 false 181 130 340 24 341
def Mi:Obj:=⟨(.type "frame"),none,.plain,#[(some (.ref 131)),(some (.ref 3)),(some (.ref 128)),none,(some (.str "playboard.errors" 194)),none,(some (.ref 0))]⟩
def Hg:Obj:=⟨(.type "dict"),none,(.dict #[aM P "__module__" 342 (.str "playboard.errors" 194),aM P "__firstlineno__" 346 (.int 24 345),aM P "__static_attributes__" 347 (.ref 133),aM P "__doc__" 348 .none] 2),#[]⟩
def Hf:Obj:=⟨(.type "type"),none,(.cls ⟨"Over",[(.ref 31)],[(.ref 135),(.ref 31),(.type "ValueError"),(.type "Exception"),(.type "BaseException"),(.type "object")],134,"Over",true,[],[],false,none,false⟩),#[(some (.ref 126)),none,(some (.str "Over" 335)),(some (.str "Over" 343)),(some (.builtin "ValueError.__new__")),(some (.bool true))]⟩
def Mh:Obj:=⟨(.type "super"),none,(.fields #[(.ref 135),(.ref 135),(.ref 135)]),#[]⟩
def Mg:Obj:=⟨(.type "builtin_function_or_method"),none,(.fields #[(.builtin "object.__init_subclass__"),(.ref 135)]),#[]⟩
def Mf:Obj:=⟨(.type "dict"),none,(.dict #[aM P "__module__" 358 (.str "playboard.errors" 194),aM P "__qualname__" 360 (.str "NothingBack" 359),aM P "__firstlineno__" 362 (.int 26 361),aM P "__static_attributes__" 363 (.ref 145)] 4),#[]⟩
def Me:Obj:=xY "NothingBack" "NothingBack" 353 354 355 26 0 0 0 141 false 181 142 356 26 357
def Md:Obj:=⟨(.type "frame"),none,.plain,#[(some (.ref 143)),(some (.ref 3)),(some (.ref 140)),none,(some (.str "playboard.errors" 194)),none,(some (.ref 0))]⟩
def He:Obj:=⟨(.type "dict"),none,(.dict #[aM P "__module__" 358 (.str "playboard.errors" 194),aM P "__firstlineno__" 362 (.int 26 361),aM P "__static_attributes__" 363 (.ref 145),aM P "__doc__" 364 .none] 2),#[]⟩
def Hd:Obj:=⟨(.type "type"),none,(.cls ⟨"NothingBack",[(.ref 31)],[(.ref 147),(.ref 31),(.type "ValueError"),(.type "Exception"),(.type "BaseException"),(.type "object")],146,"NothingBack",true,[],[],false,none,false⟩),#[(some (.ref 138)),none,(some (.str "NothingBack" 351)),(some (.str "NothingBack" 359)),(some (.builtin "ValueError.__new__")),(some (.bool true))]⟩
def Mc:Obj:=⟨(.type "super"),none,(.fields #[(.ref 147),(.ref 147),(.ref 147)]),#[]⟩
def Mb:Obj:=⟨(.type "builtin_function_or_method"),none,(.fields #[(.builtin "object.__init_subclass__"),(.ref 147)]),#[]⟩
def Hc:Obj:=fj #[(.str "thing" 372)] 0
def Ma:Obj:=eA "is_whole" "is_whole" gr
def Hb:Obj:=gG "is_whole" "is_whole" 369 370 371 29 1 0 3 150 true 181 151 152 153 154 373 29 374
def Ha:Obj:=eB "is_whole" "is_whole" gr "playboard.words" 367 155
def G4:Obj:=fj #[(.str "thing" 379)] 0
def L9:Obj:=eA "is_letter" "is_letter" fC
def G3:Obj:=gG "is_letter" "is_letter" 376 377 378 31 1 0 3 157 true 181 158 159 160 161 380 31 381
def G0:Obj:=eB "is_letter" "is_letter" fC "playboard.words" 367 162
def GZ:Obj:=fj (gK ["thing","least","most"] 386) 0
def L8:Obj:=eA "is_among" "is_among" gt
def GY:Obj:=gG "is_among" "is_among" 383 384 385 33 3 0 3 164 true 181 165 166 167 168 389 33 390
def GX:Obj:=eB "is_among" "is_among" gt "playboard.words" 367 169
def GW:Obj:=fj (gK ["number","group","groups","left"] 395) 0
def L6:Obj:=eA "number_text" "number_text" dv
def GV:Obj:=gG "number_text" "number_text" 392 393 394 35 1 0 3 171 true 181 172 173 174 175 399 35 400
def GU:Obj:=eB "number_text" "number_text" dv "playboard.words" 367 176
def GT:Obj:=fj (gK ["leap","slide","jump"] 404) 0
def GS:Obj:=fj (gK ["go","hit","any"] 408) 0
def GR:Obj:=fj (gK ["without","home"] 412) 0
def GQ:Obj:=fj (gK ["lost","even","won"] 415) 0
def GP:Obj:=fj (gK ["thing","words"] 428) 0
def L5:Obj:=eA "is_word" "is_word" g6
def GO:Obj:=gG "is_word" "is_word" 425 426 427 54 2 0 3 182 true 181 183 184 185 186 430 54 431
def GN:Obj:=eB "is_word" "is_word" g6 "playboard.rules" 402 187
def GM:Obj:=fj (gK ["thing","many"] 436) 0
def L4:Obj:=eA "is_tuple_of" "is_tuple_of" dw
def GL:Obj:=gG "is_tuple_of" "is_tuple_of" 433 434 435 56 2 0 3 189 true 181 190 191 192 193 438 56 439
def GK:Obj:=eB "is_tuple_of" "is_tuple_of" dw "playboard.rules" 402 194
def GJ:Obj:=fj (gK ["thing","least","most"] 444) 0
def LY:Obj:=eA "is_list_of" "is_list_of" eH
def GI:Obj:=gG "is_list_of" "is_list_of" 441 442 443 58 3 0 3 196 true 181 197 198 199 200 447 58 448
def GH:Obj:=eB "is_list_of" "is_list_of" eH "playboard.rules" 402 201
def GG:Obj:=fj (gK ["sort","across","up","longest"] 453) 0
def LX:Obj:=eA "is_step" "is_step" g7
def GF:Obj:=gG "is_step" "is_step" 450 451 452 60 3 0 3 203 true 181 204 205 206 207 457 60 458
def GE:Obj:=eB "is_step" "is_step" g7 "playboard.rules" 402 208
def GD:Obj:=fj (gK ["thing","kinds","sort","aim"] 463) 0
def LV:Obj:=eA "is_rule" "is_rule" g8
def GB:Obj:=gG "is_rule" "is_rule" 460 461 462 65 2 0 3 210 true 181 211 212 213 214 467 65 468
def GA:Obj:=eB "is_rule" "is_rule" g8 "playboard.rules" 402 215
def Gz:Obj:=fj (gK ["thing","firsts","seconds"] 473) 0
def LS:Obj:=eA "is_pair" "is_pair" g9
def Gy:Obj:=gG "is_pair" "is_pair" 470 471 472 75 3 0 3 217 true 181 218 219 220 221 476 75 477
def Gx:Obj:=eB "is_pair" "is_pair" g9 "playboard.rules" 402 222
def LR:Obj:=eA "are_pairs" "are_pairs" dS
def Gw:Obj:=rV #[(.str "are_pairs" 479),(.str "are_pairs" 480),(iL 481),(aR 77),(aR 3),bS,bS,(aR 3),(.ref 224),(.bool true),(aR 181),(.ref 225),.none,.none,.none,(.ref 226),(aR 482),(aR 77),(iL 483)]
def Gv:Obj:=eB "are_pairs" "are_pairs" dS "playboard.rules" 402 227
def LQ:Obj:=eA "is_turns" "is_turns" dL
def Gu:Obj:=rV #[(.str "is_turns" 485),(.str "is_turns" 486),(iL 487),(aR 79),(aR 2),bS,bS,(aR 3),(.ref 229),(.bool true),(aR 181),(.ref 230),.none,.none,.none,(.ref 231),(aR 488),(aR 79),(iL 489)]
def Gs:Obj:=eB "is_turns" "is_turns" dL "playboard.rules" 402 232
def Gr:Obj:=fj (gK ["thing","kinds"] 494) 0
def LP:Obj:=eA "is_ends" "is_ends" hG
def Gq:Obj:=gG "is_ends" "is_ends" 491 492 493 86 2 0 3 234 true 181 235 236 237 238 496 86 497
def Gp:Obj:=eB "is_ends" "is_ends" hG "playboard.rules" 402 239
def LO:Obj:=eA "are_kinds" "are_kinds" dU
def Go:Obj:=rV #[(.str "are_kinds" 499),(.str "are_kinds" 500),(iL 501),(aR 88),(aR 1),bS,bS,(aR 3),(.ref 241),(.bool true),(aR 181),(.ref 242),.none,.none,.none,(.ref 243),(aR 502),(aR 88),(iL 503)]
def Gn:Obj:=eB "are_kinds" "are_kinds" dU "playboard.rules" 402 244
def LN:Obj:=eA "are_rules" "are_rules" dR
def Gm:Obj:=rV #[(.str "are_rules" 505),(.str "are_rules" 506),(iL 507),(aR 92),(aR 2),bS,bS,(aR 3),(.ref 246),(.bool true),(aR 181),(.ref 247),.none,.none,.none,(.ref 248),(aR 508),(aR 92),(iL 509)]
def Gk:Obj:=eB "are_rules" "are_rules" dR "playboard.rules" 402 249
def Gj:Obj:=fj #[(.str "sign" 520)] 0
def LM:Obj:=eA "kind_of" "kind_of" gZ
def Gi:Obj:=gG "kind_of" "kind_of" 517 518 519 97 1 0 3 251 true 181 252 253 254 255 521 97 522
def Gh:Obj:=eB "kind_of" "kind_of" gZ "playboard.places" 511 256
def Gg:Obj:=fj #[(.str "sign" 527)] 0
def LL:Obj:=eA "side_of" "side_of" gX
def Gf:Obj:=gG "side_of" "side_of" 524 525 526 99 1 0 3 258 true 181 259 260 261 262 528 99 529
def Ge:Obj:=eB "side_of" "side_of" gX "playboard.places" 511 263
def LK:Obj:=eA "squares_of" "squares_of" db
def Gd:Obj:=rV #[(.str "squares_of" 531),(.str "squares_of" 532),(iL 533),(aR 103),(aR 2),bS,bS,(aR 3),(.ref 265),(.bool true),(aR 181),(.ref 266),.none,.none,.none,(.ref 267),(aR 534),(aR 103),(iL 535)]
def Gc:Obj:=eB "squares_of" "squares_of" db "playboard.places" 511 268
def Gb:Obj:=fj (gK ["board","square","across","up","come_to","here"] 542) 0
def LJ:Obj:=eA "ray" "ray" sS
def Ga:Obj:=gG "ray" "ray" 539 540 541 106 4 0 3 270 true 181 271 272 273 274 548 106 549
def F0:Obj:=eB "ray" "ray" sS "playboard.rays" 537 275
def FZ:Obj:=fj (gK ["row","side","aim","path","found","goal","owner"] 559) 0
def LH:Obj:=eA "slid" "slid" mS
def FY:Obj:=gG "slid" "slid" 556 557 558 117 4 0 3 277 true 181 278 279 280 281 566 117 567
def FX:Obj:=eB "slid" "slid" mS "playboard.reach" 551 282
def FW:Obj:=fj (gK ["row","side","path"] 572) 0
def LF:Obj:=eA "jumped" "jumped" iS
def FV:Obj:=gG "jumped" "jumped" 569 570 571 128 3 0 3 284 true 181 285 286 287 288 575 128 576
def FU:Obj:=eB "jumped" "jumped" iS "playboard.reach" 551 289
def FT:Obj:=fj (gK ["board","row","square","rule","side","path"] 581) 0
def LD:Obj:=eA "by_rule" "by_rule" hJ
def FS:Obj:=gG "by_rule" "by_rule" 578 579 580 132 4 0 3 291 true 181 292 293 294 295 587 132 588
def FR:Obj:=eB "by_rule" "by_rule" hJ "playboard.reach" 551 296
def FQ:Obj:=fj (gK ["game","row","square","found","rule"] 593) 0
def LB:Obj:=eA "goals" "goals" j7
def FP:Obj:=gG "goals" "goals" 590 591 592 138 3 0 3 298 true 181 299 300 301 302 598 138 599
def FO:Obj:=eB "goals" "goals" j7 "playboard.reach" 551 303
def FN:Obj:=fj (gK ["wide","square"] 608) 0
def LA:Obj:=eA "column_of" "column_of" fE
def FM:Obj:=gG "column_of" "column_of" 605 606 607 145 2 0 3 305 true 181 306 307 308 309 610 145 611
def FL:Obj:=eB "column_of" "column_of" fE "playboard.squares" 601 310
def FK:Obj:=fj (gK ["wide","square"] 616) 0
def Ly:Obj:=eA "row_of" "row_of" iR
def FJ:Obj:=gG "row_of" "row_of" 613 614 615 147 2 0 3 312 true 181 313 314 315 316 618 147 619
def FI:Obj:=eB "row_of" "row_of" iR "playboard.squares" 601 317
def FH:Obj:=fj (gK ["wide","column","row"] 624) 0
def Lw:Obj:=eA "square_at" "square_at" fA
def FG:Obj:=gG "square_at" "square_at" 621 622 623 149 3 0 3 319 true 181 320 321 322 323 627 149 628
def FF:Obj:=eB "square_at" "square_at" fA "playboard.squares" 601 324
def FE:Obj:=fj (gK ["wide","square"] 633) 0
def Lv:Obj:=eA "square_text" "square_text" du
def FD:Obj:=gG "square_text" "square_text" 630 631 632 151 2 0 3 326 true 181 327 328 329 330 635 151 636
def FC:Obj:=eB "square_text" "square_text" du "playboard.squares" 601 331
def Lu:Obj:=eA "moves" "moves" jk
def FA:Obj:=rV #[(.str "moves" 640),(.str "moves" 641),(iL 642),(aR 154),(aR 2),bS,bS,(aR 3),(.ref 333),(.bool true),(aR 181),(.ref 334),.none,.none,.none,(.ref 335),(aR 643),(aR 154),(iL 644)]
def Fz:Obj:=eB "moves" "moves" jk "playboard.moves" 638 336
def Fy:Obj:=fj (gK ["game","move","wide","start","goal"] 651) 0
def Ls:Obj:=eA "move_text" "move_text" fB
def Fx:Obj:=gG "move_text" "move_text" 648 649 650 161 2 0 3 338 true 181 339 340 341 342 656 161 657
def Fw:Obj:=eB "move_text" "move_text" fB "playboard.movetexts" 646 343
def Fv:Obj:=fj (gK ["game","place","text","move"] 662) 0
def Lr:Obj:=eA "move_of" "move_of" gY
def Fu:Obj:=gG "move_of" "move_of" 659 660 661 170 3 0 3 345 true 181 346 347 348 349 666 170 667
def Ft:Obj:=eB "move_of" "move_of" gY "playboard.movetexts" 646 350
def Lq:Obj:=eA "are_holes" "are_holes" dW
def Fs:Obj:=rV #[(.str "are_holes" 673),(.str "are_holes" 674),(iL 675),(aR 177),(aR 2),bS,bS,(aR 3),(.ref 352),(.bool true),(aR 181),(.ref 353),.none,.none,.none,(.ref 354),(aR 676),(aR 177),(iL 677)]
def Fq:Obj:=eB "are_holes" "are_holes" dW "playboard.boards" 669 355
def Lp:Obj:=⟨(.type "dict"),none,(.dict #[aM P "__module__" 686 (.str "playboard.boards" 669),aM P "__qualname__" 688 (.str "Board" 687),aM P "__firstlineno__" 690 (.int 183 689),aM P "__init__" 696 (.ref 368),aM P "has" 704 (.ref 375),aM P "squares" 710 (.ref 380),aM P "moved" 723 (.ref 387),aM P "far_row" 731 (.ref 394),aM P "__static_attributes__" 736 (.ref 395)] 9),#[]⟩
def Lo:Obj:=Kp #[(aR 185),(aR 4),(.ref 367),(aR 195),(aR 4),(.ref 374),(aR 198),(aR 4),(.ref 379),(aR 201),(aR 4),(.ref 386),(aR 209),(aR 4),(.ref 393)]
def Ln:Obj:=xY "Board" "Board" 681 682 683 183 0 0 0 360 false 181 361 684 183 685
def Lm:Obj:=⟨(.type "frame"),none,.plain,#[(some (.ref 362)),(some (.ref 3)),(some (.ref 359)),none,(some (.str "playboard.boards" 669)),none,(some (.ref 0))]⟩
def Ll:Obj:=eA "__init__" "Board.__init__" bV
def Fp:Obj:=rV #[(.str "__init__" 691),(.str "Board.__init__" 692),(iL 693),(aR 185),(aR 4),bS,bS,(aR 3),(.ref 364),(.bool true),(aR 181),(.ref 365),.none,.none,.none,(.ref 366),(aR 694),(aR 185),(iL 695)]
def Fo:Obj:=eB "__init__" "Board.__init__" bV "playboard.boards" 669 367
def Fn:Obj:=fj (gK ["self","square"] 700) 0
def Lk:Obj:=eA "has" "Board.has" lI
def Fm:Obj:=gG "has" "Board.has" 697 698 699 195 2 0 3 369 true 181 370 371 372 373 702 195 703
def Fk:Obj:=eB "has" "Board.has" lI "playboard.boards" 669 374
def Lj:Obj:=eA "squares" "Board.squares" iA
def Fj:Obj:=rV #[(.str "squares" 705),(.str "Board.squares" 706),(iL 707),(aR 198),(aR 1),bS,bS,(aR 3),(.ref 376),(.bool true),(aR 181),(.ref 377),.none,.none,.none,(.ref 378),(aR 708),(aR 198),(iL 709)]
def Fi:Obj:=eB "squares" "Board.squares" iA "playboard.boards" 669 379
def Fh:Obj:=fj (gK ["self","square","across","up","column","row","goal"] 714) 0
def Li:Obj:=eA "moved" "Board.moved" dA
def Fg:Obj:=gG "moved" "Board.moved" 711 712 713 201 4 0 3 381 true 181 382 383 384 385 721 201 722
def Ff:Obj:=eB "moved" "Board.moved" dA "playboard.boards" 669 386
def Fe:Obj:=fj (gK ["self","side"] 727) 0
def Lh:Obj:=eA "far_row" "Board.far_row" iB
def Fd:Obj:=gG "far_row" "Board.far_row" 724 725 726 209 2 0 3 388 true 181 389 390 391 392 729 209 730
def Fc:Obj:=eB "far_row" "Board.far_row" iB "playboard.boards" 669 393
def Fb:Obj:=fj (gK ["firm","high","holes","wide"] 732) 0
def Fa:Obj:=⟨(.type "dict"),none,(.dict #[aM P "__module__" 686 (.str "playboard.boards" 669),aM P "__firstlineno__" 690 (.int 183 689),aM P "__init__" 696 (.ref 368),aM P "has" 704 (.ref 375),aM P "squares" 710 (.ref 380),aM P "moved" 723 (.ref 387),aM P "far_row" 731 (.ref 394),aM P "__static_attributes__" 736 (.ref 395),aM P "__dict__" 738 (.ref 398),aM P "__weakref__" 740 (.ref 399),aM P "__doc__" 741 .none] 4),#[]⟩
def E9:Obj:=⟨(.type "type"),none,(.cls ⟨"Board",[(.type "object")],[(.ref 397),(.type "object")],396,"Board",true,[],[],false,none,false⟩),#[none,none,(some (.str "Board" 679)),(some (.str "Board" 687)),(some (.builtin "object.__new__")),(some (.bool true))]⟩
def E8:Obj:=⟨(.type "getset_descriptor"),none,(.fields #[(.str "__dict__" 737),(.ref 397),(.builtin "function.__dict__"),(.builtin "function.__dict__#set")]),#[]⟩
def E7:Obj:=⟨(.type "getset_descriptor"),none,(.fields #[(.str "__weakref__" 739),(.ref 397),(.builtin "ExceptionGroup.__weakref__"),.none]),#[]⟩
def Lg:Obj:=⟨(.type "super"),none,(.fields #[(.ref 397),(.ref 397),(.ref 397)]),#[]⟩
def Lf:Obj:=⟨(.type "builtin_function_or_method"),none,(.fields #[(.builtin "object.__init_subclass__"),(.ref 397)]),#[]⟩
def Le:Obj:=⟨(.type "dict"),none,(.dict #[aM P "__module__" 753 (.str "playboard.games" 744),aM P "__qualname__" 755 (.str "Game" 754),aM P "__firstlineno__" 757 (.int 212 756),aM P "__init__" 770 (.ref 415),aM P "rules_of" 776 (.ref 420),aM P "turned" 784 (.ref 427),aM P "__static_attributes__" 791 (.ref 428)] 7),#[]⟩
def Ld:Obj:=Kp #[(aR 214),(aR 4),(.ref 414),(aR 232),(aR 4),(.ref 419),(aR 235),(aR 4),(.ref 426)]
def Lc:Obj:=xY "Game" "Game" 748 749 750 212 0 0 0 405 false 181 406 751 212 752
def Lb:Obj:=⟨(.type "frame"),none,.plain,#[(some (.ref 407)),(some (.ref 3)),(some (.ref 404)),none,(some (.str "playboard.games" 744)),none,(some (.ref 0))]⟩
def E6:Obj:=fj (gK ["self","board","kinds","rules","turns","ends","stuck"] 761) 0
def La:Obj:=eA "__init__" "Game.__init__" cH
def E5:Obj:=gG "__init__" "Game.__init__" 758 759 760 214 7 0 3 409 true 181 410 411 412 413 768 214 769
def E4:Obj:=eB "__init__" "Game.__init__" cH "playboard.games" 744 414
def K9:Obj:=eA "rules_of" "Game.rules_of" ce
def E3:Obj:=rV #[(.str "rules_of" 771),(.str "Game.rules_of" 772),(iL 773),(aR 232),(aR 2),bS,bS,(aR 3),(.ref 416),(.bool true),(aR 181),(.ref 417),.none,.none,.none,(.ref 418),(aR 774),(aR 232),(iL 775)]
def E2:Obj:=eB "rules_of" "Game.rules_of" ce "playboard.games" 744 419
def E1:Obj:=fj (gK ["self","kind"] 780) 0
def K7:Obj:=eA "turned" "Game.turned" jz
def EZ:Obj:=gG "turned" "Game.turned" 777 778 779 235 2 0 3 421 true 181 422 423 424 425 782 235 783
def EY:Obj:=eB "turned" "Game.turned" jz "playboard.games" 744 426
def EX:Obj:=fj (gK ["board","ends","kinds","rules","stuck","turns"] 785) 0
def EW:Obj:=⟨(.type "dict"),none,(.dict #[aM P "__module__" 753 (.str "playboard.games" 744),aM P "__firstlineno__" 757 (.int 212 756),aM P "__init__" 770 (.ref 415),aM P "rules_of" 776 (.ref 420),aM P "turned" 784 (.ref 427),aM P "__static_attributes__" 791 (.ref 428),aM P "__dict__" 793 (.ref 431),aM P "__weakref__" 795 (.ref 432),aM P "__doc__" 796 .none] 4),#[]⟩
def EV:Obj:=⟨(.type "type"),none,(.cls ⟨"Game",[(.type "object")],[(.ref 430),(.type "object")],429,"Game",true,[],[],false,none,false⟩),#[none,none,(some (.str "Game" 746)),(some (.str "Game" 754)),(some (.builtin "object.__new__")),(some (.bool true))]⟩
def EU:Obj:=⟨(.type "getset_descriptor"),none,(.fields #[(.str "__dict__" 792),(.ref 430),(.builtin "function.__dict__"),(.builtin "function.__dict__#set")]),#[]⟩
def ET:Obj:=⟨(.type "getset_descriptor"),none,(.fields #[(.str "__weakref__" 794),(.ref 430),(.builtin "ExceptionGroup.__weakref__"),.none]),#[]⟩
def K5:Obj:=⟨(.type "super"),none,(.fields #[(.ref 430),(.ref 430),(.ref 430)]),#[]⟩
def K4:Obj:=⟨(.type "builtin_function_or_method"),none,(.fields #[(.builtin "object.__init_subclass__"),(.ref 430)]),#[]⟩
def ES:Obj:=fj (gK ["_law_script","_law_k"] 804) 0
def K3:Obj:=eA "_law_cell_at" "_law_cell_at" cU
def ER:Obj:=gG "_law_cell_at" "_law_cell_at" 801 802 803 238 2 0 3 435 true 181 436 437 438 439 806 238 807
def EQ:Obj:=eB "_law_cell_at" "_law_cell_at" cU "law_playboard_k15_moves_in_texts" 799 440
def EO:Obj:=fj (gK ["_law_cell","_law_k"] 812) 0
def K1:Obj:=eA "_law_mixed" "_law_mixed" eJ
def EN:Obj:=gG "_law_mixed" "_law_mixed" 809 810 811 242 2 0 3 442 true 181 443 444 445 446 814 242 815
def EM:Obj:=eB "_law_mixed" "_law_mixed" eJ "law_playboard_k15_moves_in_texts" 799 447
def EL:Obj:=fj #[(.str "_law_thing" 820)] 0
def K0:Obj:=eA "_law_whole" "_law_whole" eI
def EK:Obj:=gG "_law_whole" "_law_whole" 817 818 819 244 1 0 3 449 true 181 450 451 452 453 821 244 822
def EJ:Obj:=eB "_law_whole" "_law_whole" eI "law_playboard_k15_moves_in_texts" 799 454
def EI:Obj:=fj (gK ["_law_script","_law_cell","_law_wide","_law_high","_law_holes","_law_k","_law_hole"] 827) 0
def KZ:Obj:=eA "_law_board" "_law_board" eK
def EH:Obj:=gG "_law_board" "_law_board" 824 825 826 246 1 0 3 456 true 181 457 458 459 460 834 246 835
def EG:Obj:=eB "_law_board" "_law_board" eK "law_playboard_k15_moves_in_texts" 799 461
def KY:Obj:=eA "_law_kinds" "_law_kinds" df
def EF:Obj:=rV #[(.str "_law_kinds" 837),(.str "_law_kinds" 838),(iL 839),(aR 260),(aR 1),bS,bS,(aR 3),(.ref 463),(.bool true),(aR 181),(.ref 464),.none,.none,.none,(.ref 465),(aR 840),(aR 260),(iL 841)]
def EE:Obj:=eB "_law_kinds" "_law_kinds" df "law_playboard_k15_moves_in_texts" 799 466
def ED:Obj:=fj (gK ["_law_cell","_law_kinds_here","_law_more","_law_sort","_law_aim","_law_reach","_law_across","_law_up"] 846) 0
def KW:Obj:=eA "_law_rule" "_law_rule" fI
def EC:Obj:=gG "_law_rule" "_law_rule" 843 844 845 264 2 0 3 468 true 181 469 470 471 472 854 264 855
def EB:Obj:=eB "_law_rule" "_law_rule" fI "law_playboard_k15_moves_in_texts" 799 473
def KU:Obj:=eA "_law_turns" "_law_turns" dc
def EA:Obj:=rV #[(.str "_law_turns" 857),(.str "_law_turns" 858),(iL 859),(aR 278),(aR 2),bS,bS,(aR 3),(.ref 475),(.bool true),(aR 181),(.ref 476),.none,.none,.none,(.ref 477),(aR 860),(aR 278),(iL 861)]
def Ez:Obj:=eB "_law_turns" "_law_turns" dc "law_playboard_k15_moves_in_texts" 799 478
def Ey:Obj:=fj (gK ["_law_script","_law_wide","_law_high","_law_holes","_law_kinds_here","_law_cell","_law_rules","_law_k","_law_turns_here","_law_ends","_law_more","_law_stuck"] 866) 0
def KS:Obj:=eA "_law_game" "_law_game" fJ
def Ex:Obj:=gG "_law_game" "_law_game" 863 864 865 285 1 0 3 480 true 181 481 482 483 484 878 285 879
def Ew:Obj:=eB "_law_game" "_law_game" fJ "law_playboard_k15_moves_in_texts" 799 485
def KR:Obj:=eA "_law_row" "_law_row" cw
def Eu:Obj:=rV #[(.str "_law_row" 881),(.str "_law_row" 882),(iL 883),(aR 300),(aR 3),bS,bS,(aR 3),(.ref 487),(.bool true),(aR 181),(.ref 488),.none,.none,.none,(.ref 489),(aR 884),(aR 300),(iL 885)]
def Et:Obj:=eB "_law_row" "_law_row" cw "law_playboard_k15_moves_in_texts" 799 490
def Es:Obj:=fj #[(.str "_law_sign" 890)] 0
def KQ:Obj:=eA "_law_side" "_law_side" fH
def Er:Obj:=gG "_law_side" "_law_side" 887 888 889 316 1 0 3 492 true 181 493 494 495 496 891 316 892
def Ep:Obj:=eB "_law_side" "_law_side" fH "law_playboard_k15_moves_in_texts" 799 497
def Eo:Obj:=fj (gK ["_law_game_here","_law_square","_law_across","_law_up","_law_column","_law_row_here","_law_goal"] 897) 0
def KP:Obj:=eA "_law_step" "_law_step" fG
def En:Obj:=gG "_law_step" "_law_step" 894 895 896 320 4 0 3 499 true 181 500 501 502 503 904 320 905
def Em:Obj:=eB "_law_step" "_law_step" fG "law_playboard_k15_moves_in_texts" 799 504
def Ek:Obj:=fj (gK ["_law_game_here","_law_row_here","_law_square","_law_rule_here","_law_side_here","_law_across","_law_up","_law_goal","_law_found","_law_behind"] 910) 0
def KO:Obj:=eA "_law_by_rule" "_law_by_rule" cV
def Ej:Obj:=gG "_law_by_rule" "_law_by_rule" 907 908 909 327 4 0 3 506 true 181 507 508 509 510 920 327 921
def Ei:Obj:=eB "_law_by_rule" "_law_by_rule" cV "law_playboard_k15_moves_in_texts" 799 511
def KN:Obj:=eA "_law_goals" "_law_goals" dg
def Eh:Obj:=rV #[(.str "_law_goals" 923),(.str "_law_goals" 924),(iL 925),(aR 347),(aR 3),bS,bS,(aR 3),(.ref 513),(.bool true),(aR 181),(.ref 514),.none,.none,.none,(.ref 515),(aR 926),(aR 347),(iL 927)]
def Eg:Obj:=eB "_law_goals" "_law_goals" dg "law_playboard_k15_moves_in_texts" 799 516
def KM:Obj:=eA "_law_moves" "_law_moves" de
def Ef:Obj:=rV #[(.str "_law_moves" 929),(.str "_law_moves" 930),(iL 931),(aR 353),(aR 2),bS,bS,(aR 3),(.ref 518),(.bool true),(aR 181),(.ref 519),.none,.none,.none,(.ref 520),(aR 932),(aR 353),(iL 933)]
def Ee:Obj:=eB "_law_moves" "_law_moves" de "law_playboard_k15_moves_in_texts" 799 521
def Ed:Obj:=fj (gK ["_law_game_here","_law_square"] 938) 0
def KL:Obj:=eA "_law_square_text" "_law_square_text" bY
def Ec:Obj:=gG "_law_square_text" "_law_square_text" 935 936 937 359 2 0 3 523 true 181 524 525 526 527 940 359 941
def Eb:Obj:=eB "_law_square_text" "_law_square_text" bY "law_playboard_k15_moves_in_texts" 799 528
def KJ:Obj:=eA "_law_text" "_law_text" dX
def Ea:Obj:=rV #[(.str "_law_text" 943),(.str "_law_text" 944),(iL 945),(aR 361),(aR 2),bS,bS,(aR 3),(.ref 530),(.bool true),(aR 181),(.ref 531),.none,.none,.none,(.ref 532),(aR 946),(aR 361),(iL 947)]
def D9:Obj:=eB "_law_text" "_law_text" dX "law_playboard_k15_moves_in_texts" 799 533
def D8:Obj:=fj (gK ["_law_texts","_law_others","_law_cell","_law_text_here","_law_at","_law_sign","_law_kind"] 952) 0
def KI:Obj:=eA "_law_changed" "_law_changed" cT
def D7:Obj:=gG "_law_changed" "_law_changed" 949 950 951 368 3 0 3 535 true 181 536 537 538 539 959 368 960
def D6:Obj:=eB "_law_changed" "_law_changed" cT "law_playboard_k15_moves_in_texts" 799 540
def D5:Obj:=fj (gK ["_law_e","_law_told_here"] 965) 0
def KH:Obj:=eA "_law_alone" "_law_alone" eM
def D4:Obj:=gG "_law_alone" "_law_alone" 962 963 964 386 1 0 3 542 true 181 543 544 545 546 967 386 968
def D3:Obj:=eB "_law_alone" "_law_alone" eM "law_playboard_k15_moves_in_texts" 799 547
def D2:Obj:=fj (gK ["_law_game_here","_law_place","_law_text_here","_law_e"] 973) 0
def KD:Obj:=eA "_law_told" "_law_told" fF
def D1:Obj:=gG "_law_told" "_law_told" 970 971 972 391 3 0 3 549 true 181 550 551 552 553 977 391 978
def D0:Obj:=eB "_law_told" "_law_told" fF "law_playboard_k15_moves_in_texts" 799 554
def KC:Obj:=eA "law" "law" iz
def DZ:Obj:=rV #[(.str "law" 980),(.str "law" 981),(iL 982),(aR 398),(aR 1),bS,bS,(aR 3),(.ref 556),(.bool true),(aR 181),(.ref 557),.none,.none,.none,(.ref 558),(aR 983),(aR 398),(iL 984)]
def DY:Obj:=eB "law" "law" iz "law_playboard_k15_moves_in_texts" 799 559
end
noncomputable def hK(P:Sk):Frag:=(nat_lit 2,Xw P)::(nat_lit 3,zo3 P)::(nat_lit 15,ar)::(nat_lit 17,L7)::(nat_lit 18,ar)::(nat_lit 20,LZ)::(nat_lit 21,LW)::(nat_lit 22,LU)::(nat_lit 29,ar)::(nat_lit 30,LC P)::(nat_lit 31,Lz)::(nat_lit 32,Lx)::(nat_lit 35,iF)::(nat_lit 42,ar)::(nat_lit 43,K6 P)::(nat_lit 44,K2)::(nat_lit 47,iF)::(nat_lit 54,ar)::(nat_lit 55,KG P)::(nat_lit 56,KB)::(nat_lit 59,iF)::(nat_lit 66,ar)::(nat_lit 68,KA)::(nat_lit 69,ar)::(nat_lit 71,Kz)::(nat_lit 72,Ky)::(nat_lit 73,Kx)::(nat_lit 74,Kw P)::(nat_lit 75,Kv)::(nat_lit 78,iF)::(nat_lit 85,ar)::(nat_lit 86,Ku P)::(nat_lit 87,Ks)::(nat_lit 90,iF)::(nat_lit 97,ar)::(nat_lit 98,Kr P)::(nat_lit 99,Kq)::(nat_lit 102,iF)::(nat_lit 109,ar)::(nat_lit 110,Hk P)::(nat_lit 111,Hj)::(nat_lit 114,iF)::(nat_lit 121,ar)::(nat_lit 122,Hi P)::(nat_lit 123,Hh)::(nat_lit 126,iF)::(nat_lit 133,ar)::(nat_lit 134,Hg P)::(nat_lit 135,Hf)::(nat_lit 138,iF)::(nat_lit 145,ar)::(nat_lit 146,He P)::(nat_lit 147,Hd)::(nat_lit 150,ar)::(nat_lit 152,Hc)::(nat_lit 153,ar)::(nat_lit 155,Hb)::(nat_lit 156,Ha)::(nat_lit 157,ar)::(nat_lit 159,G4)::(nat_lit 160,ar)::(nat_lit 162,G3)::(nat_lit 163,G0)::(nat_lit 164,ar)::(nat_lit 166,GZ)::(nat_lit 167,ar)::(nat_lit 169,GY)::(nat_lit 170,GX)::(nat_lit 171,ar)::(nat_lit 173,GW)::(nat_lit 174,ar)::(nat_lit 176,GV)::(nat_lit 177,GU)::(nat_lit 178,GT)::(nat_lit 179,GS)::(nat_lit 180,GR)::(nat_lit 181,GQ)::(nat_lit 182,ar)::(nat_lit 184,GP)::(nat_lit 185,ar)::(nat_lit 187,GO)::(nat_lit 188,GN)::(nat_lit 189,ar)::(nat_lit 191,GM)::(nat_lit 192,ar)::(nat_lit 194,GL)::(nat_lit 195,GK)::(nat_lit 196,ar)::(nat_lit 198,GJ)::(nat_lit 199,ar)::(nat_lit 201,GI)::(nat_lit 202,GH)::(nat_lit 203,ar)::(nat_lit 205,GG)::(nat_lit 206,ar)::(nat_lit 208,GF)::(nat_lit 209,GE)::(nat_lit 210,ar)::(nat_lit 212,GD)::(nat_lit 213,ar)::(nat_lit 215,GB)::(nat_lit 216,GA)::(nat_lit 217,ar)::(nat_lit 219,Gz)::(nat_lit 220,ar)::(nat_lit 222,Gy)::(nat_lit 223,Gx)::(nat_lit 224,ar)::(nat_lit 227,Gw)::(nat_lit 228,Gv)::(nat_lit 229,ar)::(nat_lit 232,Gu)::(nat_lit 233,Gs)::(nat_lit 234,ar)::(nat_lit 236,Gr)::(nat_lit 237,ar)::(nat_lit 239,Gq)::(nat_lit 240,Gp)::(nat_lit 241,ar)::(nat_lit 244,Go)::(nat_lit 245,Gn)::(nat_lit 246,ar)::(nat_lit 249,Gm)::(nat_lit 250,Gk)::(nat_lit 251,ar)::(nat_lit 253,Gj)::(nat_lit 254,ar)::(nat_lit 256,Gi)::(nat_lit 257,Gh)::(nat_lit 258,ar)::(nat_lit 260,Gg)::(nat_lit 261,ar)::(nat_lit 263,Gf)::(nat_lit 264,Ge)::(nat_lit 265,ar)::(nat_lit 268,Gd)::(nat_lit 269,Gc)::(nat_lit 270,ar)::(nat_lit 272,Gb)::(nat_lit 273,ar)::(nat_lit 275,Ga)::(nat_lit 276,F0)::(nat_lit 277,ar)::(nat_lit 279,FZ)::(nat_lit 280,ar)::(nat_lit 282,FY)::(nat_lit 283,FX)::(nat_lit 284,ar)::(nat_lit 286,FW)::(nat_lit 287,ar)::(nat_lit 289,FV)::(nat_lit 290,FU)::(nat_lit 291,ar)::(nat_lit 293,FT)::(nat_lit 294,ar)::(nat_lit 296,FS)::(nat_lit 297,FR)::(nat_lit 298,ar)::(nat_lit 300,FQ)::(nat_lit 301,ar)::(nat_lit 303,FP)::(nat_lit 304,FO)::(nat_lit 305,ar)::(nat_lit 307,FN)::(nat_lit 308,ar)::(nat_lit 310,FM)::(nat_lit 311,FL)::(nat_lit 312,ar)::(nat_lit 314,FK)::(nat_lit 315,ar)::(nat_lit 317,FJ)::(nat_lit 318,FI)::(nat_lit 319,ar)::(nat_lit 321,FH)::(nat_lit 322,ar)::(nat_lit 324,FG)::(nat_lit 325,FF)::(nat_lit 326,ar)::(nat_lit 328,FE)::(nat_lit 329,ar)::(nat_lit 331,FD)::(nat_lit 332,FC)::(nat_lit 333,ar)::(nat_lit 336,FA)::(nat_lit 337,Fz)::(nat_lit 338,ar)::(nat_lit 340,Fy)::(nat_lit 341,ar)::(nat_lit 343,Fx)::(nat_lit 344,Fw)::(nat_lit 345,ar)::(nat_lit 347,Fv)::(nat_lit 348,ar)::(nat_lit 350,Fu)::(nat_lit 351,Ft)::(nat_lit 352,ar)::(nat_lit 355,Fs)::(nat_lit 356,Fq)::(nat_lit 364,ar)::(nat_lit 367,Fp)::(nat_lit 368,Fo)::(nat_lit 369,ar)::(nat_lit 371,Fn)::(nat_lit 372,ar)::(nat_lit 374,Fm)::(nat_lit 375,Fk)::(nat_lit 376,ar)::(nat_lit 379,Fj)::(nat_lit 380,Fi)::(nat_lit 381,ar)::(nat_lit 383,Fh)::(nat_lit 384,ar)::(nat_lit 386,Fg)::(nat_lit 387,Ff)::(nat_lit 388,ar)::(nat_lit 390,Fe)::(nat_lit 391,ar)::(nat_lit 393,Fd)::(nat_lit 394,Fc)::(nat_lit 395,Fb)::(nat_lit 396,Fa P)::(nat_lit 397,E9)::(nat_lit 398,E8)::(nat_lit 399,E7)::(nat_lit 409,ar)::(nat_lit 411,E6)::(nat_lit 412,ar)::(nat_lit 414,E5)::(nat_lit 415,E4)::(nat_lit 416,ar)::(nat_lit 419,E3)::(nat_lit 420,E2)::(nat_lit 421,ar)::(nat_lit 423,E1)::(nat_lit 424,ar)::(nat_lit 426,EZ)::(nat_lit 427,EY)::(nat_lit 428,EX)::(nat_lit 429,EW P)::(nat_lit 430,EV)::(nat_lit 431,EU)::(nat_lit 432,ET)::(nat_lit 435,ar)::(nat_lit 437,ES)::(nat_lit 438,ar)::(nat_lit 440,ER)::(nat_lit 441,EQ)::(nat_lit 442,ar)::(nat_lit 444,EO)::(nat_lit 445,ar)::(nat_lit 447,EN)::(nat_lit 448,EM)::(nat_lit 449,ar)::(nat_lit 451,EL)::(nat_lit 452,ar)::(nat_lit 454,EK)::(nat_lit 455,EJ)::(nat_lit 456,ar)::(nat_lit 458,EI)::(nat_lit 459,ar)::(nat_lit 461,EH)::(nat_lit 462,EG)::(nat_lit 463,ar)::(nat_lit 466,EF)::(nat_lit 467,EE)::(nat_lit 468,ar)::(nat_lit 470,ED)::(nat_lit 471,ar)::(nat_lit 473,EC)::(nat_lit 474,EB)::(nat_lit 475,ar)::(nat_lit 478,EA)::(nat_lit 479,Ez)::(nat_lit 480,ar)::(nat_lit 482,Ey)::(nat_lit 483,ar)::(nat_lit 485,Ex)::(nat_lit 486,Ew)::(nat_lit 487,ar)::(nat_lit 490,Eu)::(nat_lit 491,Et)::(nat_lit 492,ar)::(nat_lit 494,Es)::(nat_lit 495,ar)::(nat_lit 497,Er)::(nat_lit 498,Ep)::(nat_lit 499,ar)::(nat_lit 501,Eo)::(nat_lit 502,ar)::(nat_lit 504,En)::(nat_lit 505,Em)::(nat_lit 506,ar)::(nat_lit 508,Ek)::(nat_lit 509,ar)::(nat_lit 511,Ej)::(nat_lit 512,Ei)::(nat_lit 513,ar)::(nat_lit 516,Eh)::(nat_lit 517,Eg)::(nat_lit 518,ar)::(nat_lit 521,Ef)::(nat_lit 522,Ee)::(nat_lit 523,ar)::(nat_lit 525,Ed)::(nat_lit 526,ar)::(nat_lit 528,Ec)::(nat_lit 529,Eb)::(nat_lit 530,ar)::(nat_lit 533,Ea)::(nat_lit 534,D9)::(nat_lit 535,ar)::(nat_lit 537,D8)::(nat_lit 538,ar)::(nat_lit 540,D7)::(nat_lit 541,D6)::(nat_lit 542,ar)::(nat_lit 544,D5)::(nat_lit 545,ar)::(nat_lit 547,D4)::(nat_lit 548,D3)::(nat_lit 549,ar)::(nat_lit 551,D2)::(nat_lit 552,ar)::(nat_lit 554,D1)::(nat_lit 555,D0)::(nat_lit 556,ar)::(nat_lit 559,DZ)::(nat_lit 560,DY)::[]
noncomputable def hA:List XB:=2::3::15::17::18::20::21::22::29::30::31::32::35::42::43::44::47::54::55::56::59::66::68::69::71::72::73::74::75::78::85::86::87::90::97::98::99::102::109::110::111::114::121::122::123::126::133::134::135::138::145::146::147::150::152::153::155::156::157::159::160::162::163::164::166::167::169::170::171::173::174::176::177::178::179::180::181::182::184::185::187::188::189::191::192::194::195::196::198::199::201::202::203::205::206::208::209::210::212::213::215::216::217::219::220::222::223::224::227::228::229::232::233::234::236::237::239::240::241::244::245::246::249::250::251::253::254::256::257::258::260::261::263::264::265::268::269::270::272::273::275::276::277::279::280::282::283::284::286::287::289::290::291::293::294::296::297::298::300::301::303::304::305::307::308::310::311::312::314::315::317::318::319::321::322::324::325::326::328::329::331::332::333::336::337::338::340::341::343::344::345::347::348::350::351::352::355::356::364::367::368::369::371::372::374::375::376::379::380::381::383::384::386::387::388::390::391::393::394::395::396::397::398::399::409::411::412::414::415::416::419::420::421::423::424::426::427::428::429::430::431::432::435::437::438::440::441::442::444::445::447::448::449::451::452::454::455::456::458::459::461::462::463::466::467::468::470::471::473::474::475::478::479::480::482::483::485::486::487::490::491::492::494::495::497::498::499::501::502::504::505::506::508::509::511::512::513::516::517::518::521::522::523::525::526::528::529::530::533::534::535::537::538::540::541::542::544::545::547::548::549::551::552::554::555::556::559::560::[]
noncomputable def hE:Tz:={scope:=hP.main.scope,locals:=mainNs,globals:=mainNs,cells:=[],code:=(.ref 13),frame:=some 14}
noncomputable def hB:List Ql:=PySem.W.behindTheImports hP
noncomputable abbrev hC:Code:=.body hB hE
noncomputable abbrev hN:Option h9:=(some (.ref 6))
noncomputable abbrev hF:List Frame:=[PySem.W.topFrame ⟨0,0,0,0⟩]
noncomputable def hS(w:P9)(os:Rs):PZ:=⟨Xh w.params,Array.mk [],PySem.W.boot_drawn,PySem.W.boot_toks,os⟩
noncomputable def Nv(w:P9)(os:Rs):PZ:=(PySem.W.topGo Qg hP w 11 hN 12 (hS w os) (Xx hP)).elim (hS w os) λx=>x.1
noncomputable def Nu(w:P9)(os:Rs):PySem.W.SharedT:=toT ((Xy Qg hP w 11 hN 1 1 (Nv w os) (Xz hB hE hC ⟨0,0,0,0⟩ hF)).elim (Nv w os) λx=>x.2.1)
theorem hpre(w:P9)(os:Rs):PySem.W.topGo Qg hP w 11 hN 12 (hS w os) (Xx hP)=some (Nv w os,⟨denote Qg hC,hC,⟨0,0,0,0⟩,hF⟩):=by kernel_rfl
theorem O9(w:P9)(os:Rs):Xy Qg hP w 11 hN 1 1 (Nv w os) (Xz hB hE hC ⟨0,0,0,0⟩ hF)=some (.next,(Nu w os).abs,hC,⟨0,0,0,0⟩):=by kernel_rfl
noncomputable def hL1(P:Sk):PySem.W.BT:=aF (PySem.W.boot_o_0 P) (aF (PySem.W.boot_o_1 P) (aF (zo3 P) (aF (PySem.W.boot_o_7 P) (aF ar (aF Lz (aF Os (aF lR (aF LM (aI Ej) .nil) (aI Fh)) (aF GM (aI ar) (aI EN))) (aF Oe (aF G4 (aF ar (aI bw) .nil) (aI E4)) (aF Gx (aI Ft) (aI Ez)))) (aF iF (aF lR (aF Me (aF bw (aI KL) .nil) (aI E7)) (aF LX (aI Lu) (aI ar))) (aF Hj (aF L6 (aF FP (aI DZ) .nil) (aI EU)) (aF Gq (aI Fp) (aI ar))))) (aF lR (aF bw (aF Kz (aF Hf (aF Gf (aI bw) .nil) (aI ar)) (aF ar (aI bw) (aI EJ))) (aF lR (aF ar (aF LD (aI D2) .nil) (aI E1)) (aF LQ (aI (Lp P)) (aI ar)))) (aF (KG P) (aF Ks (aF bw (aF FZ (aI ar) .nil) (aI Lc)) (aF GB (aI Fx) (aI ar))) (aF Mp (aF bw (aI FL) (aI K3)) (aF bw (aI Fk) (aI KP)))))) (aF ar (aF OK (aF iF (aF bw (aF Mj (aF bw (aI KN) .nil) (aI Ff)) (aF GK (aI Lw) (aI EL))) (aF Kq (aF G0 (aF ar (aI D4) .nil) (aI E3)) (aF Gw (aI Fs) (aI ar)))) (aF bw (aF Oj (aF Hd (aF Ga (aI bw) .nil) (aI lR)) (aF bw (aI bw) (aI EE))) (aF lR (aF GS (aI FN) (aI ar)) (aF LO (aI Fn) (aI ar))))) (aF OH (aF (K6 P) (aF Kv (aF lR (aF LK (aI ar) .nil) (aI Fb)) (aF ar (aI FD) (aI ar))) (aF Mu (aF ar (aF bw (aI D0) .nil) (aI EY)) (aF bw (aI Lm) (aI Et)))) (aF iF (aF lR (aF Hb (aF FX (aI KI) .nil) (aI E6)) (aF Gz (aI Fv) (aI ar))) (aF Hh (aF GO (aI ar) (aI bw)) (aF ar (aI Fj) (aI bw))))))) (aF (PySem.W.boot_o_5 P) (aF (PySem.W.boot_o_9 P) (aF L7 (aF OF (aF Op (aF ar (aF Gh (aI ar) .nil) (aI Li)) (aF L4 (aI FH) (aI ar))) (aF ar (aF L9 (aF FV (aI ar) .nil) (aI bw)) (aF bw (aI bw) (aI bw)))) (aF (Oy P) (aF ar (aF ar (aF ar (aI Eb) .nil) (aI Lf)) (aF GE (aI Fz) (aI KY))) (aF Mr (aF GU (aI ar) (aI K5)) (aF ar (aI ar) (aI Er))))) (aF ar (aF OB (aF Kx (aF Mg (aF ar (aI Ef) .nil) (aI Fd)) (aF GI (aI ar) (aI bw))) (aF ar (aF GY (aF FR (aI KD) .nil) (aI K7)) (aF Gs (aI Lo) (aI KR)))) (aF Ov (aF Og (aF ar (aF LH (aI D8) .nil) (aI ar)) (aF ar (aI ar) (aI EC))) (aF ar (aF ar (aI bw) (aI EQ)) (aF Gm (aI bw) (aI Em)))))) (aF OM (aF LW (aF (OD P) (aF ar (aF ar (aF ar (aI Eg) .nil) (aI bw)) (aF bw (aI FF) (aI K0))) (aF Mw (aF bw (aF FT (aI ar) .nil) (aI ar)) (aF ar (aI ar) (aI Ex)))) (aF Ow (aF ar (aF Mb (aF ar (aI Ea) .nil) (aI ar)) (aF ar (aI ar) (aI bw))) (aF ar (aF GQ (aI LA) (aI ES)) (aF Gn (aI Lk) (aI Eo))))) (aF ar (aF OA (aF Om (aF ar (aF Gc (aI Ed) .nil) (aI E9)) (aF GG (aI ar) (aI EH))) (aF ar (aF GW (aF ar (aI bw) .nil) (aI (EW P))) (aF ar (aI bw) (aI bw)))) (aF (Ot P) (aF ar (aF ar (aF bw (aI D6) .nil) (aI La)) (aF LS (aI Lr) (aI KU))) (aF Mm (aF ar (aI FJ) (aI ar)) (aF Gj (aI ar) (aI ar)))))))) (aF (Xw P) (aF (PySem.W.boot_o_4 P) (aF (PySem.W.boot_o_8 P) (aF bw (aF Lx (aF Oq (aF (Ml P) (aF Gi (aI Ei) .nil) (aI ar)) (aF ar (aI bw) (aI EM))) (aF Od (aF ar (aF LF (aI D5) .nil) (aI ar)) (aF ar (aI ar) (aI ar)))) (aF lR (aF (Ol P) (aF Md (aF Gb (aI Ec) .nil) (aI Lg)) (aF GF (aI FA) (aI bw))) (aF Ms (aF GV (aF FO (aI DY) .nil) (aI ET)) (aF Gp (aI Fo) (aI KQ))))) (aF (OJ P) (aF OC (aF Ky (aF Mh (aF Ge (aI KM) .nil) (aI Lh)) (aF LY (aI FE) (aI ar))) (aF (Mv P) (aF L8 (aF FS (aI ar) .nil) (aI ar)) (aF Gu (aI ar) (aI bw)))) (aF KB (aF Oh (aF Hc (aF ar (aI bw) .nil) (aI Lb)) (aF GA (aI Fw) (aI KW))) (aF Mo (aF GP (aI ar) (aI ER)) (aF LN (aI ar) (aI En)))))) (aF ON (aF LZ (aF lR (aF KA (aF Mi (aF Gg (aI Eh) .nil) (aI ar)) (aF ar (aI FG) (aI ar))) (aF Mx (aF ar (aF bw (aI D3) .nil) (aI E2)) (aF Gv (aI Fq) (aI KS)))) (aF Ox (aF Oi (aF Mc (aF F0 (aI KJ) .nil) (aI (Le P))) (aF GD (aI Fy) (aI ar))) (aF (Mq P) (aF GR (aI ar) (aI bw)) (aF Go (aI ar) (aI bw))))) (aF OG (aF K2 (aF On (aF (Mf P) (aF Gd (aI bw) .nil) (aI (Fa P))) (aF bw (aI FC) (aI KZ))) (aF Mt (aF bw (aF FQ (aI ar) .nil) (aI EX)) (aF Gr (aI ar) (aI ar)))) (aF lR (aF (Of P) (aF Ha (aF ar (aI D7) .nil) (aI ar)) (aF ar (aI ar) (aI bw))) (aF Mn (aF GN (aI Ly) (aI EO)) (aF bw (aI Fi) (aI Ek))))))) (aF (PySem.W.boot_o_6 P) (aF (PySem.W.boot_o_10 P) (aF ar (aF OE (aF ar (aF bw (aF ar (aI bw) .nil) (aI Fg)) (aF GL (aI ar) (aI bw))) (aF (Kr P) (aF G3 (aF FU (aI KH) .nil) (aI K9)) (aF LR (aI Lq) (aI Ey)))) (aF ar (aF bw (aF (He P) (aF LJ (aI ar) .nil) (aI ar)) (aF ar (aI ar) (aI EF))) (aF iF (aF GT (aI bw) (aI K4)) (aF bw (aI bw) (aI Ep))))) (aF bw (aF ar (aF (Kw P) (aF iF (aF bw (aI Ee) .nil) (aI Fc)) (aF GH (aI Lv) (aI EI))) (aF bw (aF GX (aF ar (aI D1) .nil) (aI EZ)) (aF ar (aI Ln) (aI Eu)))) (aF Ou (aF iF (aF Ma (aF FY (aI ar) .nil) (aI bw)) (aF bw (aI bw) (aI EB))) (aF (Hi P) (aF L5 (aI FK) (aI ar)) (aF Gk (aI Lj) (aI ar)))))) (aF OL (aF LU (aF ar (aF Oo (aF (Hg P) (aF LL (aI ar) .nil) (aI Fe)) (aF GJ (aI ar) (aI EK))) (aF iF (aF GZ (aF ar (aI bw) .nil) (aI bw)) (aF bw (aI lR) (aI Ew)))) (aF ar (aF (Ku P) (aF ar (aF bw (aI D9) .nil) (aI Ld)) (aF LV (aI Ls) (aI ED))) (aF bw (aF ar (aI FM) (aI ar)) (aF ar (aI Fm) (aI ar))))) (aF (LC P) (aF Oz (aF iF (aF bw (aF ar (aI ar) .nil) (aI E8)) (aF ar (aI bw) (aI EG))) (aF (Hk P) (aF ar (aF LB (aI KC) .nil) (aI EV)) (aF LP (aI Ll) (aI Es)))) (aF ar (aF bw (aF bw (aF FW (aI ar) .nil) (aI E5)) (aF Gy (aI Fu) (aI EA))) (aF iF (aF bw (aI FI) (aI K1)) (aF ar (aI bw) (aI KO))))))))
noncomputable def Pa(w:P9)(os:Rs):PySem.W.SharedT:=stT (hL1 w.params) 561 986 w.params os
noncomputable def hT1:List Ql:=(hB.drop 0).take 88
theorem Nq(w:P9):(λos=>PySem.W.segRunT Qg hP w 11 hN 1 4584 (Nu w os) ⟨(execs hT1 hE).wrap Xm PySem.W.deadEnd id id,hC,⟨0,0,0,0⟩,hF⟩)=λos=>some (Flow.next,(Pa w os),hC,⟨398,0,416,15⟩):=by
 rw[PySem.W.Fast.te10110043849684766642,PySem.W.Fast.te12563942051412417395,PySem.W.Fast.te14364793385576792824]
 kernel_rfl
noncomputable def hSf(tr:(String->Option Builtin)->P6->P9->Nat->Option h9->Nat->PZ->Thread->Option PZ)(tb:String->Option Builtin)(w:P9)(os:Rs):PZ:=
 (tr tb hP w 11 hN 2 (Pa w os).abs ⟨Xm .next,hC,⟨398,0,416,15⟩,hF⟩).elim (hS w os) id
noncomputable def hX(s:PZ):Bool:=PySem.W.xlAt hQ [] s&&PySem.W.recOk (PySem.W.RowW.records PySem.Challenge.rw_playboard_k15_moves_in_texts.row.toRowW) s
theorem O8(w:P9):(λos=>W0 Qg hP w 11 hN 2 (Pa w os).abs ⟨Xm .next,hC,⟨398,0,416,15⟩,hF⟩)=λos=>some (hSf W0 Qg w os):=by
 rw[PySem.W.Fast.te14364793385576792824,PySem.W.Fast.te14082659384304107361]
 kernel_rfl
theorem JK(w:P9):(λos=>(PySem.W.staticsOk (QY hP.main.body) (Xh w.params) (hSf W0 Qg w os).heap&&PySem.W.namesBound hP (hSf W0 Qg w os).heap&&PySem.W.gensDone (hSf W0 Qg w os)&&PySem.W.laidKept (Xh w.params) (hSf W0 Qg w os).heap))=λos=>true:=by
 rw[PySem.W.Fast.te14364793385576792824,PySem.W.Fast.te14082659384304107361,PySem.W.Fast.te5923862056798008813]
 kernel_rfl
theorem JJ(w:P9):(λos=>PySem.W.openSeen hQ [] (QY hP.main.body) hX true (hSf W0 Qg w os))=λos=>PySem.W.openGood hQ []:=by
 rw[PySem.W.Fast.te14364793385576792824,PySem.W.Fast.te14082659384304107361,PySem.W.Fast.te4187177175401517315,PySem.W.Fast.te5923862056798008813]
 kernel_rfl
theorem JI(w:P9):(λos=>xy hA (hSf W0 Qg w os))=λos=>xx hK w:=by
 rw[PySem.W.Fast.te14364793385576792824,PySem.W.Fast.te14082659384304107361]
 kernel_rfl
theorem hBe:hB=(hT1++[]):=by kernel_rfl
theorem Nt(w:P9)(os:Rs):W0 Qg hP w 11 hN (4584+2) (Nu w os).abs (XA hB hE hC ⟨0,0,0,0⟩ hF)=some (hSf W0 Qg w os):=by have r:=PySem.W.piece_nil (env:=hE) (congrFun (O8 w) os);have r:=PySem.W.piece_app (PySem.W.segRun_of (congrFun (Nq w) os)) r;exact(PM (λl=>W0 Qg hP w 11 hN (4584+2) (Nu w os).abs (XA l hE hC ⟨0,0,0,0⟩ hF)) hBe).trans r
theorem hleft:PySem.W.LeftO hP hQ [] hX (xy hA) (xx hK) 9292:=
 yW (n0:=12) (nb:=1) (n:=(4584+2)) (qp:=⟨0,0,0,0⟩) (p0:=⟨0,0,0,0⟩) (p1:=⟨0,0,0,0⟩) (H₀:=Xh) (m₀:=11) (ann:=hN) (b:=hB) (env:=hE) (sa:=Nv) (sb:=Nu) (sf:=λw os=>(hSf W0 Qg w os))
  (PySem.W.boot_open (by kernel_rfl) (by decide+kernel) (λs=>by kernel_rfl)) (λw=>by kernel_rfl) hpre O9 Nt (by decide+kernel) (λw os=>by rw[congrFun (JK w) os,congrFun (JJ w) os,congrFun (JI w) os])
end K15
local macro_rules| `(tactic|walk_at "rd")=> `(tactic|simp only[L2.bg,L2.ju,L2.cL,L2.tAsg,L2.gName,L2.mz,L2.jy,L2.ci,L2.tC,L2.kJ,L2.dE,L2.dD,L2.uy,L2.DG,L2.xN,L2.BZ,L2.DH,L2.xP,L2.BY,L2.nP,L2.ik,L2.cB,L2.ba,L2.Pj,L2.cE,L2.NP,L2.wf,L2.cY,L2.zM,L2.zQ,L2.Io,L2.Ip,L2.ly,L2.kH,L2.Aw,L2.Ak,L2.Au,L2.Aj,L2.CN,L2.CI,L2.CM,L2.CH,L2.qH,L2.qz,L2.qI,L2.qA,L2.qE,L2.qw,L2.tD,L2.sV,L2.qD,L2.qv,L2.tF,L2.sX,L2.tG,L2.sY,L2.qG,L2.qy,L2.qF,L2.qx,L2.tE,L2.sW,L2.CK,L2.CG,L2.Am,L2.lh,L2.At,L2.yF,L2.Al,L2.oV,L2.tu,L2.sU,L2.j9,L2.iC,L2.As,L2.tm,L2.io,L2.lU,L2.Ap,L2.sZ,L2.tw,L2.mW,L2.CJ,L2.vp,L2.qC,L2.lW,L2.Ar,L2.tj,L2.qB,L2.lV,L2.Aq,L2.tf,L2.MS,L2.IM,L2.Ax,L2.MG,L2.MM,L2.IL,L2.MN,L2.ML,L2.MP,L2.MQ,L2.MI,L2.MJ,L2.IH,L2.II,L2.MO,L2.MH,L2.IJ,L2.IK,L2.MR,L2.OT,L2.An,L2.IG,L2.yD,L2.Ao,L2.yE,L2.yB,L2.r_b,Vv,Vw,Ve,VL,T7,Wv,Bool.not_false,Wt,if_true,if_false,decide_true,decide_false])
namespace K15
open PySem L2
abbrev bR(K:Frag)(x:Str)(st:Ql)(f:XB)(fd:Qf):Prop:=WU K P3 x=some (some (.ref f))/\cZ K x x st f fd
theorem mD(P:P6)(w:P9)(Px:Qe){K:Frag}{h:Qe}{mg:PN}(X:K.In h)(G:h.Ns P3 mg){x:Str}{st:Ql}{ps:List Str}{k:Nat}{sp:Sp}{f:XB}{fd:Qf}(F:bR K x st f fd)(o:bh P w K mg Px dm k f fd ps sp)(b:∀(kV doc pm:h9)(an:Option XB)(cdv ct:h9)(us:List h9),us.length=ps.length->bindArgs (W2 x x (fY st) (dj st) (am st) .none kV doc pm an cdv ct) ⟨us,[]⟩=pure (ps.zip us):=by intro _ _ _ _ _ _;first|exact L2.ln1 (λ_=>rfl)|exact L2.ln2 (λ_ _=>rfl)|exact L2.ln3 (λ_ _ _=>rfl)|exact L2.OY (λ_ _ _ _=>rfl)|exact L2.ln5 (λ_ _ _ _ _=>rfl)|exact L2.ln6 (λ_ _ _ _ _ _=>rfl)):dG P w K mg Px x ps k sp:=⟨f,_,o,WV X G F.1,F.2.kp,F.2.binds b⟩
noncomputable abbrev ζL(o:h9)(d:Option XB)(a b:Str)(s:Ql)(k c p:h9)(n:Option XB)(e t:h9)(l:Array (Option h9)):Obj:=⟨o,d,.func (W2 a b (fY s) (dj s) (am s) .none k c p n e t),l⟩
theorem all_mk{l:PySem.W.OpenLaw}{w:P9}{K:Frag}{h:Qe}{mg:PN}{fa f1 f2 f3 f4 f5 f6 f7 f8 f9 f10 f11 f12 f13 f14 f15 f16 f17 f18 f19 f20 f21 f22 f23 f24 f25 f26 f27 f28 f29 f30 f31 f32 f33 f34 f35 f36 f37 f38 f39 f40 f41 f42 f43 f44 f45 f46 f47 f48 f49 f50 f51 f52 f53 f54 f55 cBoard cGame cPlayError cBadBoard cBadGame cBadLine cBadPlace cNoMove cTooWide cNoWord cOver cNothingBack aS aA aE aW:XB}(X:K.In h)(G:h.Ns P3 mg)(hfa:mg "law"=some (.ref fa)){od55 an55:Option XB}{sl55:Array (Option h9)}{oc55 kV55 dc55 pm55 cd55 ct55:h9}{d1 d2 d3 d4 d5 d6 d7 d8 d9 d10 d11 d12 d13 d14 d15 d16 d17 d18 d19 d20 d21 d22 d23 d24 d25 d26 d27 d28 d29 d30 d31 d32 d33 d34 d35 d36 d37 d38 d39 d40 d41 d42 d43 d44 d45 d46 d47 d48 d49 d50 d51 d52 d53 d54:Qf}{u0 u1 u2 u3 u4 u5 u6 u7:h9}(aCBoard:WU K P3 "Board"=some (some (.ref cBoard)))(aCGame:WU K P3 "Game"=some (some (.ref cGame)))(aEPlayError:WU K P3 "PlayError"=some (some (.ref cPlayError)))(aEBadBoard:WU K P3 "BadBoard"=some (some (.ref cBadBoard)))(aEBadGame:WU K P3 "BadGame"=some (some (.ref cBadGame)))(aEBadLine:WU K P3 "BadLine"=some (some (.ref cBadLine)))(aEBadPlace:WU K P3 "BadPlace"=some (some (.ref cBadPlace)))(aENoMove:WU K P3 "NoMove"=some (some (.ref cNoMove)))(aETooWide:WU K P3 "TooWide"=some (some (.ref cTooWide)))(aENoWord:WU K P3 "NoWord"=some (some (.ref cNoWord)))(aEOver:WU K P3 "Over"=some (some (.ref cOver)))(aENothingBack:WU K P3 "NothingBack"=some (some (.ref cNothingBack)))(F1:bR K "is_whole" gr f1 d1)(F2:bR K "is_letter" fC f2 d2)(F3:bR K "is_among" gt f3 d3)(F4:bR K "number_text" dv f4 d4)(F5:bR K "is_word" g6 f5 d5)(F6:bR K "is_tuple_of" dw f6 d6)(F7:bR K "is_list_of" eH f7 d7)(F8:bR K "is_step" g7 f8 d8)(F9:bR K "is_rule" g8 f9 d9)(F10:bR K "is_pair" g9 f10 d10)(F11:bR K "are_pairs" dS f11 d11)(F12:bR K "is_turns" dL f12 d12)(F13:bR K "is_ends" hG f13 d13)(F14:bR K "are_kinds" dU f14 d14)(F15:bR K "are_rules" dR f15 d15)(F16:bR K "kind_of" gZ f16 d16)(F17:bR K "side_of" gX f17 d17)(F18:bR K "squares_of" db f18 d18)(F19:bR K "ray" sS f19 d19)(F20:bR K "slid" mS f20 d20)(F21:bR K "jumped" iS f21 d21)(F22:bR K "by_rule" hJ f22 d22)(F23:bR K "goals" j7 f23 d23)(F24:bR K "column_of" fE f24 d24)(F25:bR K "row_of" iR f25 d25)(F26:bR K "square_at" fA f26 d26)(F27:bR K "square_text" du f27 d27)(F28:bR K "moves" jk f28 d28)(F29:bR K "move_text" fB f29 d29)(F30:bR K "move_of" gY f30 d30)(F31:bR K "are_holes" dW f31 d31)(a32:WW K (.ref cBoard) "__init__"=some (some (.ref f32)))(iF32:W5 K (.ref f32)=true)(F32:cZ K "__init__" "Board.__init__" bV f32 d32)(a33:WW K (.ref cBoard) "moved"=some (some (.ref f33)))(iF33:W5 K (.ref f33)=true)(F33:cZ K "moved" "Board.moved" dA f33 d33)(a34:WW K (.ref cGame) "__init__"=some (some (.ref f34)))(iF34:W5 K (.ref f34)=true)(F34:cZ K "__init__" "Game.__init__" cH f34 d34)(a35:WW K (.ref cGame) "rules_of"=some (some (.ref f35)))(iF35:W5 K (.ref f35)=true)(F35:cZ K "rules_of" "Game.rules_of" ce f35 d35)(F36:bR K "_law_cell_at" cU f36 d36)(F37:bR K "_law_mixed" eJ f37 d37)(F38:bR K "_law_whole" eI f38 d38)(F39:bR K "_law_board" eK f39 d39)(F40:bR K "_law_kinds" df f40 d40)(F41:bR K "_law_rule" fI f41 d41)(F42:bR K "_law_turns" dc f42 d42)(F43:bR K "_law_game" fJ f43 d43)(F44:bR K "_law_row" cw f44 d44)(F45:bR K "_law_side" fH f45 d45)(F46:bR K "_law_step" fG f46 d46)(F47:bR K "_law_by_rule" cV f47 d47)(F48:bR K "_law_goals" dg f48 d48)(F49:bR K "_law_moves" de f49 d49)(F50:bR K "_law_square_text" bY f50 d50)(F51:bR K "_law_text" dX f51 d51)(F52:bR K "_law_changed" cT f52 d52)(F53:bR K "_law_alone" eM f53 d53)(F54:bR K "_law_told" fF f54 d54)(a55:WU K P3 "law"=some (some (.ref f55)))(l55:K.lookup f55=some (ζL oc55 od55 "law" "law" iz kV55 dc55 pm55 an55 cd55 ct55 sl55))(c55:Xg K cd55 "law"=true)(k55:W1 K (.ref f55)=true)(pgXBoard:W7 K cBoard Rq=true)(hdXBoard:W8 K cBoard=true)(poXBoard:Xe K cBoard=true)(saXBoard:WW K (.ref cBoard) "__setattr__"=some (some (.builtin "object.__setattr__")))(mkXBoard:Xf K cBoard=true)(kcXBoard:W1 K (.ref cBoard)=true)(naBoardwide:WW K (.ref cBoard) "wide"=some none)(naBoardhigh:WW K (.ref cBoard) "high"=some none)(naBoardholes:WW K (.ref cBoard) "holes"=some none)(naBoardfirm:WW K (.ref cBoard) "firm"=some none)(pgXGame:W7 K cGame Rq=true)(hdXGame:W8 K cGame=true)(poXGame:Xe K cGame=true)(saXGame:WW K (.ref cGame) "__setattr__"=some (some (.builtin "object.__setattr__")))(mkXGame:Xf K cGame=true)(kcXGame:W1 K (.ref cGame)=true)(naGameboard:WW K (.ref cGame) "board"=some none)(naGamekinds:WW K (.ref cGame) "kinds"=some none)(naGamerules:WW K (.ref cGame) "rules"=some none)(naGameturns:WW K (.ref cGame) "turns"=some none)(naGameends:WW K (.ref cGame) "ends"=some none)(naGamestuck:WW K (.ref cGame) "stuck"=some none)(xq:Xb K cNoMove [.type "ValueError",.type "Exception",.type "BaseException",.type "object"] "ValueError.__new__"=true)(xga:WW K (.ref cNoMove) "__getattribute__"=some (some (.builtin "BaseException.__getattribute__")))(xgh:WW K (.ref cNoMove) "__getattr__"=some none)(xha:WW K (.ref cNoMove) "__class__"=some (some (.builtin "object.__class__")))(xhn:Xq K (.builtin "object.__class__") "__get__"=some (some (.builtin "getset_descriptor.__get__")))(xtk:Xr K (.builtin "object.__class__")=some true)(xhm:W9 K cNoMove (.type "object")=some true)(xhb:W9 K cNoMove (.type "BaseException")=some true)(xem:Xc K (.ref cNoMove) (.ref cPlayError)=some true)(xv:WX K (.ref cNoMove) (.type "ValueError")=some true)(xkBadBoard:WX K (.ref cNoMove) (.ref cBadBoard)=some false)(xkBadGame:WX K (.ref cNoMove) (.ref cBadGame)=some false)(xkBadLine:WX K (.ref cNoMove) (.ref cBadLine)=some false)(xkBadPlace:WX K (.ref cNoMove) (.ref cBadPlace)=some false)(xkNoMove:WX K (.ref cNoMove) (.ref cNoMove)=some true)(xkTooWide:WX K (.ref cNoMove) (.ref cTooWide)=some false)(xkNoWord:WX K (.ref cNoMove) (.ref cNoWord)=some false)(xkOver:WX K (.ref cNoMove) (.ref cOver)=some false)(xkNothingBack:WX K (.ref cNoMove) (.ref cNothingBack)=some false)(z0:WU K P3 "isinstance"=some none)(z1:WU K P3 "int"=some none)(z2:WU K P3 "bool"=some none)(z3:WU K P3 "str"=some none)(z4:WU K P3 "list"=some none)(z5:WU K P3 "tuple"=some none)(z6:WU K P3 "len"=some none)(z7:WU K P3 "range"=some none)(z8:WU K P3 "all"=some none)(z9:WU K P3 "any"=some none)(z10:WU K P3 "set"=some none)(z11:WU K P3 "sorted"=some none)(z12:WU K P3 "min"=some none)(z13:WU K P3 "max"=some none)(z14:WU K P3 "dict"=some none)(z15:WU K P3 "ValueError"=some none)(z16:WU K P3 "enumerate"=some none)(z17:WU K P3 "zip"=some none)(z18:WU K P3 "reversed"=some none)(kg0:WU K P3 "NOTHING"=some (some u0))(rv0:aQ (.int (-1)) u0)(kg1:WU K P3 "EMPTY"=some (some u1))(rv1:aQ (.str ".") u1)(kg2:WU K P3 "HOLE"=some (some u2))(rv2:aQ (.str "#") u2)(kg3:WU K P3 "COLUMNS"=some (some u3))(rv3:aQ (.str "abcdefghijklmnopqrstuvwxyz") u3)(kg4:WU K P3 "MOST_PAIRS"=some (some u4))(rv4:aQ (.int 6) u4)(kg5:WU K P3 "MOST_KINDS"=some (some u5))(rv5:aQ (.int 6) u5)(kg6:WU K P3 "MOST_RULES"=some (some u6))(rv6:aQ (.int 24) u6)(kg7:WU K P3 "LONGEST"=some (some u7))(rv7:aQ (.int 8) u7){tO0:h9}{tD0:Option XB}{tI0:Array h9}{tN0:Nat}{tS0:Array (Option h9)}(kt0:WU K P3 "SORTS"=some (some (.ref aS)))(lt0:K.lookup aS=some ⟨tO0,tD0,.seq tI0 tN0,tS0⟩)(ctp0:tO0=.type "tuple")(zt0:tI0.size<=fv)(vt0:aZ ([V.str "leap",V.str "slide",V.str "jump"]) tI0.toList){tO1:h9}{tD1:Option XB}{tI1:Array h9}{tN1:Nat}{tS1:Array (Option h9)}(kt1:WU K P3 "AIMS"=some (some (.ref aA)))(lt1:K.lookup aA=some ⟨tO1,tD1,.seq tI1 tN1,tS1⟩)(ctp1:tO1=.type "tuple")(zt1:tI1.size<=fv)(vt1:aZ ([V.str "go",V.str "hit",V.str "any"]) tI1.toList){tO2:h9}{tD2:Option XB}{tI2:Array h9}{tN2:Nat}{tS2:Array (Option h9)}(kt2:WU K P3 "END_WORDS"=some (some (.ref aE)))(lt2:K.lookup aE=some ⟨tO2,tD2,.seq tI2 tN2,tS2⟩)(ctp2:tO2=.type "tuple")(zt2:tI2.size<=fv)(vt2:aZ ([V.str "without",V.str "home"]) tI2.toList){tO3:h9}{tD3:Option XB}{tI3:Array h9}{tN3:Nat}{tS3:Array (Option h9)}(kt3:WU K P3 "STUCK_WORDS"=some (some (.ref aW)))(lt3:K.lookup aW=some ⟨tO3,tD3,.seq tI3 tN3,tS3⟩)(ctp3:tO3=.type "tuple")(zt3:tI3.size<=fv)(vt3:aZ ([V.str "lost",V.str "even",V.str "won"]) tI3.toList):∃fd:Qf,(∀(s:PZ)(v:h9),Tl s fd ⟨[v],[]⟩ [("_law_script",v)])/\∀Px:Qe,K.In Px->Px.Ns P3 mg->bh l.prog w K mg Px dm 9 fa fd ["_law_script"] (wM K):=by have e:=hfa.symm.trans (WV X G a55);cases e;have T:Txt mg aS aA aE aW:=⟨WY X G z0,WY X G z1,WY X G z2,WY X G z3,WY X G z4,WY X G z5,WY X G z6,WY X G z7,WY X G z8,WY X G z9,WY X G z10,WY X G z11,WY X G z12,WY X G z13,WY X G z14,WY X G z15,WY X G z16,WY X G z17,WY X G z18,⟨_,WV X G kg0,rv0⟩,⟨_,WV X G kg1,rv1⟩,⟨_,WV X G kg2,rv2⟩,⟨_,WV X G kg3,rv3⟩,⟨_,WV X G kg4,rv4⟩,⟨_,WV X G kg5,rv5⟩,⟨_,WV X G kg6,rv6⟩,⟨_,WV X G kg7,rv7⟩,⟨_,WV X G kt0,rfl⟩,⟨_,WV X G kt1,rfl⟩,⟨_,WV X G kt2,rfl⟩,⟨_,WV X G kt3,rfl⟩⟩;have hT_SORTS:∀H,iH K H aS ["leap","slide","jump"]:=λH=>.inr (.inr ⟨_,tI0,tN0,lt0,ctp0,rfl,zt0,vt0⟩);have hT_AIMS:∀H,iH K H aA ["go","hit","any"]:=λH=>.inr (.inr ⟨_,tI1,tN1,lt1,ctp1,rfl,zt1,vt1⟩);have hT_END_WORDS:∀H,iH K H aE ["without","home"]:=λH=>.inr (.inr ⟨_,tI2,tN2,lt2,ctp2,rfl,zt2,vt2⟩);have hT_STUCK_WORDS:∀H,iH K H aW ["lost","even","won"]:=λH=>.inr (.inr ⟨_,tI3,tN3,lt3,ctp3,rfl,zt3,vt3⟩);have b30:=F30.2.binds (ps:=["game","place","text"]) λ_ _ _ _ _ _=>L2.ln3 (λ_ _ _=>rfl);have b32:=F32.binds (ps:=["self","wide","high","holes"]) λ_ _ _ _ _ _=>L2.OY (λ_ _ _ _=>rfl);have b33:=F33.binds (ps:=["self","square","across","up"]) λ_ _ _ _ _ _=>L2.OY (λ_ _ _ _=>rfl);have b34:=F34.binds (ps:=["self","board","kinds","rules","turns","ends","stuck"]) λ_ _ _ _ _ _=>L2.ln7 (λ_ _ _ _ _ _ _=>rfl);have b35:=F35.binds (ps:=["self","kind"]) λ_ _ _ _ _ _=>L2.ln2 (λ_ _=>rfl);have b53:=F53.2.binds (ps:=["_law_e"]) λ_ _ _ _ _ _=>L2.ln1 (λ_=>rfl);have F55:=vU (st:=iz) l55 c55 k55;have b55:=F55.binds (ps:=["_law_script"]) λ_ _ _ _ _ _=>L2.ln1 (λ_=>rfl);have cl_Board:uH K cBoard:=⟨pgXBoard,hdXBoard,poXBoard,saXBoard⟩;have cl_Game:uH K cGame:=⟨pgXGame,hdXGame,poXGame,saXGame⟩;refine⟨W2 "law" "law" (fY iz) (dj iz) (am iz) .none kV55 dc55 pm55 an55 cd55 ct55,λs v=>.of_eq rfl,λPx _ _=>?_⟩;have M:= @mD l.prog w Px K h mg X G;have C_is_whole:=M F1 (tK F1.2 T);have C_is_letter:=M F2 (qR F2.2 T);have C_is_among:=M F3 (tM F3.2 ⟨C_is_whole⟩);have C_is_word:=M F5 (vA F5.2 T);have C_is_tuple_of:=M F6 (m8 F6.2 T);have C_is_list_of:=M F7 (oa F7.2 T);have C_is_step:=M F8 (vB F8.2 ⟨C_is_among⟩);have R2:RG2 l.prog w K mg Px:=⟨C_is_word,C_is_tuple_of⟩;have R3:RG3 l.prog w K mg Px:={toRG2:=R2,is_step:=C_is_step};have C_is_rule:=M F9 (vC F9.2 T hT_SORTS hT_AIMS R3);have C_is_pair:=M F10 (vD F10.2 R2);have C_are_pairs:=M F11 (qU F11.2 T ⟨C_is_list_of,C_is_pair⟩);have C_is_ends:=M F13 (vE F13.2 T hT_END_WORDS ⟨C_are_pairs⟩);have C_is_turns:=M F12 (tL F12.2 T ⟨C_are_pairs⟩);have G1:Ps l.prog w K mg Px:=⟨C_is_list_of,C_is_letter,C_is_rule⟩;have C_are_kinds:=M F14 (qV F14.2 T G1);have C_are_rules:=M F15 (qT F15.2 T G1);have G2:GG2 l.prog w K mg Px:=⟨C_are_kinds,C_are_rules,C_is_turns,C_is_ends,C_is_word⟩;have GC:xW K cGame:=⟨cl_Game,naGameboard,naGamekinds,naGamerules,naGameturns,naGameends,naGamestuck⟩;have C_Game:pR l.prog w K mg Px "Game" cGame _ _ _:=⟨f34,_,⟨mkXGame,a34,iF34,kcXGame⟩,re F34 T hT_STUCK_WORDS GC G2,WV X G aCGame,b34⟩;have DA:CA l.prog w K mg Px:=⟨Kb C_is_among⟩;have C_are_holes:=M F31 (qW F31.2 T DA);have DB2:CB2 l.prog w K mg Px:={toCA:=DA,are_holes:=C_are_holes};have BC:kT K cBoard:=⟨cl_Board,naBoardwide,naBoardhigh,naBoardholes,naBoardfirm⟩;have C_Board:pR l.prog w K mg Px "Board" cBoard _ _ _:=⟨f32,_,⟨mkXBoard,a32,iF32,kcXBoard⟩,ou F32 T BC DB2,WV X G aCBoard,b32⟩;have C_column_of:=M F24 (qS F24.2);have C_row_of:=M F25 (yR F25.2);have C_square_at:=M F26 (qP F26.2);have C_Board_moved:Cd l.prog w K mg Px cBoard "moved" _ _ _:=⟨⟨f33,_,na F33 BC ⟨C_column_of,C_row_of,C_square_at⟩,⟨a33,iF33,F33.kp⟩,b33⟩,cl_Board⟩;have DB3:CB3 l.prog w K mg Px cBoard:={toCB2:=DB2,Board:=C_Board,Board_moved:=C_Board_moved};have C_ray:=M F19 (Jk F19.2 BC DB3);have C_kind_of:=M F16 (vz F16.2 T);have C_side_of:=M F17 (vx F17.2 T);have C_squares_of:=M F18 (n9 F18.2 T ⟨C_side_of⟩);have S1:CRs l.prog w K mg Px:=⟨C_side_of⟩;have C_slid:=M F20 (C5 F20.2 T S1);have C_jumped:=M F21 (yS F21.2 T S1);have S2:CRb l.prog w K mg Px cBoard:={toCRs:=S1,ray:=C_ray,jumped:=C_jumped,slid:=C_slid};have C_by_rule:=M F22 (vF F22.2 S2);have C_Game_rules_of:Cd l.prog w K mg Px cGame "rules_of" _ _ _:=⟨⟨f35,_,li F35 GC,⟨a35,iF35,F35.kp⟩,b35⟩,cl_Game⟩;have C_goals:=M F23 (AS F23.2 T GC ⟨C_kind_of,C_by_rule,C_Game_rules_of⟩);have C_moves:=M F28 (AR F28.2 ⟨C_squares_of,C_goals⟩);have C_number_text:=M F4 (lX F4.2 T);have C_square_text:=M F27 (m7 F27.2 T ⟨C_number_text,C_column_of,C_row_of⟩);have C_move_text:=M F29 (qQ F29.2 T BC GC ⟨C_square_text⟩);have X_move_of:DW l.prog w K mg Px "move_of" _ _ _:=⟨f30,_,vy F30.2 (WV X G aENoMove) xq ⟨C_moves,C_move_text⟩,WV X G F30.1,F30.2.kp,b30⟩;have C__law_cell_at:=M F36 (lZ F36.2 T);have C__law_mixed:=M F37 (oi F37.2);have C__law_whole:=M F38 (oe F38.2 T);have LG:LG1 l.prog w K mg Px:=⟨C__law_cell_at,C__law_mixed⟩;have C__law_board:=M F39 (on F39.2 T LG);have C__law_kinds:=M F40 (oj F40.2 T);have C__law_rule:=M F41 (ra F41.2 T);have C__law_turns:=M F42 (og F42.2 T);have LGG:LGg l.prog w K mg Px cBoard cGame:={toLG1:=LG,_law_board:=C__law_board,_law_kinds:=C__law_kinds,_law_rule:=C__law_rule,_law_turns:=C__law_turns,Board:=C_Board,Game:=C_Game};have C__law_game:=M F43 (rc F43.2 T LGG);have C__law_row:=M F44 (tN F44.2 T BC GC LG);have C__law_side:=M F45 (q9 F45.2 T);have C__law_step:=M F46 (qZ F46.2 BC GC);have C__law_by_rule:=M F47 (l5 F47.2 ⟨C__law_side,C__law_step⟩);have C__law_goals:=M F48 (om F48.2 T GC ⟨C__law_by_rule⟩);have C__law_moves:=M F49 (oh F49.2 T ⟨C__law_side,C__law_goals⟩);have XC:PySem.W.ExcC K cNoMove:=⟨xga,xgh,xha,xhn,xtk,xhm,xhb,v8 xhm⟩;have AL:AlC mg K cNoMove false false false false true false false false false:=⟨XC,⟨_,WV X G aEBadBoard,xkBadBoard⟩,⟨_,WV X G aEBadGame,xkBadGame⟩,⟨_,WV X G aEBadLine,xkBadLine⟩,⟨_,WV X G aEBadPlace,xkBadPlace⟩,⟨_,WV X G aENoMove,xkNoMove⟩,⟨_,WV X G aETooWide,xkTooWide⟩,⟨_,WV X G aENoWord,xkNoWord⟩,⟨_,WV X G aEOver,xkOver⟩,⟨_,WV X G aENothingBack,xkNothingBack⟩,xv,rfl⟩;have N__law_alone:Kj l.prog w K mg Px "_law_alone" _ _ _:=⟨f53,_,oo F53.2 T AL,WV X G F53.1,F53.2.kp,b53⟩;have C__law_square_text:=M F50 (jw F50.2 BC GC);have C__law_text:=M F51 (qY F51.2 BC GC ⟨C__law_square_text⟩);have C__law_changed:=M F52 (lY F52.2 T);have C__law_told:=M F54 (qX F54.2 T (WV X G aEPlayError) (WV X G aENoMove) xem xkNoMove XC ⟨X_move_of,N__law_alone⟩);have C:CL l.prog w K mg Px cBoard cGame:={toLG1:=LG,_law_game:=C__law_game,_law_row:=C__law_row,_law_moves:=C__law_moves,_law_text:=C__law_text,move_text:=C_move_text,_law_told:=C__law_told,_law_whole:=C__law_whole,_law_changed:=C__law_changed};exact Jl F55 T BC GC C
theorem walk{l:PySem.W.OpenLaw}{q:P6}{loose:List Str}{XP:(PN)->Qe->Prop}{YP:P9->Qe->Prop}{d:DefRec}{K:Sk->Frag}(hn:l.most=some 63)(hdf:d.params.defaults=[])(hY:∀(w:P9)(h:Qe),YP w h->(K w.params).In h)(F:∀(w:P9)(mg:PN)(fa:XB)(h:Qe),(K w.params).In h->h.Ns P3 mg->mg d.name=some (.ref fa)->
   ∃fd:Qf,(∀(s:PZ)(u:h9),Tl s fd ⟨[u],[]⟩ [("_law_script",u)])/\∀Px:Qe,(K w.params).In Px->Px.Ns P3 mg->bh l.prog w (K w.params) mg Px dm 9 fa fd ["_law_script"] (wM (K w.params))):PySem.W.WalkO q loose XP YP l.row.toRowW d [] (λf vs=>PySem.call f vs):=
 L2.Cn (n:=63) (k:=9) (x:="_law_script") (CX:=λ_=>dm) (sp:=λw=>wM (K w.params)) hn (by decide) hdf ⟨rfl,by decide,by decide⟩ hY F (λ_ _ a ns hl _ hS=>⟨a,ns,rfl,hS,hl,λ_=>rfl⟩) λ_ _ _ _ _ z=>z
end K15
namespace PySem.W
open Fast in
set_option maxRecDepth 100000 in
set_option maxHeartbeats 0 in
theorem wsaid:PySem.Challenge.rw_playboard_k15_moves_in_texts.wellSaid=true:=by
 unfold OpenLaw.wellSaid
 (repeat' (with_reducible first|refine look_both ?_ ?_|(unfold OpenRow.wellSaid)|(unfold OpenRow.partSaid)|(unfold OpenScript.wellSaid)|(unfold OpenRowC.wellSaid)|(unfold looksOpen)))<;>as_aux_lemma=>
  (repeat (first|rw[te10501279942588096481]|rw[te10792542408131684335]|rw[te11788848310118352699]|rw[te12749700546528644094]|rw[te12862048085361865435]|rw[te12879404354523853263]|rw[te13343964577679436407]|rw[te13582783067957832011]|rw[te14412699480532031325]|rw[te16286561074155671207]|rw[te17095254045102204799]|rw[te17119622794617984870]|rw[te17691160309236699985]|rw[te17868728402115742887]|rw[te18344453789297297638]|rw[te2357444279172408678]|rw[te2368527892694137696]|rw[te3471404346716756564]|rw[te4274047373036748609]|rw[te4579403493507170074]|rw[te482687673346738481]|rw[te4857012375875476094]|rw[te5318747976498570220]|rw[te5923862056798008813]|rw[te6984425678791042302]|rw[te7723801398212525404]|rw[te797321630700447069]|rw[te8179353310426384613]|rw[te8326940854005059898]|rw[te8377067652309620493]|rw[te9558739934217749035]|rw[te9572597257264208301]|rw[te9706382859710513879]|rw[te9807087744658564304]))
  kernel_rfl
end PySem.W
open PySem PySem.W PyProof.Rows
set_option maxRecDepth 100000 in
set_option maxHeartbeats 0 in
theorem PySem.Challenge.cw_playboard_k15_moves_in_texts_holds : PySem.Challenge.rw_playboard_k15_moves_in_texts.Holds := by
 w_on
 refine PySem.W.holds_law PySem.W.wsaid λsaid=>?_;refine PySem.W.holds_openX (q:=K15.hQ) (loose:=[]) (Xt:=K15.hX) (XP:=PySem.W.XL K15.hQ []) (Yf:=L2.xy K15.hA) (Ya:=L2.xx K15.hK) K15.hleft (λs e=>PySem.W.xl_of s (WC.mp e).1) PySem.W.XL.keeps (by rfl) (by rfl) (by rfl) (λs e=>PySem.W.recFacts_of (WC.mp e).2) (by rfl) (by first|assumption|decide+kernel) (by decide+kernel) ⟨rfl,rfl,rfl,rfl,rfl,by decide+kernel⟩ ?hw ?hc
 (case hw=>w_witness2)
 k_fill
 refine L2.zG (L2.Nr (λ_=>by kernel_rfl)) ?_;refine K15.walk (l:=PySem.Challenge.rw_playboard_k15_moves_in_texts) rfl rfl (λw h Y=>Y) ?F
 case F=>
  intro w mg fa h KX G hmg;apply K15.all_mk KX G hmg
  any_goals first|exact⟨by k_is,L2.vU (by k_is) (by k_is) (by k_is)⟩|exact L2.vU (by k_is) (by k_is) (by k_is)|k_is|exact⟨_,rfl⟩|kernel_rfl|decide|exact .cons ⟨_,rfl⟩ (.cons ⟨_,rfl⟩ .nil)|exact .cons ⟨_,rfl⟩ (.cons ⟨_,rfl⟩ (.cons ⟨_,rfl⟩ .nil))|skip
