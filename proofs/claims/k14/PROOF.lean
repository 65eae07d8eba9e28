import PyProof.Rows.All
import Wide.All
import OpenK.AllK
import Wide.FinOn
import Lean
import PyProof.EqAt
import PyProof.EqKinds
import PyProof.TupleCall
import KE.KIntText
import KE.IntTextLaws
import KE.IntText
import KE.KRevIter
import KE.KEqDict
import PyProof.ZipIter
import PyProof.Draws
import PyProof.EnumMake
import PyProof.SetScanFacts
import PyProof.ListStr
import PyProof.SetKind
import PyProof.CollectWalk
import PyProof.FactsAll.set
import PyProof.StrLoop
import PyProof.TupleKey
import KE.KSortTup
import PyProof.Rows.SortWalk
import PyProof.Rows.SortStr
import PyProof.NeKinds
import PyProof.AttrMissHeap
import KE.KDictOf
import OpenK.ZGo
import PySem.Challenge.RW_playboard_k14_moves_done
set_option Elab.async false
set_option linter.all false
set_option maxRecDepth 100000
set_option maxHeartbeats 4000000
set_option compiler.extract_closed false
open List renaming length_map → Rz, mem_map → RA, mem_cons → RB, getElem?_eq_getElem → RC, size_toArray → RD, getElem?_map → RE, mem_cons_of_mem → RF, getD_eq_getElem?_getD → RH, length_append → RI, mem_range → RJ, mem_cons_self → RK, mem_singleton → RL, mem_append → RM, map_map → RN, getElem?_eq_some_iff → RO, append_nil → RP, map_append → RQ, length_cons → RR, mem_append_right → RS, mem_of_getElem? → RT, getElem_mem → RU, length_take → RV, not_mem_nil → RW, pairwise_map → RX, map_cons → RY, all_cons → RZ, mem_filter → R0, all_eq_true → R1, nodup_iff_pairwise_ne → R4, getElem?_eq_none → R5, any_eq_true → R6, filter_eq_self → R7, mem_filterMap → R8, map_congr_left → R9, length_range → Sa, getElem?_range → Sb, mem_append_left → Sc, any_eq_false → Sd, lookup_cons → Se, length_filter_le → Sf, getElem_of_mem → Sh, nodup_cons → Si, length_drop → Sj, length_set → Sk, append_assoc → Sl, filterMap_cons → Sm, any_cons → Sn, ext_getElem? → So, range_succ → Sq, filter_cons → Sr, mem_of_mem_take → Ss, filter_map → Su, nodup_append → Sv, pairwise_cons → Sw, nodup_nil → Sx, of_mem_zip → Sy, getElem?_append_left → Sz, find?_cons → SA, drop_eq_getElem_cons → SB, drop_zero → SC, any_map → SD, take_length → SE, length_pos_of_mem → SF, nodup_range → SH, pairwise_iff_getElem → SI, map_take → SJ, getElem?_of_mem → SK, getElem_inj → SL, getElem?_set_self → SM, getElem?_set_ne → SN, take_sublist → SO, map_nil → SQ, length_singleton → SR, length_eq_zero_iff → SS, getElem?_toArray → SU, filter_append → SV, mem_of_mem_drop → SW, length_erase_of_mem → SX, mem_erase_of_ne → SY, getElem_append_left → SZ, getElem_append_right → S0, filter_congr → S3, all_map → S4, take_succ_eq_append_getElem → S5, getElem?_append_right → S6, getElem?_replicate → S7, getElem?_take_of_lt → S8, take_of_length_le → S9, mem_iff_getElem → Ta, pairwise_append → Tb, mem_drop_iff_getElem → Tc, length_eraseIdx_of_lt → Td, perm_cons_erase → Te, pairwise_singleton → Tf, set_cons_zero → Tg, drop_eq_nil_iff → Th, length_pos_iff → Ti
open Nat renaming le_refl → Tj, ne_of_lt → Tk, zero_le → Tl, le_trans → Tn, lt_of_lt_of_le → To, le_succ → Tp, lt_irrefl → Tq, ne_of_gt → Tr, lt_trans → Ts, zero_add → Tt, le_of_eq → Tu, lt_succ_of_lt → Tw, le_of_lt → Tx, lt_succ_self → Tz, succ_ne_self → TB, lt_trichotomy → TC, mod_lt → TD, succ_pos → TF, le_add_right → TH, sub_zero → TJ, eq_zero_or_pos → TL, le_of_ble_eq_true → TM
open Int renaming emod_nonneg → TN, emod_lt_of_pos → TQ, toNat_natCast → TR, zero_add → TU, mul_le_mul → TV, mul_comm → TW, mul_le_mul_of_nonneg_left → TX, one_mul → TY, emod_eq_of_lt → TZ, toNat_of_nonneg → T0, mul_nonneg → T2, mul_le_mul_of_nonneg_right → T3, emod_eq_emod_iff_emod_sub_eq_zero → T4
open Bool renaming false_ne_true → T5, and_eq_true → T6, eq_iff_iff → T7, false_eq_true → T8, not_eq_true' → T9, true_and → Ua, or_false → Ub, or_eq_true → Uc, not_true → Ud, and_false → Ue, and_true → Uf, and_eq_true_iff → Ug, or_eq_false_iff → Uh, eq_false_iff → Ui, not_eq_false' → Uj
open Array renaming getElem?_eq_getElem → Uk, getElem?_toList → Ul, length_toList → Um, getElem?_eq_none → Uo, size_map → Uq, toList_inj → Ur, toList_push → Us, getElem_toList → Ut, forIn_toList → Uu
open Option renaming map_eq_some_iff → Uv, isSome_iff_exists → Uw, getD_none → Ux
open PySem.W renaming nsIn → Uy, findIn → Uz, mg_of → UA, kitOne → UB, mg_none_of → UC, kia_one → UD, topRun → UE, keepIn → UF, isFn → UG, emptyDict → UH, fnOf → UI, instObj → UJ, hideAll_get → UK, plainGet → UL, hasDictIn → UM, mroIn → UN, callWith_K → UO, excIn → UP, exmOne → UQ, doneF → UR, lookIn → US, plainOver → UT, makesIn → UU, codeIn → UV, boot_o_2 → UW, boot_heap → UX, methodObj → UY, plainGet_of → UZ, takerIn → U0, cellsFrom_some → U1, boot_o_0 → U2, boot_o_1 → U3, boot_o_7 → U4, boot_o_5 → U5, boot_o_9 → U6, boot_o_4 → U7, boot_o_8 → U8, boot_o_6 → U9, boot_o_10 → Va, segRunT → Vb, deadEnd → Vc, piece_app → Vd, segRun_of → Ve, hideAll → Vf, of_hideAll → Vg, handedIn → Vh, specialIn → Vi, takesIn → Vj, kitx_list → Vk, kitx_dict → Vl, codeRec_of → Vm, topStub → Vn, segRun → Vo, blockOf → Vp, restOf → Vq
open PySem.W (Frag)
open PySem renaming wpAny_bind->NK,wpAny_pure->NL,mainGlobals->NM,Shared->NN,Program->NP,sizeLine_eq->NR,wpAny->NS,World->NT,starEach->NU,FuncData->NV,model->NX,Heap->NZ,Around->N1,bootBuiltins->N2,treeTable->N3,wpAny_holding->N4,Expr->N5,Stmt->N6,IsTupleKey->N7,wpAny_newObj_type->N9,codeAny_builtin->Oc,wpAny_call_entry->Oe,wpAny_truthy_bool->Of,backTo->Oh,wpAny_callSpecial?_slot->Oi,compareOp->Ol,eval->Om,wpAny_mono->Oq,attributeBase->Ot,codeAny_mono->Ou,wpAny_Call_Name_kw->Ox,importedModules->OD,wpAny_Call_method_late->OF,cLine->OH,Builtin->OL,wpAny_passesOwn->ON,wpAny_pyIter_list->OO,OsState->OS,wpAny_seqItems->OT,sliceBounds->OW,wpAny_typeOf->OX,wpAny_execs_nil->OY,binaryOp->OZ,Scope->O0,wpAny_attempt->O3,plainId_quiet->O4,builtinLookup_eq_fast->O6,codeAny->O7,CmpOp->O8,wpAny_setField->O9,setEntries->Pa,pyNext->Pb,keywordEach->Pc,codeAny_call_builtin->Pd,Keyword->Ph,wpAny_call->Pm,assignEach->Pn,wpAny_field->Po,pickOrder->Pp,wpAny_pyIter_enum->Pq,foldedSetIterable->Pr,Params->Pw,Pos->Px,wpAny_isInstance->Py,typeLookup_type->PH,letOwnedTupleGo->PJ,wpAny_newFunctionEnv_cells->PP,wpAny_letOwnedTupleGo_enum->PQ,wpAny_fieldsOf->PU,typeIs_str->PV,sysModules->PX,recursionLimit->PY,firstArgMember->PZ,backToKw->P1,GenState->P4,wpAny_of_eq->Qa,ofAClassStatement->Qb,holding->Qc,wpAny_comprehension_free->Qf,IsPart->Qj,wpAny_pyNext_enum_itemD->Ql,wpAny_forIn_list->Qm,wpAny_execs_cons->Qn,wpAny_askSetting->Qo,swapsWith->Qq,noFill_tuple_add->Qr,checkBuiltinCall->Qs,wpAny_pyNext_list_item->Qu,setNext->Qw,call_meets->Qx,wpAny_updateSeq->Qz,wpAny_specialOf->QA,wpAny_ite_split->QB,codeAny_of_tree->QC,wpAny_pyNext_list_end->QE,wpAny_isTrue_Compare1->QF,wpAny_eqIsQuiet_tuple->QG,weight_type_call_type->QH,codeAny_call_function->QI,Env->QK,wpAny_runValue->QL,wpAny_listPart->QM,strIterType->QN,rawInt->QO,isSubtype_type->QP,isSubtype_stop->QQ,callerA->QR,BindsTo->QT,wpAny_standAt->QU,wpAny_newList->QV,setSearchFrom->QW,seq_tuple_add->QX,typeLookup->Q3,sliceRange->Q4,assign->Q6,Result->Ra,valueAt->Rb,seqIndex_neg->Re,relabel->Rf,concat_meets->Ri,Operator->Rl,typeOf->Rp,lastMarks->Rr,cellsFrom->Rt,getItem->Ru,stored->Rv,bindL->Rw,bindC->Rx,Model->Ry
open PySem.Heap renaming get?_push_of_some->NO,lt_size->NQ,get?_push_size->NW,size_push->Op,SameBut->Oz,get?_update_other->OG,get?_update_self->OK,get?_none_of_le->PF
open PySem.Value renaming ref->NY,none->OE,int->Pf,str->Pz,type->P2,isInt->Qd,isStrOf->QY,builtin->QZ,bool->Q8
open PySem.SetTable renaming below->N0,insertAt->Oa,runEnd->Od,bits->Oj,sizeAbove->Oy,turns->OJ,Probe->Pe,insertAt_perm->Ps,advance->PB,grown->P3,toList_insertAt->Qg,slot->Qh,fits->Q0,has->Rk
open PySem.PassesOwn renaming never->N8
open PySem.Around renaming under_plainId->Ob,under->Ro
open PySem.Builtin.Str renaming strSliceIndices->Og,occurrences->OC,tooLong->Pj
open PySem.Obj renaming mapSeq->On,putSet->Qy
open PySem.Heap.SameBut renaming update->Oo
open PyProof.Rows.F renaming plain_set_update_loop->Os,entry_set_update_loop->OV
open PySem.SetTable.layClean renaming free->Ov
open PySem.Calls renaming callWith_builtin->Ow,evalArgs_plain->OA,Name_function_global->P6,call_function_entry->P8
open PySem.SetTable.probe renaming go->OB
open PySem.Builtin.Slice renaming slicePlaces->OM,sliceAdjust->Pi,sliceApplied->P7
open PySem.NameKind renaming free->OP,cell->Qi
open PySem.Builtin.Tuple renaming tupleExact->OQ
open PySem.Builtin.List renaming listSameRef->OR,listTooLong->Pk,listSubscript?->PL,listLengthHint->PM,listExtendWith->PN,listAllItems->P9
open PyProof.Rows renaming envOfC->OU,AllBare->PD,subscriptTail_builtinR->Qv,IntsAre->QS
open PySem.Str renaming empty->O5,ofString->Pg
open PySem.W.KasT renaming kasWp_bind->Pl
open PySem.SetTable.below renaming go->Pu
open PySem.Shared renaming TypeIs->PC
open PySem.Builtin.Frozenset renaming updateFrom->PK,sizeOf->Qk
open PySem.Code renaming quiet_builtin->P5,isFrame->Rn
open PySem.EqBoolInt renaming of_rcne->Qe
open PySem.W renaming topFrame->Qp,namesBound->Q5,topFrom->Rc,looks_findIn->Rh,staticsOk->Rq,kas_place->Rs
open PySem.Builtin.Dict renaming updateFrom->Qt
open PySem.Unicode renaming lowerAt->QD
open PySem.F renaming slot_enumerate_next->QJ
open PySem.Walks renaming list->Q7
open PySem.SeqAt renaming EqAt->Q9
open PySem.pickOrder renaming go->Rg
open PySem.Txt renaming join->Rj
abbrev NA:=@decide_eq_true
abbrev NB:=@decide_eq_false
abbrev NC:=@if_neg
abbrev ND:=@if_pos
abbrev NE:=@of_decide_eq_true
abbrev NF:=@of_decide_eq_false
abbrev NG:=@absurd
abbrev NH:=PySem.Str->Option PySem.Value
abbrev NI:=PySem.Value->PySem.Shared->Prop
abbrev NJ:=List (PySem.Addr×PySem.Obj)
noncomputable section
namespace L2
open PySem PySem.Spec PyProof.Rows
abbrev Key:=Sum Int Str
def oB:Key->Value->Bool
 | .inl k,v=>Qd k v
 | .inr x,v=>QY x v
def Na(w:NT):Key->Int
 | .inl k=>hashInt k
 | .inr x=>hashStr w x
theorem cg:∀{k:Key}{v:Value},oB k v=true->(∃i t,k=Sum.inl i/\v=Pf i t)\/(∃x t,k=Sum.inr x/\v=Pz x t)
 | .inl i,v,h=>by obtain⟨t,e⟩:=Value.isInt_shape (k:=i) (v:=v) h;exact .inl ⟨i,t,rfl,e⟩
 | .inr x,v,h=>by obtain⟨t,e⟩:=Value.isStrOf_shape (x:=x) (v:=v) h;exact .inr ⟨x,t,rfl,e⟩
theorem xz(i:Int)(t:Tok):oB (.inl i) (.int i t)=true:=by simp[oB,Qd]
theorem xy(x:Str)(t:Tok):oB (.inr x) (.str x t)=true:=by simp[oB,QY]
theorem JC(a b:Int):decide ((Sum.inl a:Key)=Sum.inl b)=(a == b):=by
 by_cases e:a=b
 .subst e;simp
 .have h:¬(Sum.inl a:Key)=Sum.inl b:=λq=>e (Sum.inl.inj q);rw[NB h];exact(beq_eq_false_iff_ne.mpr e).symm
theorem Jz(a b:Str):decide ((Sum.inr a:Key)=Sum.inr b)=decide (a=b):=by
 by_cases e:a=b
 .subst e;simp
 .have h:¬(Sum.inr a:Key)=Sum.inr b:=λq=>e (Sum.inr.inj q);rw[NB h,NB e]
theorem JB(a:Int)(b:Str):decide ((Sum.inl a:Key)=Sum.inr b)=false:=NB (λq=>nomatch q)
theorem JA(a:Str)(b:Int):decide ((Sum.inr a:Key)=Sum.inl b)=false:=NB (λq=>nomatch q)
def eB(prog:NP)(w:NT):PySem.KeyKind prog w Key where
 is:=oB
 hash:=Na w
 inj:=λv a b ha hb=>by
  rcases cg ha with⟨i,t,rfl,rfl⟩|⟨x,t,rfl,rfl⟩
  .rcases cg hb with⟨j,u,rfl,e⟩|⟨y,u,rfl,e⟩
   .injection e with e1 _;rw[e1]
   .exact nomatch e
  .rcases cg hb with⟨j,u,rfl,e⟩|⟨y,u,rfl,e⟩
   .exact nomatch e
   .injection e with e1 _;rw[e1]
 byValue:=λk v h=>by
   rcases cg h with⟨i,t,rfl,rfl⟩|⟨x,t,rfl,rfl⟩<;>rfl
 pyHash:=λhv h=>by
  rcases cg hv with⟨i,t,rfl,rfl⟩|⟨x,t,rfl,rfl⟩
  .exact wpAny_pyHash_int h
  .exact wpAny_pyHash_str h
 eqBool:=λhu hv h=>by
  rcases cg hu with⟨i,t,rfl,rfl⟩|⟨x,t,rfl,rfl⟩
  .rcases cg hv with⟨j,u,rfl,rfl⟩|⟨y,u,rfl,rfl⟩
   .rw[JC]at h;exact wpAny_eqBool_int h
   .rw[JB]at h;exact SeqAt.EqAt.int_str i t y u _ _ _ _ h
  .rcases cg hv with⟨j,u,rfl,rfl⟩|⟨y,u,rfl,rfl⟩
   .rw[JA]at h;exact SeqAt.EqAt.str_int x t j u _ _ _ _ h
   .rw[Jz]at h;exact wpAny_eqBool_str h
 «strs» :=λk x t v h=>by
  rcases cg h with⟨i,u,rfl,e⟩|⟨y,u,rfl,e⟩
  .exact nomatch e
  .injection e with e1 _;subst e1;cases v<;>rfl
theorem rV(prog:NP)(w:NT)(i:Int)(t:Tok):(eB prog w).is (.inl i) (.int i t)=true:=xz i t
theorem rT(prog:NP)(w:NT)(x:Str)(t:Tok):(eB prog w).is (.inr x) (.str x t)=true:=xy x t
inductive V where
 |non|bl (b:Bool)|int (i:Int)|str (x:Str)|byt (b:Array UInt8)|flt (b:UInt64)|ref (a:Addr)|ty (n:String)
 deriving DecidableEq
def aV:V->Value->Prop
 | .non,u=>u=OE
 | .bl b,u=>u=Q8 b
 | .int i,u=>∃t,u=Pf i t
 | .str x,u=>∃t,u=Pz x t
 | .byt b,u=>∃t,u=Value.bytes b t
 | .flt b,u=>∃t,u=Value.float b t
 | .ref a,u=>u=NY a
 | .ty n,u=>u=P2 n
abbrev aZ:List V->List Value->Prop:=Paired aV
theorem aZ.length{xs:List V}{us:List Value}(r:aZ xs us):xs.length=us.length:=Paired.length r
theorem aZ.get:∀{xs:List V}{us:List Value}{i:Nat}{x:V},aZ xs us->xs[i]? =some x->∃u,us[i]? =some u/\aV x u
 |_,_,_,_,.nil,e=>by simp at e
 |_,_,0,_,.cons r _,e=>by simp at e;subst e;exact⟨_,rfl,r⟩
 |_,_,i+1,x,.cons _ t,e=>by obtain⟨u,h1,h2⟩:=aZ.get (i:=i) (x:=x) t (by simpa using e);exact⟨u,by simpa using h1,h2⟩
theorem aZ.set{x:V}{u:Value}(r:aV x u):∀{xs:List V}{us:List Value}(i:Nat),aZ xs us->aZ (xs.set i x) (us.set i u)
 |_,_,_,.nil=>.nil
 |_,_,0,.cons _ t=>.cons r t
 |_,_,i+1,.cons q t=>.cons q (aZ.set r i t)
theorem aZ.append:∀{xs ys:List V}{us ws:List Value},aZ xs us->aZ ys ws->aZ (xs++ys) (us++ws)
 |_,_,_,_,.nil,s=>s
 |_,_,_,_,.cons r t,s=>.cons r (aZ.append t s)
theorem aZ.take:∀{xs:List V}{us:List Value}(n:Nat),aZ xs us->aZ (xs.take n) (us.take n)
 |_,_,0,_=>.nil
 |_,_,_+1,.nil=>.nil
 |_,_,n+1,.cons r t=>.cons r (aZ.take n t)
theorem aZ.drop:∀{xs:List V}{us:List Value}(n:Nat),aZ xs us->aZ (xs.drop n) (us.drop n)
 |_,_,0,r=>r
 |_,_,_+1,.nil=>.nil
 |_,_,n+1,.cons _ t=>aZ.drop n t
def lb:Option V->Option Value->Prop
 |some v,some u=>aV v u
 |none,none=>True
 |_,_=>False
def KV{κ:Type}:List (κ×V)->List (κ×Value)->Prop:=Paired λ(p:κ×V)(q:κ×Value)=>p.1=q.1/\aV p.2 q.2
def kV:Key->V
 | .inl i=>.int i
 | .inr x=>.str x
inductive HO where
 |lst (xs:List V)
 |tup (xs:List V)
 |dK (kvs:List (Key×V))|dT (kvs:List (List Key×V))
 |set (S:Int->Bool) (n:Nat)
 |ins (C dx:Addr) (fs:List (Str×V))
 |own (x:Addr)
 |xd (fs:List (Str×V))
 |met (f x:Addr)
 |rng (lo hi:Int)
 |frz (o:Obj) (u:HO)
 |tbl (ps:Array Value)
 |ext (φ:NZ->Prop)
abbrev Hp:=Addr->Option HO
def upd(H:Hp)(a:Addr)(o:HO):Hp:=λb=>if b=a then some o else H b
theorem ah{H:Hp}{a:Addr}{o:HO}:upd H a o a=some o:=by unfold upd;rw[ND rfl]
theorem av{H:Hp}{a b:Addr}{o:HO}(h:b≠a):upd H a o b=H b:=by unfold upd;rw[NC h]
theorem aC{H:Hp}{a b:Addr}{o:HO}(h:H a=some o)(h':H b=none):a≠b:=by intro e;subst e;rw[h]at h';cases h'
section
variable(P:NP)(w:NT)
def bH(H:Hp)(h:NZ)(a:Addr):HO->Prop
 | .lst xs=>xs.length<=sizeLine/\∃(its:List Value)(n:Nat),aZ xs its/\h.get? a=some {cls:=.type "list",data:=.seq its.toArray n}
 | .tup xs=>xs.length<=sizeLine/\∃its:List Value,aZ xs its/\IsTup h a its.toArray
 | .dK kvs=>kvs.length<=sizeLine/\(a == PX)=false/\∃vs,KV kvs vs/\h.DictOf (eB P w) a vs
 | .dT kvs=>kvs.length<=sizeLine/\(a == PX)=false/\∃xs:List (List Key×Addr×Value),
   Paired (λ(p:List Key×V)(q:List Key×Addr×Value)=>p.1=q.1/\H q.2.1=some (.tup (p.1.map kV))/\aV p.2 q.2.2) kvs xs/\
   ∃o es ep,h.get? a=some o/\o.ExactDict/\o.data=.dict es ep/\es.toList=xs.map (entryOfKey (tupleKind (eB P w)))/\(xs.map (·.1)).Nodup
 | .set S n=>h.SetOf (intKind P w) a S n
 | .ins C dx fs=>H dx=some (.own a)/\fs.length<=1000/\dx≠a/\h.get? a=some (UJ C dx)/\
   ∃mA,h.Ns1 dx mA/\(∀f,lb (fs.lookup f) (mA f))/\PySem.Within mA (fs.map (·.1))
 | .own _=>∃o,h.get? a=some o
 | .xd fs=>∃mA,h.Ns1 a mA/\∀f,lb (fs.lookup f) (mA f)
 | .rng lo hi=>∃t u v,h.get? a=some {cls:=.type "range",data:=.fields #[.int lo t,.int hi u,.int 1 v]}
 | .frz o u=>h.get? a=some o/\bH H h a u
 | .tbl ps=>h.get? a=some {cls:=.none,data:=.fields ps}
 | .met f x=>h.get? a=some (UY (.ref f) (.ref x))
 | .ext φ=>φ h/\(∃o,h.get? a=some o)/\∀h1 h2:NZ,φ h1->(∀o,h1.get? a=some o->h2.get? a=some o)->φ h2
def jC(H:Hp)(h:NZ):Prop:= ∀a o,H a=some o->bH P w H h a o
end
section
variable{P:NP}{w:NT}{H H':Hp}{h h':NZ}{a:Addr}{o:HO}
theorem bH.lt(x:bH P w H h a o):a<h.objs.size:=by
 cases o with
 |lst xs=>obtain⟨_,_,_,_,e⟩:=x;exact NQ e
 |tup xs=>obtain⟨_,_,_,p⟩:=x;exact p.lt
 |dK kvs=>obtain⟨_,_,_,_,o,_,_,e,_⟩:=x;exact NQ e
 |dT kvs=>obtain⟨_,_,_,_,o,_,_,e,_⟩:=x;exact NQ e
 |set S n=>obtain⟨o,_,_,_,e,_⟩:=x;exact NQ e
 |ins C dx fs=>obtain⟨_,_,_,e,_⟩:=x;exact NQ e
 |own y=>obtain⟨_,e⟩:=x;exact NQ e
 |xd fs=>obtain⟨_,⟨_,_,_,e,_⟩,_⟩:=x;exact NQ e
 |rng lo hi=>obtain⟨_,_,_,e⟩:=x;exact NQ e
 |frz ob u=>obtain⟨e,_⟩:=x;exact NQ e
 |tbl ps=>exact NQ (show h.get? a=some _ from x)
 |met f y=>exact NQ (show h.get? a=some _ from x)
 |ext φ=>obtain⟨_,⟨_,e⟩,_⟩:=x;exact NQ e
theorem Paired.mapP{α β:Type}{F G:α->β->Prop}:∀{l₁:List α}{l₂:List β},Paired F l₁ l₂->(∀a b,F a b->G a b)->Paired G l₁ l₂
 |_,_,.nil,_=>.nil
 |_,_,.cons r t,f=>.cons (f _ _ r) (Paired.mapP t f)
theorem bH.stay(x:bH P w H h a o)(k:∀b u,(b=a\/H b=some (.own a))->h.get? b=some u->h'.get? b=some u)
  (ho:∀b,H b=some (.own a)->H' b=some (.own a)) (ht:∀b xs,H b=some (.tup xs)->H' b=some (.tup xs)):bH P w H' h' a o:=by
 induction o with
 |lst xs=>obtain⟨z,its,n,r,e⟩:=x;exact⟨z,its,n,r,k _ _ (.inl rfl) e⟩
 |tup xs=>obtain⟨z,its,r,ob,e,c⟩:=x;exact⟨z,its,r,ob,k _ _ (.inl rfl) e,c⟩
 |dK kvs=>obtain⟨z,y,vs,r,ob,es,ep,e,c⟩:=x;exact⟨z,y,vs,r,ob,es,ep,k _ _ (.inl rfl) e,c⟩
 |dT kvs=>
  obtain⟨z,y,xs,r,ob,es,ep,e,c⟩:=x;exact⟨z,y,xs,Paired.mapP r λp q z=>⟨z.1,ht _ _ z.2.1,z.2.2⟩,ob,es,ep,k _ _ (.inl rfl) e,c⟩
 |set S n=>obtain⟨ob,es,ep,t,e,c⟩:=x;exact⟨ob,es,ep,t,k _ _ (.inl rfl) e,c⟩
 |ins C dx fs=>
  obtain⟨d,z,ne,e,mA,⟨od,es,ep,e2,c⟩,r⟩:=x;exact⟨ho _ d,z,ne,k _ _ (.inl rfl) e,mA,⟨od,es,ep,k _ _ (.inr d) e2,c⟩,r⟩
 |own y=>obtain⟨ob,e⟩:=x;exact⟨ob,k _ _ (.inl rfl) e⟩
 |xd fs=>obtain⟨mA,⟨od,es,ep,e,c⟩,r⟩:=x;exact⟨mA,⟨od,es,ep,k _ _ (.inl rfl) e,c⟩,r⟩
 |rng lo hi=>obtain⟨t,u,v,e⟩:=x;exact⟨t,u,v,k _ _ (.inl rfl) e⟩
 |frz ob u ih=>obtain⟨e,q⟩:=x;exact⟨k _ _ (.inl rfl) e,ih q⟩
 |tbl ps=>
  have e:h.get? a=some {cls:=.none,data:=.fields ps}:=x;show h'.get? a=some {cls:=.none,data:=.fields ps};exact k a _ (.inl rfl) e
 |met f y=>
  have e:h.get? a=some (UY (.ref f) (.ref y)):=x;show h'.get? a=some (UY (.ref f) (.ref y));exact k a _ (.inl rfl) e
 |ext φ=>obtain⟨p,⟨o,e⟩,st⟩:=x;exact⟨st _ _ p λo q=>k _ _ (.inl rfl) q,⟨o,k _ _ (.inl rfl) e⟩,st⟩
theorem jC.lt(x:jC P w H h)(e:H a=some o):a<h.objs.size:=(x a o e).lt
theorem jC.fresh(x:jC P w H h)(e:h.objs.size<=a):H a=none:=by
 cases q:H a with
 |none=>rfl
 |some u=>exact NG (To (x.lt q) e) (Tq _)
theorem jC.kept(x:jC P w H h)(k:∀b u,h.get? b=some u->h'.get? b=some u):jC P w H h':=λa o e=>
 (x a o e).stay (λb u _ q=>k b u q) (λ_ q=>q) λ_ _ q=>q
theorem jC.laid(x:jC P w H h)(k:∀b u,h.get? b=some u->h'.get? b=some u)(hp:h.objs.size<=a)(new:bH P w (upd H a o) h' a o):jC P w (upd H a o) h':=λb u e=>by
 have hn:=x.fresh hp
 by_cases hb:b=a
 .subst hb;rw[ah]at e;cases e;exact new
 .rw[av hb]at e;exact(x b u e).stay (λc v _ q=>k c v q) (λc q=>by rw[av (aC q hn)];exact q) λc xs q=>by rw[av (aC q hn)];exact q
end
def Rd(H:Hp)(a:Addr)(u:HO):Prop:=H a=some u\/∃o,H a=some (.frz o u)
theorem Rd.ok{P:NP}{w:NT}{H:Hp}{h:NZ}{a:Addr}{u:HO}(r:Rd H a u)(x:jC P w H h):bH P w H h a u:=by
 rcases r with r|⟨o,r⟩
 .exact x a u r
 .obtain⟨_,q⟩:=x a _ r;exact q
def MV:Option HO->Prop
 |some (.lst _)=>True
 |some (.dK _)=>True
 |some (.dT _)=>True
 |some (.set _ _)=>True
 |some (.ins _ _ _)=>True
 |some (.ext _)=>True
 |_=>False
section
variable{P:NP}{w:NT}{H:Hp}{h h':NZ}{x e:Addr}{o':HO}
theorem jC.write(ok:jC P w H h)(mu:MV (H x))(he:e=x\/H e=some (.own x))(k:∀b u,b≠e->h.get? b=some u->h'.get? b=some u)(heo:∃u,h'.get? e=some u)
  (new:bH P w (upd H x o') h' x o'):jC P w (upd H x o') h':=λb u q=>by
 have nown:∀c y,H c=some (.own y)->c≠x:=λc y r z=>by subst z;rw[r]at mu;exact mu
 have ntup:∀c xs,H c=some (.tup xs)->c≠x:=λc xs r z=>by subst z;rw[r]at mu;exact mu
 by_cases hb:b=x
 .subst hb;rw[ah]at q;cases q;exact new
 .rw[av hb]at q
  by_cases hbe:b=e
  .have q':H b=some (.own x):=by
    rcases he with z|z
    .exact NG (hbe.trans z) hb
    .rw[hbe];exact z
   rw[q]at q';cases q';obtain⟨v,hv⟩:=heo;exact⟨v,by rw[hbe];exact hv⟩
  .refine(ok b u q).stay (λc v hc r=>k c v ?_ r) (λc r=>by rw[av (nown c b r)];exact r) λc xs r=>by rw[av (ntup c xs r)];exact r
   rcases hc with rfl|hc
   .exact hbe
   .rintro rfl
    rcases he with z|z
    .exact nown c b hc z
    .rw[hc]at z;cases z;exact hb rfl
end
structure Un(fs ex:List Addr)(H H':Hp)(h h':NZ):Prop where
 keep:∀b o,h.get? b=some o->H b=none->b∉fs->b∉ex->h'.get? b=some o
 slot:∀b o,h.get? b=some o->H b=none->b∈fs->b∉ex->∃sl,h'.get? b=some {o with slots:=sl}
 free:∀b o,h.get? b=some o->H b=none->b∉ex->H' b=none
 there:∀b o,h.get? b=some o->b∉ex->∃o',h'.get? b=some o'
 tups:∀b xs,H b=some (.tup xs)->H' b=some (.tup xs)
 frzs:∀b o u,H b=some (.frz o u)->H' b=some (.frz o u)
 tbls:∀b ps,H b=some (.tbl ps)->∃more,H' b=some (.tbl (ps++more))
section
variable{fs fs' ex ex':List Addr}{H H1 H2:Hp}{h h1 h2 h':NZ}{a x e:Addr}{o:HO}
theorem Un.any(u:Un fs ex H H1 h h1){b:Addr}{ob:Obj}(q:h.get? b=some ob)(n:H b=none)(hx:b∉ex):∃sl,h1.get? b=some {ob with slots:=sl}:=by
 by_cases hb:b∈fs
 .exact u.slot b ob q n hb hx
 .exact⟨ob.slots,u.keep b ob q n hb hx⟩
theorem Un.kept(k:∀b u,h.get? b=some u->h'.get? b=some u):Un fs ex H H h h':=
 ⟨λb ob q _ _ _=>k b ob q,λb ob q _ _ _=>⟨ob.slots,k b ob q⟩,λ_ _ _ n _=>n,λb ob q _=>⟨ob,k b ob q⟩,λ_ _ q=>q,λ_ _ _ q=>q,λ_ ps q=>⟨#[],by rw[q];simp⟩⟩
theorem Un.refl:Un fs ex H H h h:=Un.kept λ_ _ q=>q
theorem Un.laid(k:∀b u,h.get? b=some u->h'.get? b=some u)(hp:h.objs.size<=a)(hn:H a=none):Un fs ex H (upd H a o) h h' where
 keep:=λb u q _ _ _=>k b u q
 slot:=λb u q _ _ _=>⟨u.slots,k b u q⟩
 free:=λb u q n _=>by rw[av (Tk (To (NQ q) hp))];exact n
 there:=λb u q _=>⟨u,k b u q⟩
 tups:=λb xs q=>by rw[av (aC q hn)];exact q
 frzs:=λb u xs q=>by rw[av (aC q hn)];exact q
 tbls:=λb ps q=>⟨#[],by rw[av (aC q hn),q];simp⟩
theorem Un.write(mu:MV (H x))(he:e=x\/H e=some (.own x))(k:∀b u,b≠e->h.get? b=some u->h'.get? b=some u)(heo:∃u,h'.get? e=some u):Un fs ex H (upd H x o) h h':=by
 have hx:∀b,H b=none->b≠x:=λb n z=>by subst z;rw[n]at mu;exact mu
 have hb:∀b,H b=none->b≠e:=λb n z=>by
  subst z
  rcases he with r|r
  .exact hx b n r
  .rw[n]at r;cases r
 have hm:∀b u,H b=some u->¬MV (some u)->b≠x:=λb u q nm z=>by subst z;rw[q]at mu;exact nm mu
 refine⟨λb u q n _ _=>k b u (hb b n) q,λb u q n _ _=>⟨u.slots,k b u (hb b n) q⟩,λb u q n _=>by rw[av (hx b n)];exact n,λb u q _=>?_,
  λb xs q=>by rw[av (hm b _ q λz=>z)];exact q,λb u xs q=>by rw[av (hm b _ q λz=>z)];exact q,λb ps q=>⟨#[],by rw[av (hm b _ q λz=>z),q];simp⟩⟩
 by_cases hbe:b=e
 .subst hbe;exact heo
 .exact⟨u,k b u hbe q⟩
end
def MM(h:NZ)(H:Hp):List Addr:=(List.range h.objs.size).filter λa=>(H a).isSome
def qr(h:NZ)(H:Hp):NZ:=Vf h (MM h H)
theorem xD(h:NZ)(H:Hp):(qr h H).objs.size=h.objs.size:=PySem.W.hideAll_size _ _
theorem Bs{h:NZ}{H:Hp}{b:Addr}{o:Obj}(e:h.get? b=some o)(n:H b=none):(qr h H).get? b=some o:=
 UK _ e λhm=>by have q:(H b).isSome=true:=(R0.mp hm).2;rw[n]at q;simp at q
theorem Ds{h:NZ}{H:Hp}{b:Addr}{o:Obj}(e:(qr h H).get? b=some o):h.get? b=some o/\H b=none:=by
 have e':h.get? b=some o:=Vg (MM h H) e;refine⟨e',?_⟩;cases q:H b with
 |none=>rfl
 |some x=>
  have hm:b∈MM h H:=R0.mpr ⟨RJ.mpr (NQ e'),by simp[q]⟩;have z:(qr h H).get? b=none:=PySem.W.hideAll_none (MM h H) hm;rw[z]at e;cases e
noncomputable def lR(g h:NZ)(L:Addr):List (Addr×Obj):=(List.range h.objs.size).filterMap λa=>if a=L\/(g.get? a).isSome=true then none else(h.get? a).map λo=>(a,o)
theorem rW{g h:NZ}{L a:Addr}{o:Obj}(h1:a≠L)(h2:g.get? a=none)(h3:h.get? a=some o):(a,o)∈lR g h L:=
 R8.mpr ⟨a,RJ.mpr (NQ h3),by simp[h1,h2,h3]⟩
theorem mF{g h:NZ}{L:Addr}{p:Addr×Obj}(hp:p∈lR g h L):p.1≠L/\g.get? p.1=none/\h.get? p.1=some p.2:=by
 obtain⟨b,_,e⟩:=R8.mp hp;split at e
 .cases e
 .rename_i hn;cases q:h.get? b with
  |none=>rw[q]at e;simp at e
  |some u=>
   rw[q]at e;simp only[Option.map_some,Option.some.injEq]at e;subst e;refine⟨λz=>hn (.inl z),?_,q⟩;show g.get? b=none;cases r:g.get? b with
   |none=>rfl
   |some v=>exact(hn (.inr (by simp[r]))).elim
def rest(g h:NZ)(L d:Addr):List (Addr×Obj):=(lR g h L).filter λp=>decide (p.1≠d)
theorem rest_ne{g h:NZ}{L d:Addr}:∀p∈rest g h L d,p.1≠d:=λp hp=>NE (R0.mp hp).2
theorem Ba{g h:NZ}{L d a:Addr}{o:Obj}(h1:a≠L)(h2:g.get? a=none)(h3:h.get? a=some o)(h4:a≠d):(a,o)∈rest g h L d:=
 R0.mpr ⟨rW h1 h2 h3,NA h4⟩
theorem A6{g h:NZ}{L:Addr}:News g L h (lR g h L):=λp hp=>let ⟨a,b,c⟩:=mF hp;⟨c,a,b⟩
theorem Dv{g h:NZ}{L d:Addr}{o:Obj}(h1:d≠L)(h2:g.get? d=none)(h3:h.get? d=some o):News g L h ((d,o)::rest g h L d):=λp hp=>by
 rcases RB.mp hp with rfl|hp
 .exact⟨h3,h1,h2⟩
 .exact A6 p (R0.mp hp).1
theorem jZ{g h h':NZ}{L d:Addr}{m:NH}(k:∀b o,g.get? b=some o->h.get? b=some o)(F:Fr g L h' m)(N:News g L h' (rest g h L d)):
  ∀b o,b≠L->b≠d->h.get? b=some o->h'.get? b=some o:=λb o h1 h2 e=>by
 cases q:g.get? b with
 |some u=>
  have:=k b u q;rw[e]at this;cases this;exact F.keep b _ q
 |none=>exact(N (b,o) (Ba h1 q e h2)).1
structure Mod(K:Frag)(mg:NH)(Ny:NZ):Prop where
 kin:K.In Ny
 glob:Ny.Ns NM mg
 blt:∃mb,Ny.Ns builtinsNs mb/\∀x:Str,x≠"__name__"->mb x=N2 x
 nolimit:Ny.NoLimit
structure Cx where
 prog:NP
 w:NT
 K:Frag
 mg:Str->Option Value
 Ny:NZ
 A:N1
 N:List Str
 s₀:NN
 H₀:Hp
 env:QK
 Nz:List QK
 stack:List QK
 ex:List Addr
 fn:Str->Bool
 calm:Bool
 pn:List (Addr×Obj)
 xe:Value->NN->Prop
def jA(l:List QK):List Addr:=l.filterMap (·.frame)
abbrev Cx.fs(X:Cx):List Addr:=jA X.Nz
def MU(sc:O0)(x:Str):Prop:=sc.names.lookup x=some .local\/sc.names.lookup x=some .cell\/sc.names.lookup x=some .free
def Kz(sc:O0)(x:Str):Prop:=sc.names.lookup x=some .local\/sc.names.lookup x=some .cell
def Nu(env:QK)(h:NZ)(m:NH)(x:Str)(u:Value):Prop:=
 (env.kindOf x=some .local/\m x=some u)\/((env.kindOf x=some .cell\/env.kindOf x=some .free)/\∃c,env.cells.lookup x=some c/\h.IsCell c (some u))
structure Cx.Ok(X:Cx):Prop where
 mod:Mod X.K X.mg X.Ny
 kind:X.env.scope.kind=.function
 glob:X.env.globals=NM
 blt:X.env.builtins=builtinsNs
 above:X.s₀.heap.objs.size<=X.env.locals
 inj:∀x y c,X.env.cells.lookup x=some c->X.env.cells.lookup y=some c->x=y
 has:∀x,(X.env.kindOf x=some .cell\/X.env.kindOf x=some .free)->∃c,X.env.cells.lookup x=some c
 cab:∀x c,X.fn x=true->X.env.cells.lookup x=some c->X.s₀.heap.objs.size<=c
 hd:X.calm=true->X.A.handled=none
 frames:X.A.frames=some X.stack
 stk:X.stack=X.Nz\/(X.stack=X.env::X.Nz/\X.env.frame=some X.env.locals)
 exf:∀b∈X.ex,b≠X.env.locals/\∀x c,X.env.cells.lookup x=some c->c≠b
 bs:∀b o,X.Ny.get? b=some o->X.s₀.heap.get? b=some o/\X.H₀ b=none
 bsz:X.Ny.objs.size<=X.s₀.heap.objs.size
 noex:∀b o,X.Ny.get? b=some o->b∉X.ex
 exfs:∀b∈X.ex,b∉X.fs
 funs:X.s₀.heap.FunFrames X.Ny X.Nz
 frf:∀b∈X.fs,X.H₀ b=none
structure aM(X:Cx)(gV:NJ)(σ:List (Option V))(H:Hp)(s:NN):Prop where
 ok:X.Ok
 os:s.os=X.s₀.os
 bare:PD s.gens
 Ny:Un X.fs X.ex X.H₀ H X.s₀.heap s.heap
 loc:∃m,s.heap.Ns X.env.locals m/\∀(i:Nat)(x:Str)(v:V),X.N[i]? =some x->σ[i]? =some (some v)->MU X.env.scope x->∃u,aV v u/\Nu X.env s.heap m x u
 cell:∀x c,X.env.cells.lookup x=some c->∃v,s.heap.IsCell c v
 free:H X.env.locals=none
 freeC:∀x c,X.env.cells.lookup x=some c->H c=none
 pin:∀p∈X.pn++gV,s.heap.get? p.1=some p.2/\H p.1=none/\p.1≠X.env.locals/\p.1∉X.fs/\∀v,p.2.data≠.cell v
 hok:jC X.prog X.w H s.heap
 len:σ.length=X.N.length
section
variable{X:Cx}{gV:NJ}{σ:List (Option V)}{H H':Hp}{s:NN}{h':NZ}
theorem Cx.Ok.nofr(ok:X.Ok){b:Addr}{o:Obj}(e:X.Ny.get? b=some o):b∉X.fs:=λhb=>by have:=(ok.funs.mem hb).1;rw[e]at this;cases this
theorem aM.bs(I:aM X gV σ H s):∀b o,X.Ny.get? b=some o->s.heap.get? b=some o/\H b=none:=λb o e=>
 ⟨I.Ny.keep b o (I.ok.bs b o e).1 (I.ok.bs b o e).2 (I.ok.nofr e) (I.ok.noex b o e),I.Ny.free b o (I.ok.bs b o e).1 (I.ok.bs b o e).2 (I.ok.noex b o e)⟩
theorem aM.bk(I:aM X gV σ H s):∀b o,X.Ny.get? b=some o->s.heap.get? b=some o:=λb o e=>(I.bs b o e).1
theorem aM.mod(I:aM X gV σ H s):Mod X.K X.mg X.Ny:=I.ok.mod
theorem aM.kIn(I:aM X gV σ H s):X.K.In s.heap:=I.ok.mod.kin.keeps I.bk
theorem aM.fr(I:aM X gV σ H s):∃m,Fr X.Ny X.env.locals s.heap m:=
 let ⟨m,hn,_⟩:=I.loc
 ⟨m,hn,I.bk,Tn I.ok.bsz I.ok.above⟩
theorem aM.lt(I:aM X gV σ H s):X.env.locals<s.heap.objs.size:=let ⟨_,hn,_⟩:=I.loc;hn.lt
theorem aM.sz(I:aM X gV σ H s):X.s₀.heap.objs.size<=s.heap.objs.size:=Tn I.ok.above (Tx I.lt)
theorem aM.nofs(I:aM X gV σ H s){a:Addr}(h:s.heap.objs.size<=a):a∉X.fs:=λhb=>by obtain⟨_,o,ho,_⟩:=I.ok.funs.mem hb;exact NG (To (NQ ho) (Tn I.sz h)) (Tq _)
theorem aM.cne(I:aM X gV σ H s):∀x c,X.env.cells.lookup x=some c->c≠X.env.locals:=λx c e z=>by obtain⟨v,o,ho,hd⟩:=I.cell x c e;obtain⟨m,⟨o',es,ep,ho',hd',_⟩,_⟩:=I.loc;rw[z,ho']at ho;cases ho;rw[hd']at hd;cases hd
theorem aM.funs(I:aM X gV σ H s):s.heap.FunFrames X.Ny X.Nz:=by
 have all:∀(l:List QK),(∀b∈jA l,b∈X.fs)->X.s₀.heap.FunFrames X.Ny l->s.heap.FunFrames X.Ny l:=by
  intro l
  induction l with
  |nil=>intro _ _;trivial
  |cons env r ih=>
   intro hs hl;obtain⟨hk,⟨L,o,hf,hn,ho,hd⟩,hr⟩:=hl;have hL:L∈X.fs:=hs L (by unfold jA;rw[Sm,hf];exact RK);obtain⟨sl,e⟩:=I.Ny.slot L o ho (I.ok.frf L hL) hL λz=>I.ok.exfs L z hL;exact⟨hk,⟨L,_,hf,hn,e,hd⟩,ih (λb hb=>hs b (by unfold jA;rw[Sm,hf];exact RF _ hb)) hr⟩
 exact all X.Nz (λ_ hb=>hb) I.ok.funs
theorem aM.stack(I:aM X gV σ H s):s.heap.FunFrames X.Ny X.stack:=by
 rcases I.ok.stk with e|⟨e,hf⟩
 .rw[e];exact I.funs
 .rw[e];obtain⟨m,hn,_⟩:=I.loc;refine .cons (by rw[I.ok.kind];decide) hf hn ?_ I.funs;exact PF (Tn I.ok.bsz I.ok.above)
theorem aM.stkSub(I:aM X gV σ H s):∀b∈jA X.stack,b∈X.env.locals::X.fs:=λb hb=>by
 rcases I.ok.stk with e|⟨e,hf⟩
 .rw[e]at hb;exact RF _ hb
 .rw[e]at hb;unfold jA at hb;rw[Sm,hf]at hb;exact hb
theorem aM.stkFree(I:aM X gV σ H s):∀b∈jA X.stack,H b=none:=λb hb=>by
 rcases RB.mp (I.stkSub b hb)with e|hb
 .rw[e];exact I.free
 .obtain⟨_,o,ho,_⟩:=I.ok.funs.mem hb;exact I.Ny.free b o ho (I.ok.frf b hb) λz=>I.ok.exfs b z hb
theorem aM.step{g':Array P4}{t':Nat}{d':Drawn}{ch:List Addr}(I:aM X gV σ H s)
  (hch:∀b∈ch,(b∈X.ex\/X.s₀.heap.objs.size<=b)/\b≠X.env.locals/\(∀x c,X.env.cells.lookup x=some c->c≠b)/\∀p∈X.pn++gV,p.1≠b)
  (keep:∀b o,b≠X.env.locals->b∉X.fs->b∉ch->s.heap.get? b=some o->H b=none->h'.get? b=some o)
  (slot:∀b o,b≠X.env.locals->b∈X.fs->b∉ch->s.heap.get? b=some o->H b=none->∃sl,h'.get? b=some {o with slots:=sl}) (free:∀b o,b∉ch->s.heap.get? b=some o->H b=none->H' b=none)
  (there:∀b o,b∉ch->s.heap.get? b=some o->∃o',h'.get? b=some o')
  (tups:∀b xs,H b=some (.tup xs)->H' b=some (.tup xs)) (frzs:∀b o u,H b=some (.frz o u)->H' b=some (.frz o u)) (tbls:∀b ps,H b=some (.tbl ps)->∃more,H' b=some (.tbl (ps++more)))
  (ns:∀m,s.heap.Ns X.env.locals m->h'.Ns X.env.locals m) (hok:jC X.prog X.w H' h') (hg:PD g'):
  aM X gV σ H' {s with heap:=h',gens:=g',drawn:=d',toks:=t'}:=by
 have neL:∀b o,X.s₀.heap.get? b=some o->b≠X.env.locals:=λb o e=>Tk (To (NQ e) I.ok.above);have neC:∀b o,X.s₀.heap.get? b=some o->b∉X.ex->b∉ch:=λb o e hx hb=>by
  rcases(hch b hb).1 with z|z
  .exact hx z
  .exact NG (To (NQ e) z) (Tq _)
 have cellK:∀x c,X.env.cells.lookup x=some c->∀v,s.heap.IsCell c v->h'.IsCell c v:=λx c e v ⟨o,ho,hd⟩=>by
  have nch:c∉ch:=λz=>(hch c z).2.2.1 x c e rfl
  by_cases hc:c∈X.fs
  .obtain⟨sl,q⟩:=slot c o (I.cne x c e) hc nch ho (I.freeC x c e);exact⟨_,q,hd⟩
  .exact⟨o,keep c o (I.cne x c e) hc nch ho (I.freeC x c e),hd⟩
 refine⟨I.ok,I.os,hg,⟨λb o e n hb hx=>?_,λb o e n hb hx=>?_,λb o e n hx=>?_,λb o e hx=>?_,λb xs e=>tups b xs (I.Ny.tups b xs e),λb o xs e=>frzs b o xs (I.Ny.frzs b o xs e),λb ps e=>?_⟩,?_,λx c e=>?_,?_,λx c e=>?_,λp hp=>?_,hok,I.len⟩
 .exact keep b o (neL b o e) hb (neC b o e hx) (I.Ny.keep b o e n hb hx) (I.Ny.free b o e n hx)
 .obtain⟨sl,e1⟩:=I.Ny.slot b o e n hb hx;obtain⟨sl',e2⟩:=slot b _ (neL b o e) hb (neC b o e hx) e1 (I.Ny.free b o e n hx);exact⟨sl',e2⟩
 .obtain⟨o',e1⟩:=I.Ny.there b o e hx;exact free b o' (neC b o e hx) e1 (I.Ny.free b o e n hx)
 .obtain⟨o',e1⟩:=I.Ny.there b o e hx;exact there b o' (neC b o e hx) e1
 .obtain⟨m1,e1⟩:=I.Ny.tbls b ps e;obtain⟨m2,e2⟩:=tbls b _ e1;exact⟨m1++m2,by rw[e2,Array.append_assoc]⟩
 .obtain⟨m,hn,hl⟩:=I.loc;refine⟨m,ns m hn,λi x v e1 e2 e3=>?_⟩;obtain⟨u,r,l⟩:=hl i x v e1 e2 e3;refine⟨u,r,?_⟩
  rcases l with l|⟨k,c,e,z⟩
  .exact .inl l
  .exact .inr ⟨k,c,e,cellK x c e _ z⟩
 .obtain⟨v,z⟩:=I.cell x c e;exact⟨v,cellK x c e v z⟩
 .obtain⟨m,⟨o,_,_,ho,_⟩,_⟩:=I.loc;exact free _ o (λz=>(hch _ z).2.1 rfl) ho I.free
 .obtain⟨v,o,ho,hd⟩:=I.cell x c e;exact free c o (λz=>(hch c z).2.2.1 x c e rfl) ho (I.freeC x c e)
 .obtain⟨e,n,ne,nf,d⟩:=I.pin p hp;have nch:p.1∉ch:=λz=>(hch p.1 z).2.2.2 p hp rfl;exact⟨keep p.1 p.2 ne nf nch e n,free p.1 p.2 nch e n,ne,nf,d⟩
theorem aM.un{t':Nat}(I:aM X gV σ H s)(u:Un X.fs [] H H' s.heap h')(hok:jC X.prog X.w H' h'):aM X gV σ H' {s with heap:=h',toks:=t'}:=by
 obtain⟨m,⟨o,es,ep,ho,r⟩,_⟩:=id I.loc;obtain⟨sl,hL⟩:=u.any ho I.free (by simp);exact I.step (g':=s.gens) (d':=s.drawn) (ch:=[]) (λ_ z=>nomatch z) (λb o _ hb _ e n=>u.keep b o e n hb (by simp)) (λb o _ hb _ e n=>u.slot b o e n hb (by simp)) (λb o _ e n=>u.free b o e n (by simp)) (λb o _ e=>u.there b o e (by simp)) u.tups u.frzs u.tbls (λm' hm=>by
  obtain⟨o',es',ep',ho',r'⟩:=hm;rw[ho]at ho';cases ho';exact⟨_,es',ep',hL,r'⟩) hok I.bare
theorem aM.call{g':Array P4}{t':Nat}{d':Drawn}{ch:List Addr}(I:aM X gV σ H s)(u:Un (jA X.stack) ch H H' s.heap h')(hok:jC X.prog X.w H' h')(hg:PD g')
  (hch:∀b∈ch,(b∈X.ex\/X.s₀.heap.objs.size<=b)/\b≠X.env.locals/\(∀x c,X.env.cells.lookup x=some c->c≠b)/\∀p∈X.pn++gV,p.1≠b):
  aM X gV σ H' {s with heap:=h',gens:=g',drawn:=d',toks:=t'}:=by
 obtain⟨m,⟨o,es,ep,ho,r⟩,_⟩:=id I.loc;obtain⟨sl,hL⟩:=u.any ho I.free λz=>(hch _ z).2.1 rfl;exact I.step (ch:=ch) hch (λb o hL hb hc e n=>u.keep b o e n (λz=>(RB.mp (I.stkSub b z)).elim hL hb) hc) (λb o _ _ hc e n=>u.any e n hc) (λb o hc e n=>u.free b o e n hc) (λb o hc e=>u.there b o e hc) u.tups u.frzs u.tbls (λm' hm=>by
  obtain⟨o',es',ep',ho',r'⟩:=hm;rw[ho]at ho';cases ho';exact⟨_,es',ep',hL,r'⟩) hok hg
theorem aM.turned{t':Nat}{it:Addr}(I:aM X gV σ H s)(k:∀b o,b≠it->s.heap.get? b=some o->h'.get? b=some o)(hn:H it=none)(hL:it≠X.env.locals)
  (h1:it∈X.ex\/X.s₀.heap.objs.size<=it) (h2:∀x c,X.env.cells.lookup x=some c->c≠it) (h3:∀p∈X.pn++gV,p.1≠it):aM X gV σ H {s with heap:=h',toks:=t'}:=by
 have nit:∀b u,H b=some u->b≠it:=λb u e z=>by rw[z,hn]at e;cases e
 refine I.step (g':=s.gens) (d':=s.drawn) (ch:=[it]) (λb hb=>?_) (λb o _ _ hc e _=>k b o (λz=>hc (by simp[z])) e) (λb o _ _ hc e _=>⟨o.slots,k b o (λz=>hc (by simp[z])) e⟩) (λ_ _ _ _ n=>n)
  (λb o hc e=>⟨o,k b o (λz=>hc (by simp[z])) e⟩) (λ_ _ e=>e) (λ_ _ _ e=>e) (λb ps e=>⟨#[],by rw[e];simp⟩) (λm hm=>?_) (λb u e=>?_) I.bare
 .have e:b=it:=by simpa using hb
  subst e;exact⟨h1,hL,h2,h3⟩
 .obtain⟨o,es,ep,ho,r⟩:=hm;exact⟨o,es,ep,k _ o (Ne.symm hL) ho,r⟩
 .refine(I.hok b u e).stay (λc v hc q=>k c v ?_ q) (λ_ q=>q) λ_ _ q=>q
  rcases hc with z|z
  .rw[z];exact nit b u e
  .exact nit c _ z
theorem aM.tok(I:aM X gV σ H s)(t:Nat):aM X gV σ H {s with toks:=t}:=I.un (h':=s.heap) (t':=t) Un.refl I.hok
theorem aM.kept{t':Nat}(I:aM X gV σ H s)(k:∀b u,s.heap.get? b=some u->h'.get? b=some u):aM X gV σ H {s with heap:=h',toks:=t'}:=I.un (Un.kept k) (I.hok.kept k)
theorem aM.laid{a:Addr}{o:HO}{t':Nat}(I:aM X gV σ H s)(k:∀b u,s.heap.get? b=some u->h'.get? b=some u)(hp:s.heap.objs.size<=a)(new:bH X.prog X.w (upd H a o) h' a o):
  aM X gV σ (upd H a o) {s with heap:=h',toks:=t'}:=I.un (Un.laid k hp (I.hok.fresh hp)) (I.hok.laid k hp new)
theorem aM.write{x e:Addr}{o:HO}{t':Nat}(I:aM X gV σ H s)(mu:MV (H x))(he:e=x\/H e=some (.own x))(k:∀b u,b≠e->s.heap.get? b=some u->h'.get? b=some u)(heo:∃u,h'.get? e=some u)
  (new:bH X.prog X.w (upd H x o) h' x o):aM X gV σ (upd H x o) {s with heap:=h',toks:=t'}:=I.un (Un.write mu he k heo) (I.hok.write mu he k heo new)
theorem aM.pins_of{pins':NJ}(I:aM X gV σ H s)(h:∀p∈pins',s.heap.get? p.1=some p.2/\H p.1=none/\p.1≠X.env.locals/\p.1∉X.fs/\∀v,p.2.data≠.cell v):aM X pins' σ H s:=
 ⟨I.ok,I.os,I.bare,I.Ny,I.loc,I.cell,I.free,I.freeC,λp hp=>(RM.mp hp).elim (λz=>I.pin p (Sc _ z)) (h p),I.hok,I.len⟩
theorem rQ{N:List Str}(hN:N.Nodup){i j:Nat}{x:Str}(a:N[i]? =some x)(b:N[j]? =some x):i=j:=by obtain⟨h1,e1⟩:=RO.mp a;obtain⟨h2,e2⟩:=RO.mp b;exact(SL hN).mp (e1.trans e2.symm)
theorem nU{M:Ry}{A:N1}{E:NI}{i:Nat}{x:Str}{v:V}{u:Value}{Q:Unit->NN->Prop}(I:aM X gV σ H s)(hN:X.N.Nodup)(hi:X.N[i]? =some x)(hx:Kz X.env.scope x)(r:aV v u)
  (h:∀s',aM X gV (σ.set i (some v)) H s'->(∃a,Oz a s.heap s'.heap/\(a=X.env.locals\/X.env.cells.lookup x=some a))->Q () s') (hf:X.fn x=true\/X.env.scope.names.lookup x=some .local:=by first|exact .inl rfl|exact .inr rfl|assumption):NS M A (storeName X.env x u) Q E s:=by
 obtain⟨m,hn,hl⟩:=id I.loc;have hcls:(X.env.scope.kind == .class||(X.env.scope.kind == .module&&X.env.locals != X.env.globals))=false:=by rw[I.ok.kind];rfl
 have hiσ:i<σ.length:=by rw[I.len];exact(RO.mp hi).1
 have cne:=I.cne;have tracked:∀{a:Addr}{h':NZ},(∃o,s.heap.get? a=some o/\H a=none)->Oz a s.heap h'->jC X.prog X.w H h':=λ{a h'} ha hs b ob e=>by
  obtain⟨_,_,hfree⟩:=ha;refine(I.hok b ob e).stay (λc w' hc q=>(hs.2 c ?_).trans q) (λ_ q=>q) λ_ _ q=>q;rintro rfl
  rcases hc with rfl|hc
  .rw[hfree]at e;cases e
  .rw[hfree]at hc;cases hc
 rcases hx with hk|hk
 .refine wpAny_storeName_local hk hn (λh' hn' hs=>?_) hcls;obtain⟨oL,_,_,hoL,_⟩:=id hn;refine h _ ⟨I.ok,I.os,I.bare,⟨λb o e n hb hx=>?_,λb o e n hb hx=>?_,I.Ny.free,λb o e hx=>?_,I.Ny.tups,I.Ny.frzs,I.Ny.tbls⟩,⟨_,hn',λj y v' e1 e2 e3=>?_⟩,λy c e=>?_,I.free,I.freeC,λp hp=>?_,tracked ⟨oL,hoL,I.free⟩ hs,by simpa using I.len⟩ ⟨_,hs,.inl rfl⟩
  .exact(hs.2 b (Tk (To (NQ e) I.ok.above))).trans (I.Ny.keep b o e n hb hx)
  .obtain⟨sl,e1⟩:=I.Ny.slot b o e n hb hx;exact⟨sl,(hs.2 b (Tk (To (NQ e) I.ok.above))).trans e1⟩
  .obtain⟨o',e1⟩:=I.Ny.there b o e hx;exact⟨o',(hs.2 b (Tk (To (NQ e) I.ok.above))).trans e1⟩
  .by_cases hj:j=i
   .subst hj;rw[hi]at e1;cases e1;rw[SM hiσ]at e2;cases e2;exact⟨u,r,.inl ⟨hk,by simp⟩⟩
   .rw[SN (Ne.symm hj)]at e2;obtain⟨u',r',q⟩:=hl j y v' e1 e2 e3;refine⟨u',r',?_⟩
    rcases q with⟨k,e⟩|⟨k,c,e,z⟩
    .refine .inl ⟨k,?_⟩;have:y≠x:=λe=>hj (rQ hN e1 (e▸hi));simp[this,e]
    .exact .inr ⟨k,c,e,z.sameBut hs (cne y c e)⟩
  .obtain⟨w',z⟩:=I.cell y c e;exact⟨w',z.sameBut hs (cne y c e)⟩
  .obtain⟨e,n,ne,nf,d⟩:=I.pin p hp;exact⟨(hs.2 p.1 ne).trans e,n,ne,nf,d⟩
 .have hfn:X.fn x=true:=by
   rcases hf with z|z
   .exact z
   .rw[z]at hk;cases hk
  obtain⟨c,hc⟩:=I.ok.has x (.inl hk);obtain⟨w',z⟩:=I.cell x c hc;refine wpAny_storeName_cell I.ok.kind hk hc z (λh' hc' hs=>?_);obtain⟨oc,hoc,hocd⟩:=id z;refine h {s with heap:=h'} ⟨I.ok,I.os,I.bare,⟨λb o e n hb hx=>?_,λb o e n hb hx=>?_,I.Ny.free,λb o e hx=>?_,I.Ny.tups,I.Ny.frzs,I.Ny.tbls⟩,⟨m,hn.sameBut hs (Ne.symm (cne x c hc)),λj y v' e1 e2 e3=>?_⟩,λy c' e=>?_,I.free,I.freeC,λp hp=>?_,tracked ⟨oc,hoc,I.freeC x c hc⟩ hs,by simpa using I.len⟩ ⟨c,hs,.inr hc⟩
  .exact(hs.2 b (Tk (To (NQ e) (I.ok.cab x c hfn hc)))).trans (I.Ny.keep b o e n hb hx)
  .obtain⟨sl,e1⟩:=I.Ny.slot b o e n hb hx;exact⟨sl,(hs.2 b (Tk (To (NQ e) (I.ok.cab x c hfn hc)))).trans e1⟩
  .obtain⟨o',e1⟩:=I.Ny.there b o e hx;exact⟨o',(hs.2 b (Tk (To (NQ e) (I.ok.cab x c hfn hc)))).trans e1⟩
  .by_cases hj:j=i
   .subst hj;rw[hi]at e1;cases e1;rw[SM hiσ]at e2;cases e2;exact⟨u,r,.inr ⟨.inl hk,c,hc,hc'⟩⟩
   .rw[SN (Ne.symm hj)]at e2;obtain⟨u',r',q⟩:=hl j y v' e1 e2 e3;refine⟨u',r',?_⟩
    rcases q with q|⟨k,c',e,z'⟩
    .exact .inl q
    .refine .inr ⟨k,c',e,z'.sameBut hs ?_⟩;rintro rfl;exact hj (rQ hN e1 (I.ok.inj _ _ _ e hc▸hi))
  .by_cases hcc:c'=c
   .subst hcc;exact⟨_,hc'⟩
   .obtain⟨w2,z2⟩:=I.cell y c' e;exact⟨w2,z2.sameBut hs hcc⟩
  .obtain⟨e,n,ne,nf,d⟩:=I.pin p hp;refine⟨(hs.2 p.1 ?_).trans e,n,ne,nf,d⟩;intro q;rw[q,hoc]at e;have q':oc=p.2:=Option.some.inj e;exact d w' (by rw[<-q'];exact hocd)
theorem lW{M:Ry}{A:N1}{E:NI}{i:Nat}{x:Str}{v:V}{u:Value}{Q:Unit->NN->Prop}(I:aM X gV σ H s)(hN:X.N.Nodup)(hi:X.N[i]? =some x)(hx:Kz X.env.scope x)(r:aV v u)
  (h:∀s',aM X gV (σ.set i (some v)) H s'->Q () s') (hf:X.fn x=true\/X.env.scope.names.lookup x=some .local:=by first|exact .inl rfl|exact .inr rfl|assumption):NS M A (storeName X.env x u) Q E s:=
 nU I hN hi hx r (λs' I' _=>h s' I') hf
theorem aM.call'{s':NN}{ch:List Addr}(I:aM X gV σ H s)(ho:s'.os=s.os)(u:Un (jA X.stack) ch H H' s.heap s'.heap)(hok:jC X.prog X.w H' s'.heap)(hg:PD s'.gens)
  (hch:∀b∈ch,(b∈X.ex\/X.s₀.heap.objs.size<=b)/\b≠X.env.locals/\(∀x c,X.env.cells.lookup x=some c->c≠b)/\∀p∈X.pn++gV,p.1≠b):aM X gV σ H' s':=by
 obtain⟨h',g',d',t',o'⟩:=s';have e:o'=s.os:=ho;subst e;exact I.call (g':=g') (t':=t') (d':=d') u hok hg hch
end
abbrev XK:=Value->Option Addr->Hp->Prop
abbrev St:=List (Option V)
abbrev oR(a:Addr):Option V:=some (.ref a)
abbrev oJ(a:Int):Option V:=some (.int a)
abbrev oT(a:Str):Option V:=some (.str a)
abbrev VK:=V->Hp->Prop
abbrev TE:=St->Hp->VK->Prop
abbrev TT:=St->Hp->(Bool->Hp->Prop)->Prop
abbrev TA:=St->Hp->(List V->Hp->Prop)->Prop
structure dq where
 nx:St->Hp->Prop
 rt:VK
 bk:St->Hp->Prop:=λ_ _=>False
 ct:St->Hp->Prop:=λ_ _=>False
abbrev TS:=dq->St->Hp->Prop
def EP(X:Cx)(gV:NJ)(σ:St)(Q:VK)(u:Value)(s':NN):Prop:= ∃v H',aM X gV σ H' s'/\aV v u/\Q v H'
def TP(X:Cx)(gV:NJ)(σ:St)(Q:Bool->Hp->Prop)(b:Bool)(s':NN):Prop:= ∃H',aM X gV σ H' s'/\Q b H'
def AP(X:Cx)(gV:NJ)(σ:St)(Q:List V->Hp->Prop)(us:List Value)(s':NN):Prop:= ∃vs H',aM X gV σ H' s'/\aZ vs us/\Q vs H'
def SP(X:Cx)(gV:NJ)(D:dq)(f:Flow)(s':NN):Prop:=
 match f with
 | .next=>∃σ' H',aM X gV σ' H' s'/\D.nx σ' H'
 | .brk=>∃σ' H',aM X gV σ' H' s'/\D.bk σ' H'
 | .cont=>∃σ' H',aM X gV σ' H' s'/\D.ct σ' H'
 | .ret u=>∃v σ' H',aM X gV σ' H' s'/\aV v u/\D.rt v H'
def PE(X:Cx)(e:N5)(t:TE):Prop:=
 ∀(gV:NJ)(s:NN)(σ:St)(H:Hp)(Q:VK),aM X gV σ H s->t σ H Q->NS (NX X.prog X.w) X.A (Om e X.env) (EP X gV σ Q) X.xe s
def PT(X:Cx)(e:N5)(t:TT):Prop:=
 ∀(gV:NJ)(s:NN)(σ:St)(H:Hp)(Q:Bool->Hp->Prop),aM X gV σ H s->t σ H Q->NS (NX X.prog X.w) X.A (isTrue e X.env (Om e X.env)) (TP X gV σ Q) X.xe s
def PW(X:Cx)(e:N5)(t:TT):Prop:=
 ∀(whole:Sem Value)(gV:NJ)(s:NN)(σ:St)(H:Hp)(Q:Bool->Hp->Prop),aM X gV σ H s->t σ H Q->NS (NX X.prog X.w) X.A (isTrue e X.env whole) (TP X gV σ Q) X.xe s
theorem PW.pt{X:Cx}{e:N5}{t:TT}(h:PW X e t):PT X e t:=h _
def PA(X:Cx)(es:List N5)(t:TA):Prop:=
 ∀(pos:Px)(gV:NJ)(s:NN)(σ:St)(H:Hp)(Q:List V->Hp->Prop),aM X gV σ H s->t σ H Q->NS (NX X.prog X.w) X.A (spliced (Oh pos (NU es X.env))) (AP X gV σ Q) X.xe s
def PS(X:Cx)(st:N6)(t:TS):Prop:=
 ∀(gV:NJ)(s:NN)(σ:St)(H:Hp)(D:dq),aM X gV σ H s->t D σ H->NS (NX X.prog X.w) X.A (exec st X.env) (SP X gV D) X.xe s
def qN(X:Cx)(st:List N6)(t:TS):Prop:=
 ∀(gV:NJ)(s:NN)(σ:St)(H:Hp)(D:dq),aM X gV σ H s->t D σ H->NS (NX X.prog X.w) X.A (execs st X.env) (SP X gV D) X.xe s
theorem bU{α:Type}{t:Sem α}{Q Q':α->NN->Prop}{M:Ry}{A:N1}{E:NI}{s:NN}(h:NS M A t Q E s)(hQ:∀a s,Q a s->Q' a s):NS M A t Q' E s:=Oq h hQ λ_ _ x=>x
section
variable{X:Cx}
theorem bin{a b:N5}{ta tb:TE}(ha:PE X a ta)(hb:PE X b tb){gV:NJ}{s:NN}{σ:St}{H:Hp}{R:V->V->Hp->Prop}(I:aM X gV σ H s)(h:ta σ H λx H1=>tb σ H1 λy H2=>R x y H2)
  {α:Type} {Q:α->NN->Prop} {f:Value->Value->Sem α}
  (hf:∀v u s2 x y H2,aM X gV σ H2 s2->aV x v->aV y u->R x y H2->NS (NX X.prog X.w) X.A (f v u) Q X.xe s2):
  NS (NX X.prog X.w) X.A (Om a X.env) (λv s₁=>NS (NX X.prog X.w) X.A (Om b X.env) (λu s₂=>NS (NX X.prog X.w) X.A (f v u) Q X.xe s₂) X.xe s₁) X.xe s:=by
 refine bU (ha gV s σ H _ I h) λv s1 ⟨x,H1,I1,r1,q1⟩=>?_;refine bU (hb gV s1 σ H1 _ I1 q1) λu s2 ⟨y,H2,I2,r2,q2⟩=>?_;exact hf v u s2 x y H2 I2 r1 r2 q2
def MY(i:Nat):TE:=λσ H Q=>∃v,σ[i]? =some (some v)/\Q v H
def tC(v:V):TE:=λ_ H Q=>Q v H
theorem Jc{i:Nat}{x:Str}{pos:Px}(hN:X.N[i]? =some x)(hv:MU X.env.scope x)(hd:(x == ("__debug__":Str))=false:=by decide)(hcd:(x == ("__classdict__":Str))=false:=by decide):PE X (.Name x pos) (MY i):=by
 intro gV s σ H Q I h;obtain⟨v,e,h⟩:=h;obtain⟨m,hn,hl⟩:=I.loc;obtain⟨u,r,l⟩:=hl i x v hN e hv;have fin:EP X gV σ Q u s:=⟨v,H,I,r,h⟩
 rcases l with⟨hk,hm⟩|⟨hk,c,hc,hcell⟩
 .exact wpAny_Name (wpAny_loadName_local I.ok.kind hk hn hm fin) hd
 .rcases hk with hk|hk
  .exact wpAny_Name (wpAny_loadName_cell I.ok.kind hk hc hcell fin) hd
  .exact wpAny_Name (wpAny_loadName_free I.ok.kind hk hc hcell fin hcd) hd
theorem ag{i j pos}:PE X (.Constant (.int i) j pos) (tC (.int i)):=λ_ _ _ H _ I h=>wpAny_Constant_int ⟨.int i,H,I.tok _,⟨_,rfl⟩,h⟩
theorem gq{b j pos}:PE X (.Constant (.bool b) j pos) (tC (.bl b)):=λ_ _ _ H _ I h=>Constant_bool ⟨.bl b,H,I,rfl,h⟩
theorem dw{j pos}:PE X (.Constant .none j pos) (tC .non):=λ_ _ _ H _ I h=>Constant_none ⟨.non,H,I,rfl,h⟩
theorem bz{x j pos}:PE X (.Constant (.str x) j pos) (tC (.str x)):=λ_ _ _ H _ I h=>Calls.Constant_str ⟨.str x,H,I.tok _,⟨_,rfl⟩,h⟩
def Gl(X:Cx)(x:Str):Prop:=X.env.kindOf x=some .globalImplicit
theorem im{E:NI}{gV:NJ}{s:NN}{σ:St}{H:Hp}{x:Str}{u:Value}{pos:Px}{Q:NI}(I:aM X gV σ H s)(hg:Gl X x)(hm:X.mg x=some u)(h:Q u s)
  (hd:(x == ("__debug__":Str))=false:=by decide):NS (NX X.prog X.w) X.A (Om (.Name x pos) X.env) Q E s:=
 P6 I.ok.kind hg (Calls.loadGlobal_global (by rw[I.ok.glob];exact I.mod.glob.keeps I.bk) hm h) hd
theorem kR{E:NI}{gV:NJ}{s:NN}{σ:St}{H:Hp}{x:Str}{u:Value}{pos:Px}{Q:NI}(I:aM X gV σ H s)(hg:Gl X x)(hm:X.mg x=none)(hv:N2 x=some u)(h:Q u s)
  (hn:x≠"__name__":=by decide) (hd:(x == ("__debug__":Str))=false:=by decide):NS (NX X.prog X.w) X.A (Om (.Name x pos) X.env) Q E s:=by
 obtain⟨mb,h1,h2⟩:=I.mod.blt;exact P6 I.ok.kind hg (Calls.loadGlobal_builtin (by rw[I.ok.glob];exact I.mod.glob.keeps I.bk) hm (by rw[I.ok.blt];exact h1.keeps I.bk) ((h2 x hn).trans hv) h) hd
theorem Dg{x:Str}{v:V}{u:Value}{pos:Px}(hg:Gl X x)(hm:X.mg x=some u)(r:aV v u)(hd:(x == ("__debug__":Str))=false:=by decide):PE X (.Name x pos) (tC v):=
 λ_ _ _ H _ I h=>im I hg hm ⟨v,H,I,r,h⟩ hd
theorem vW{x:Str}{v:V}{u:Value}{pos:Px}(hg:Gl X x)(hm:X.mg x=none)(hv:N2 x=some u)(r:aV v u)(hn:x≠"__name__":=by decide)(hd:(x == ("__debug__":Str))=false:=by decide):PE X (.Name x pos) (tC v):=
 λ_ _ _ H _ I h=>kR I hg hm hv ⟨v,H,I,r,h⟩ hn hd
variable{a b:N5}{ta tb:TE}{pos:Px}
def tB(t:TE):TT:=λσ H Q=>t σ H λx H1=>∃c,x=.bl c/\Q c H1
variable{tA tB':TT}{rest:List N5}
def IG(t u:TT):TT:=λσ H Q=>t σ H λc H1=>if c=true then u σ H1 Q else Q false H1
def Ls(t u:TT):TT:=λσ H Q=>t σ H λc H1=>if c=true then Q true H1 else u σ H1 Q
def CZ(t:TT):TT:=λσ H Q=>t σ H λc H1=>Q (!c) H1
theorem fg(ha:PT X a tA):PW X (.BoolOp .And [a] pos) tA:=by
 intro wh gV s σ H Q I h;refine isTrue_and (bU (ha gV s σ H Q I h) λc s1 e=>?_);cases c with
 |true=>exact isTrue_and_nil e
 |false=>exact e
theorem eQ(ha:PT X a tA):PW X (.BoolOp .Or [a] pos) tA:=by
 intro wh gV s σ H Q I h;refine isTrue_or (bU (ha gV s σ H Q I h) λc s1 e=>?_);cases c with
 |false=>exact isTrue_or_nil e
 |true=>exact e
theorem gk(ha:PT X a tA)(hb:PW X (.BoolOp .And (b::rest) pos) tB'):PW X (.BoolOp .And (a::b::rest) pos) (IG tA tB'):=by
 intro wh gV s σ H Q I h;refine isTrue_and (bU (ha gV s σ H _ I h) λc s1 ⟨H1,I1,q1⟩=>?_);cases c with
 |true=>exact hb wh gV s1 σ H1 Q I1 q1
 |false=>exact⟨H1,I1,q1⟩
theorem fP(ha:PT X a tA)(hb:PW X (.BoolOp .Or (b::rest) pos) tB'):PW X (.BoolOp .Or (a::b::rest) pos) (Ls tA tB'):=by
 intro wh gV s σ H Q I h;refine isTrue_or (bU (ha gV s σ H _ I h) λc s1 ⟨H1,I1,q1⟩=>?_);cases c with
 |true=>exact⟨H1,I1,q1⟩
 |false=>exact hb wh gV s1 σ H1 Q I1 q1
theorem bJ(ha:PT X a tA):PT X (.UnaryOp .Not a pos) (CZ tA):=by intro gV s σ H Q I h;exact isTrue_not (ha gV s σ H (λc H1=>Q (!c) H1) I h)
theorem dZ{op}{t:TE}(h:PE X a t):PE X (.BoolOp op [a] pos) t:=λgV s σ H Q I hw=>BoolOp_one (h gV s σ H Q I hw)
def MN(t:TT)(ta tb:TE):TE:=λσ H Q=>t σ H λc H1=>if c=true then ta σ H1 Q else tb σ H1 Q
theorem dn{c:N5}(hc:PT X c tA)(ha:PE X a ta)(hb:PE X b tb):PE X (.IfExp c a b pos) (MN tA ta tb):=by
 intro gV s σ H Q I h;refine wpAny_IfExp (bU (hc gV s σ H _ I h) λd s1 ⟨H1,I1,q1⟩=>?_);cases d with
 |true=>exact ha gV s1 σ H1 Q I1 q1
 |false=>exact hb gV s1 σ H1 Q I1 q1
end
def aY(K:Frag)(H:Hp)(a:Addr)(xs:List V):Prop:=
 Rd H a (.lst xs)\/
  ∃(o:Obj)(its:Array Value)(n:Nat),K.lookup a=some o/\o.cls=.type "list"/\o.dict=none/\o.data=.seq its n/\its.size<=sizeLine/\aZ xs its.toList
def cr(K:Frag)(H:Hp)(a:Addr)(xs:List V):Prop:=
 Rd H a (.tup xs)\/
  ∃(o:Obj)(its:Array Value)(n:Nat),K.lookup a=some o/\o.cls=.type "tuple"/\o.data=.seq its n/\its.size<=sizeLine/\aZ xs its.toList
noncomputable def No:Value->Option V
 | .none=>some .non
 | .bool b=>some (.bl b)
 | .int i _=>some (.int i)
 | .str x _=>some (.str x)
 | .bytes b _=>some (.byt b)
 | .float b _=>some (.flt b)
 | .ref a=>some (.ref a)
 | .type n=>some (.ty n)
 |_=>none
theorem aV.abs{x:V}{u:Value}(r:aV x u):No u=some x:=by
 cases x with
 |non=>cases r;rfl
 |bl _=>cases r;rfl
 |int _=>obtain⟨t,rfl⟩:=r;rfl
 |str _=>obtain⟨t,rfl⟩:=r;rfl
 |byt _=>obtain⟨t,rfl⟩:=r;rfl
 |flt _=>obtain⟨t,rfl⟩:=r;rfl
 |ref _=>cases r;rfl
 |ty _=>cases r;rfl
theorem aV.inj{x y:V}{u:Value}(r:aV x u)(q:aV y u):x=y:=Option.some.inj (r.abs.symm.trans q.abs)
theorem aZ.inj:∀{xs ys:List V}{us:List Value},aZ xs us->aZ ys us->xs=ys
 |_,_,_,.nil,.nil=>rfl
 |_,_,_,.cons r t,.cons r' t'=>by rw[r.inj r',aZ.inj t t']
section
variable{X:Cx}{gV:NJ}{σ:St}{H:Hp}{s:NN}{a:Addr}{xs ys:List V}
theorem aY.of{K:Frag}(h:H a=some (.lst xs)):aY K H a xs:=.inl (.inl h)
theorem cr.of{K:Frag}(h:H a=some (.tup xs)):cr K H a xs:=.inl (.inl h)
theorem aM.list(I:aM X gV σ H s)(h:aY X.K H a xs):∃its:List Value,aZ xs its/\PlainL s.heap a its.toArray/\xs.length<=sizeLine:=by
 rcases h with h|⟨o,its,n,hk,hc,hd,hs,hz,r⟩
 .obtain⟨z,its,n,r,e⟩:=h.ok I.hok;exact⟨its,r,⟨_,n,e,rfl,rfl,rfl⟩,z⟩
 .refine⟨its.toList,r,⟨o,n,I.kIn a o hk,hc,hd,by simpa using hs⟩,?_⟩;have e:=r.length;simp only[Um]at e;lia
theorem aM.tuple(I:aM X gV σ H s)(h:cr X.K H a xs):∃its:List Value,aZ xs its/\IsTup s.heap a its.toArray/\xs.length<=sizeLine:=by
 rcases h with h|⟨o,its,n,hk,hc,hs,hz,r⟩
 .obtain⟨z,its,r,p⟩:=h.ok I.hok;exact⟨its,r,p,z⟩
 .refine⟨its.toList,r,⟨o,I.kIn a o hk,hc,n,by simpa using hs⟩,?_⟩;have e:=r.length;simp only[Um]at e;lia
theorem aM.list_inj(I:aM X gV σ H s)(h:aY X.K H a xs)(h':aY X.K H a ys):xs=ys:=by
 obtain⟨its,r,⟨o,n,e,_,_,d⟩,_⟩:=I.list h;obtain⟨its',r',⟨o',n',e',_,_,d'⟩,_⟩:=I.list h';rw[e]at e';cases e';rw[d]at d';injection d' with d1 _;have:its=its':=by simpa using congrArg Array.toList d1
 subst this;exact r.inj r'
end
abbrev Cx.wish(X:Cx)(E:NI):Cx:={X with xe:=E}
abbrev Cx.nox(X:Cx):Cx:=X.wish λ_ _=>False
theorem Cx.Ok.wish{X:Cx}(ok:X.Ok)(E:NI):(X.wish E).Ok:=
 ⟨ok.mod,ok.kind,ok.glob,ok.blt,ok.above,ok.inj,ok.has,ok.cab,ok.hd,ok.frames,ok.stk,ok.exf,ok.bs,ok.bsz,ok.noex,ok.exfs,ok.funs,ok.frf⟩
theorem Cx.Ok.unwish{X:Cx}{E:NI}(ok:(X.wish E).Ok):X.Ok:=
 ⟨ok.mod,ok.kind,ok.glob,ok.blt,ok.above,ok.inj,ok.has,ok.cab,ok.hd,ok.frames,ok.stk,ok.exf,ok.bs,ok.bsz,ok.noex,ok.exfs,ok.funs,ok.frf⟩
section
variable{X:Cx}{gV:NJ}{σ:St}{H:Hp}{s:NN}{E:NI}
theorem aM.wish(I:aM X gV σ H s)(E:NI):aM (X.wish E) gV σ H s:=⟨I.ok.wish E,I.os,I.bare,I.Ny,I.loc,I.cell,I.free,I.freeC,I.pin,I.hok,I.len⟩
theorem aM.unwish(I:aM (X.wish E) gV σ H s):aM X gV σ H s:=⟨I.ok.unwish,I.os,I.bare,I.Ny,I.loc,I.cell,I.free,I.freeC,I.pin,I.hok,I.len⟩
theorem SP.unwish{D:dq}{f:Flow}{s':NN}(h:SP (X.wish E) gV D f s'):SP X gV D f s':=by
 cases f with
 |next=>obtain⟨σ',H',I,q⟩:=h;exact⟨σ',H',I.unwish,q⟩
 |brk=>obtain⟨σ',H',I,q⟩:=h;exact⟨σ',H',I.unwish,q⟩
 |cont=>obtain⟨σ',H',I,q⟩:=h;exact⟨σ',H',I.unwish,q⟩
 |ret u=>obtain⟨v,σ',H',I,r,q⟩:=h;exact⟨v,σ',H',I.unwish,r,q⟩
theorem qN.nox{st:List N6}{t:TS}(h:qN X.nox st t):qN X st t:=λgV s σ H D I hw=>
 Oq (h gV s σ H D (I.wish _) hw) (λ_ _ q=>q.unwish) λ_ _ z=>False.elim z
end
section
variable{X:Cx}{st:N6}{rest:List N6}{t u:TS}{e:N5}{te:TE}{pos:Px}
def qV:TS:=λD σ H=>D.nx σ H
def bp(t u:TS):TS:=λD σ H=>t {D with nx:=u D} σ H
theorem aJ:qN X [] qV:=λ_ _ σ H _ I h=>OY ⟨σ,H,I,h⟩
theorem af(h1:PS X st t)(h2:qN X rest u):qN X (st::rest) (bp t u):=by
 intro gV s σ H D I h;refine Qn (bU (h1 gV s σ H {D with nx:=u D} I h) λf s1 q=>?_);cases f with
 |next=>
  obtain⟨σ',H',I',q⟩:=q;exact h2 gV s1 σ' H' D I' q
 |ret v=>exact q
 |brk=>exact q
 |cont=>exact q
theorem am(h1:PS X st t):qN X [st] t:=by
 intro gV s σ H D I h;refine Qn (bU (h1 gV s σ H D I h) λf s1 q=>?_);cases f with
 |next=>exact OY q
 |ret v=>exact q
 |brk=>exact q
 |cont=>exact q
def IF:TS:=λD σ H=>D.bk σ H
theorem AT:PS X (.Break pos) IF:=λ_ _ σ H _ I h=>wpAny_Break ⟨σ,H,I,h⟩
theorem aM.quiet{gV:NJ}{σ:St}{H:Hp}{s:NN}(I:aM X gV σ H s):interactive X.env=false:=by simp[interactive,I.ok.kind]
def jD(te:TE):TS:=λD σ H=>te σ H λ_ H1=>D.nx σ H1
theorem dt(he:PE X e te)(hs:Qq e none pos.line X.env=pure false:=by rfl):PS X (.Expr e pos) (jD te):=by intro gV s σ H D I h;exact wpAny_Expr_any (bU (he gV s σ H _ I h) λv s1 ⟨x,H1,I1,r1,q1⟩=>⟨σ,H1,I1,q1⟩) I.quiet hs
def cM(te:TE):TS:=λD σ H=>te σ H D.rt
theorem aF(he:PE X e te):PS X (.Return (some e) pos) (cM te):=by intro gV s σ H D I h;exact wpAny_Return_some (bU (he gV s σ H _ I h) λv s1 ⟨x,H1,I1,r1,q1⟩=>⟨x,σ,H1,I1,r1,q1⟩)
def lU(c:TT)(t u:TS):TS:=λD σ H=>c σ H λb H1=>if b=true then t D σ H1 else u D σ H1
theorem bf{c:N5}{a b:List N6}{tc:TT}(hc:PT X c tc)(ha:qN X a t)(hb:qN X b u):PS X (.If c a b pos) (lU tc t u):=by
 intro gV s σ H D I h;refine wpAny_If (bU (hc gV s σ H _ I h) λd s1 ⟨H1,I1,q1⟩=>?_);cases d with
 |true=>exact ha gV s1 σ H1 D I1 q1
 |false=>exact hb gV s1 σ H1 D I1 q1
def As:TS:=λ_ _ _=>False
theorem fF:PS X st As:=λ_ _ _ _ _ _ h=>h.elim
theorem w6{sts:List N6}:qN X sts As:=λ_ _ _ _ _ _ h=>h.elim
end
abbrev TG:=V->St->Hp->(St->Hp->Prop)->Prop
abbrev Hz:=List V->St->Hp->(St->Hp->Prop)->Prop
def PG(X:Cx)(target:N5)(t:TG):Prop:=
 ∀(gV:NJ)(s:NN)(σ:St)(H:Hp)(v:V)(u:Value)(Q:St->Hp->Prop),aM X gV σ H s->aV v u->t v σ H Q->
  NS (NX X.prog X.w) X.A (Q6 target X.env u) (λ_ s'=>∃σ' H',aM X gV σ' H' s'/\Q σ' H') X.xe s
def Ky(X:Cx)(ts:List N5)(t:Hz):Prop:=
 ∀(gV:NJ)(s:NN)(σ:St)(H:Hp)(vs:List V)(us:List Value)(Q:St->Hp->Prop),aM X gV σ H s->aZ vs us->t vs σ H Q->
  NS (NX X.prog X.w) X.A (assignInOrder ((Pn ts X.env).map (·.2)) us) (λ_ s'=>∃σ' H',aM X gV σ' H' s'/\Q σ' H') X.xe s
abbrev Kr:=V->V->V->Hp->(Hp->Prop)->Prop
def MH(X:Cx)(t:Kr):Prop:=
 ∀(gV:NJ)(s:NN)(σ:St)(H:Hp)(o i v:V)(ov iv u:Value)(Q:Hp->Prop),aM X gV σ H s->aV o ov->aV i iv->aV v u->t o i v H Q->
  NS (NX X.prog X.w) X.A (setItem ov iv u) (λ_ s'=>∃H',aM X gV σ H' s'/\Q H') X.xe s
section
variable{X:Cx}{pos:Px}
def gName(i:Nat):TG:=λv σ H Q=>Q (σ.set i (some v)) H
theorem bN{i:Nat}{x:Str}(hN:X.N.Nodup)(hi:X.N[i]? =some x)(hx:Kz X.env.scope x)(hf:X.fn x=true\/X.env.scope.names.lookup x=some .local:=by first|exact .inl rfl|exact .inr rfl|assumption):PG X (.Name x pos) (gName i):=by intro gV s σ H v u Q I r h;exact wpAny_assign_Name (lW I hN hi hx r (λs' I'=>⟨_,H,I',h⟩) hf)
def Bz:Hz:=λvs σ H Q=>vs=[]/\Q σ H
def iT(t:TG)(u:Hz):Hz:=λvs σ H Q=>∃v r,vs=v::r/\t v σ H λσ' H'=>u r σ' H' Q
theorem jU:Ky X [] Bz:=by intro gV s σ H vs us Q I r h;obtain⟨e,h⟩:=h;subst e;cases r;exact assignInOrder_nil ⟨σ,H,I,h⟩
theorem cH{e:N5}{es:List N5}{t:TG}{u:Hz}(h1:PG X e t)(h2:Ky X es u)
  (hs:(Pn (e::es) X.env).map (·.2)=Q6 e X.env::(Pn es X.env).map (·.2):=by rfl):Ky X (e::es) (iT t u):=by
 intro gV s σ H vs us Q I r h;obtain⟨v,vr,e1,h⟩:=h;subst e1;cases r with
 |cons r rr=>
  rw[hs];refine assignInOrder_cons (bU (h1 gV s σ H _ _ _ I r h) λ_ s1 ⟨σ1,H1,I1,q1⟩=>?_);exact h2 gV s1 σ1 H1 _ _ Q I1 rr q1
def xF(K:Frag)(n:Nat)(t:Hz):TG:=λv σ H Q=>∃a xs,v=.ref a/\cr K H a xs/\xs.length=n/\t xs σ H Q
theorem Jb{es:List N5}{k:Nat}{t:Hz}{n:Nat}(hc:X.calm=true)(h:Ky X es t)
  (hn:(Pn es X.env).length=n:=by rfl) (hst:(Pn es X.env).findIdx? (·.1)=none:=by rfl):PG X (.Tuple es k pos) (xF X.K n t):=by
 intro gV s σ H v u Q I r hw;obtain⟨a,xs,e1,hq,hl,hw⟩:=hw;subst e1;cases r;obtain⟨its,rv,ht,hz⟩:=I.tuple hq;refine assign_Tuple_tuple (I.ok.hd hc) ht (by simp[hn,<-hl,rv.length]) hst λh' hx=>?_;have I1:aM X gV σ H {s with heap:=h'}:=I.kept (t':=s.toks) λb o e=>hx b o (Tk (NQ e)) e;exact h gV _ σ H xs _ Q I1 (by simpa using rv) hw
def gSub(to ti:TE)(t:Kr):TG:=λv σ H Q=>to σ H λo H1=>ti σ H1 λi H2=>t o i v H2 λH3=>Q σ H3
theorem pV{o i:N5}{to ti:TE}{t:Kr}(ho:PE X o to)(hi:PE X i ti)(hs:MH X t)
  (ha:∀v,Q6 (.Subscript o i pos) X.env v=(do
   let ov<-Qc [v] (Om o X.env)
   let iv<-Qc [v,ov] (Om i X.env)
   standAt pos
   Qc [v,ov,iv] (setItem ov iv v)
   release [v,ov,iv] []):=by intro _;rfl):PG X (.Subscript o i pos) (gSub to ti t):=by
 intro gV s σ H v u Q I r h;rw[ha];refine NK (N4 (bU (ho gV s σ H _ I h) λov s1 ⟨x,H1,I1,r1,q1⟩=>?_));refine NK (N4 (bU (hi gV s1 σ H1 _ I1 q1) λiv s2 ⟨y,H2,I2,r2,q2⟩=>?_));refine NK (QU (NK (N4 (bU (hs gV s2 σ H2 x y v ov iv u _ I2 r1 r2 r q2) λ_ s3 ⟨H3,I3,q3⟩=>?_))));exact wpAny_release ⟨σ,H3,I3,q3⟩
def tAsg(te:TE)(g:TG):TS:=λD σ H=>te σ H λx H1=>g x σ H1 D.nx
theorem kL{tg e:N5}{te:TE}{g:TG}(he:PE X e te)(hg:PG X tg g)(hs:swapsWithSole [tg] e pos.line X.env=pure false:=by rfl)(hw:swappedStores [tg] e X.env=pure none:=by rfl)
  (h1:(Pn [tg] X.env).map (·.2)=[Q6 tg X.env]:=by rfl):PS X (.Assign [tg] e pos) (tAsg te g):=by
 intro gV s σ H D I h;refine wpAny_Assign_stores (bU (he gV s σ H _ I h) λv s1 ⟨x,H1,I1,r1,q1⟩=>?_) hs hw;rw[h1];exact bU (hg gV s1 σ H1 x v _ I1 r1 q1) λ_ s2 q=>q
theorem aD{i:Nat}{x:Str}{e:N5}{te:TE}{pos':Px}(hN:X.N.Nodup)(hi:X.N[i]? =some x)(hx:Kz X.env.scope x)(he:PE X e te)(hs:Qq e (some (.Name x pos')) pos.line X.env=pure false:=by rfl)(hf:X.fn x=true\/X.env.scope.names.lookup x=some .local:=by first|exact .inl rfl|exact .inr rfl|assumption):
  PS X (.Assign [.Name x pos'] e pos) (tAsg te (gName i)):=by
 intro gV s σ H D I h;refine wpAny_Assign_Name (bU (he gV s σ H _ I h) λv s1 ⟨y,H1,I1,r1,q1⟩=>?_) hs;exact lW I1 hN hi hx r1 (λs2 I2=>⟨_,H1,I2,q1⟩) hf
end
section
variable{X:Cx}{pos:Px}
def ID(c:TT)(tb:TS):TS:=λD σ H=>∃W:Nat->St->Hp->Prop,(∃m,W m σ H)/\∀m σ H,W m σ H->
 c σ H λb H1=>if b=true then∃N:St->Hp->Prop,(∀σ' H',N σ' H'->∃m',m'<m/\W m' σ' H')/\tb {D with nx:=N,ct:=N,bk:=D.nx} σ H1 else D.nx σ H1
theorem rF{c:N5}{body:List N6}{tc:TT}{tb:TS}(hp:PassesOwn (NX X.prog X.w) X.A X.env X.xe)(hc:PT X c tc)(hb:qN X body tb):PS X (.While c body [] pos) (ID tc tb):=by
 intro gV s σ H D I h;obtain⟨W,⟨m0,w0⟩,turn⟩:=h;refine wpAny_While (codeAny_whileLoop (λn s'=>∃σ' H',aM X gV σ' H' s'/\W n σ' H') ?_ m0 ⟨σ,H,I,w0⟩);rintro n s1 ⟨σ1,H1,I1,w1⟩;refine ON hp (bU (hc gV s1 σ1 H1 _ I1 (turn n σ1 H1 w1)) λb s2 ⟨H2,I2,q2⟩=>?_);cases b with
 |true=>
  obtain⟨N,hN,q2⟩:=q2;rw[ND rfl];refine ON hp (bU (hb gV s2 σ1 H2 _ I2 q2) λf s3 q3=>?_);cases f with
  |next=>
   obtain⟨σ3,H3,I3,n3⟩:=q3;obtain⟨m',hm,w3⟩:=hN σ3 H3 n3;exact⟨m',hm,σ3,H3,I3,w3⟩
  |cont=>
   obtain⟨σ3,H3,I3,n3⟩:=q3;obtain⟨m',hm,w3⟩:=hN σ3 H3 n3;exact⟨m',hm,σ3,H3,I3,w3⟩
  |brk=>exact q3
  |ret v=>exact q3
 |false=>
  rw[NC T5];exact OY ⟨σ1,H2,I2,q2⟩
end
structure It where
 go:Nat->Hp->Prop
 yld:Nat->Hp->V->Hp->Prop
 stop:Nat->Hp->Prop
def jz(X:Cx)(gV:NJ)(H:Hp)(b:Addr):Prop:=
 H b=none/\b≠X.env.locals/\b∉X.fs/\(b∈X.ex\/X.s₀.heap.objs.size<=b)/\(∀x c,X.env.cells.lookup x=some c->c≠b)/\∀p∈X.pn++gV,p.1≠b
theorem aM.fpOk{X:Cx}{gV:NJ}{σ:St}{H H':Hp}{s:NN}{b:Addr}(I:aM X gV σ H s)(hb:s.heap.objs.size<=b)(hn:H' b=none):jz X gV H' b:=by
 refine⟨hn,Tr (To I.lt hb),I.nofs hb,.inr (Tn I.sz hb),λx c e z=>?_,λp hp z=>?_⟩
 .obtain⟨v,q⟩:=I.cell x c e;exact NG (To q.lt (by rw[z];exact hb)) (Tq _)
 .exact NG (To (NQ (I.pin p hp).1) (by rw[z];exact hb)) (Tq _)
structure Co(P:NP)(w:NT)(K:Frag)(tg:N5)(J:It)(fp:List Addr)(it:Addr)(tn:Nat->NZ->Prop):Prop where
 mem:it∈fp
 obj:∀i h,tn i h->∀b∈fp,∃o,h.get? b=some o/\∀v,o.data≠.cell v
 keep:∀i h h',tn i h->(∀b∈fp,∀o,h.get? b=some o->h'.get? b=some o)->tn i h'
 item:∀(X:Cx),X.prog=P->X.w=w->X.K=K->X.calm=true->∀(i:Nat)(gV:NJ)(s:NN)(σ:St)(H:Hp)(E:NI),aM X gV σ H s->(∀b∈fp,jz X gV H b)->tn i s.heap->J.go i H->
  NS (NX P w) X.A (Pb (.ref it)) (λr s1=>∃u,r=some u/\
   NS (NX P w) X.A (PJ tg (.ref it) u) (λ_ s2=>∃x H',aM X gV σ H' s2/\aV x u/\J.yld i H x H'/\tn (i+1) s2.heap/\∀b∈fp,H' b=none) E s1) E s
 done:∀(X:Cx),X.prog=P->X.w=w->X.K=K->X.calm=true->∀(i:Nat)(gV:NJ)(s:NN)(σ:St)(H:Hp)(E:NI),aM X gV σ H s->(∀b∈fp,jz X gV H b)->tn i s.heap->J.stop i H->
   NS (NX P w) X.A (Pb (.ref it)) (λr s1=>r=none/\aM X gV σ H s1) E s
 self:∀(A:N1)(i:Nat)(s:NN)(Q:NI)(E:NI),tn i s.heap->Q (.ref it) s->NS (NX P w) A (pyIter (.ref it)) Q E s
abbrev TI:=St->Hp->(It->Hp->Prop)->Prop
def Nq(X:Cx)(gV:NJ)(σ:St)(tg:N5)(R:It->Hp->Prop)(itv:Value)(s2:NN):Prop:=
 ∃(it:Addr)(fp:List Addr)(tn:Nat->NZ->Prop)(J:It)(H':Hp),itv=.ref it/\aM X gV σ H' s2/\Co X.prog X.w X.K tg J fp it tn/\tn 0 s2.heap/\(∀b∈fp,jz X gV H' b)/\R J H'
def PI(X:Cx)(tg iter:N5)(wi:TI):Prop:=
 ∀(gV:NJ)(s:NN)(σ:St)(H:Hp)(R:It->Hp->Prop),aM X gV σ H s->wi σ H R->
  NS (NX X.prog X.w) X.A (Om iter X.env) (λv s1=>NS (NX X.prog X.w) X.A (pyIter v) (Nq X gV σ tg R) X.xe s1) X.xe s
theorem Hm{M:Ry}{A:N1}{E:NI}{s:NN}{tg:N5}{it:Addr}{u:Value}{o:Obj}{n:String}{vs:Array Value}{Q:Unit->NN->Prop}(ho:s.heap.get? it=some o)(hc:o.cls=.type n)(hd:o.data=.fields vs)
  (hn:["enumerate","zip","dict_itemiterator","dict_reverseitemiterator","odict_iterator","itertools.zip_longest","itertools.pairwise"].contains n=false) (hQ:Q () s):NS M A (PJ tg (.ref it) u) Q E s:=by
 unfold PJ;cases tg<;>first
  |exact NL hQ
  |(cases u<;>first
    |exact NL hQ
    |(refine NK (wpAny_load ho ?_)
      rw[hc,hd];show NS M A (if(["enumerate","zip","dict_itemiterator","dict_reverseitemiterator","odict_iterator","itertools.zip_longest","itertools.pairwise"].contains n&&vs[0]? == some (QO _))=true then _ else _) Q E s;rw[NC (by intro h;rw[hn,Bool.false_and]at h;cases h)];exact NL hQ))
def Ee(K:Frag)(a:Addr):It:=
 ⟨λi H=>∃xs x,aY K H a xs/\xs[i]? =some x,λi H x H'=>H'=H/\∀xs,aY K H a xs->xs[i]? =some x,λi H=>∃xs,aY K H a xs/\xs.length<=i⟩
def KA(lo:Int)(n:Nat):It:=⟨λi _=>i<n,λi H x H'=>H'=H/\x=.int (lo+i),λi _=>n<=i⟩
theorem wK{P:NP}{w:NT}{K:Frag}{tg:N5}(a it:Addr):Co P w K tg (Ee K a) [it] it (λi h=>h.IsListIter it a i) where
 mem:=by simp
 obj:=λi h st b hb=>by
  have e:b=it:=by simpa using hb
  subst e;obtain⟨o,e,c,d⟩:=st;exact⟨o,e,λv z=>by rw[d]at z;cases z⟩
 keep:=λi h h' st k=>st.at λo e=>k it (by simp) o e
 item:=by intro X hP hw hK hc i gV s σ H E I hf st hg;subst hP hw hK;obtain⟨xs,x,hq,hx⟩:=hg;obtain⟨its,rv,p,hz⟩:=I.list hq;obtain⟨u,hu,ru⟩:=rv.get hx;obtain⟨f0,f1,f2,f3,f4,f5⟩:=hf it (by simp);refine Qu st p.isList (x:=u) (by simpa using hu) λh' st' sb=>?_;have I1:aM X gV σ H {s with heap:=h'}:=I.turned (t':=s.toks) (λb o hb e=>(sb.2 b hb).trans e) f0 f1 f3 f4 f5;obtain⟨o,e,c,d⟩:=id st';exact⟨u,rfl,Hm (s:={s with heap:=h'}) e c d (by decide) ⟨x,H,I1,ru,⟨rfl,λys hy=>by rw[I.list_inj hy hq];exact hx⟩,st',λb hb=>(hf b hb).1⟩⟩
 done:=by intro X hP hw hK hc i gV s σ H E I hf st hg;subst hP hw hK;obtain⟨xs,hq,hx⟩:=hg;obtain⟨its,rv,p,hz⟩:=I.list hq;obtain⟨f0,f1,f2,f3,f4,f5⟩:=hf it (by simp);have hl:=rv.length;exact QE (I.ok.hd hc) st p.isList (by simp;lia) λh' eb=>⟨rfl,I.turned (t':=s.toks) (λb o hb e=>eb b o hb e) f0 f1 f3 f4 f5⟩
 self:=λ_ _ _ _ _ st h=>wpAny_pyIter_listiter st h
theorem tE{P:NP}{w:NT}{K:Frag}{tg:N5}(it:Addr)(lo:Int)(n:Nat):Co P w K tg (KA lo n) [it] it (λi h=>IsRangeIter h it (lo+(i:Nat)*1) ((n:Int) - (i:Nat)) 1) where
 mem:=by simp
 obj:=λi h st b hb=>by
  have e:b=it:=by simpa using hb
  subst e;exact⟨_,st,λv z=>by
   have z':Data.fields _=Data.cell v:=z;cases z'⟩
 keep:=λi h h' st k=>k it (by simp) _ st
 item:=by intro X hP hw hK hc i gV s σ H E I hf st hg;subst hP hw hK;obtain⟨f0,f1,f2,f3,f4,f5⟩:=hf it (by simp);have W:=Walks.range (prog:=X.prog) (w:=X.w) (I.ok.hd hc) it lo 1 n;refine W.item i s _ _ hg st λv h' tk hv st' kk=>?_;obtain⟨t,rfl⟩:=hv;have I1:aM X gV σ H {s with heap:=h',toks:=tk}:=I.turned (λb o hb e=>kk b o (by simpa using hb) e) f0 f1 f3 f4 f5;refine⟨_,rfl,Hm (s:={s with heap:=h',toks:=tk}) (n:="range_iterator") st' rfl rfl (by decide) ⟨.int (lo+i),H,I1,⟨t,?_⟩,⟨rfl,rfl⟩,st',λb hb=>(hf b hb).1⟩⟩;rw[Int.mul_one]
 done:=by intro X hP hw hK hc i gV s σ H E I hf st hg;subst hP hw hK;obtain⟨f0,f1,f2,f3,f4,f5⟩:=hf it (by simp);exact wpAny_pyNext_range_end (I.ok.hd hc) st (by have:n<=i:=hg;lia) λh' eb=>⟨rfl,I.turned (t':=s.toks) (λb o hb e=>eb b o hb e) f0 f1 f3 f4 f5⟩
 self:=λ_ _ _ _ _ st h=>wpAny_pyIter_rangeiter st h
section
variable{X:Cx}{tg:N5}
def oE(K:Frag)(tl:TE):TI:=λσ H R=>tl σ H λx H1=>∃a,x=.ref a/\(∃xs,aY K H1 a xs)/\R (Ee K a) H1
theorem Dc{l:N5}{tl:TE}(hl:PE X l tl):PI X tg l (oE X.K tl):=by
 intro gV s σ H R I h;refine bU (hl gV s σ H _ I h) λv s1 ⟨x,H1,I1,r1,q1⟩=>?_;obtain⟨a,e,⟨xs,hq⟩,q⟩:=q1;subst e;cases r1;obtain⟨its,rv,p,hz⟩:=I1.list hq;refine OO p.isList ?_;refine⟨s1.heap.objs.size,[s1.heap.objs.size],_,_,H1,rfl,I1.kept (t':=s1.toks) λb o e=>NO _ e,wK a _,⟨_,NW _ rfl,rfl,rfl⟩,λb hb=>?_,q⟩;have e:b=s1.heap.objs.size:=by simpa using hb
 subst e;exact I1.fpOk (Tj _) (I1.hok.fresh (Tj _))
theorem AN{gV:NJ}{σ:St}{H:Hp}{s:NN}{R:It->Hp->Prop}{E:NI}{lo hi:Int}{t u v:Tok}{tk:Nat}(I:aM X gV σ H s)(h1: -(2 ^ 62)<=lo)(h2:lo<2 ^ 62)(h3: -(2 ^ 62)<=hi)(h4:hi<2 ^ 62)
  (q:R (KA lo (hi - lo).toNat) H):NS (NX X.prog X.w) X.A (pyIter (.ref s.heap.objs.size)) (Nq X gV σ tg R) E {s with heap:=s.heap.push {cls:=.type "range",data:=.fields #[.int lo t,.int hi u,.int 1 v]},toks:=tk}:=by
 refine wpAny_pyIter_range (IsRange.new ..) (small_one h1 h2 h3 h4) ?_;have I1:aM X gV σ H {s with heap:=s.heap.push {cls:=.type "range",data:=.fields #[.int lo t,.int hi u,.int 1 v]},toks:=tk}:=I.kept λb o e=>NO _ e;refine⟨(s.heap.push {cls:=.type "range",data:=.fields #[.int lo t,.int hi u,.int 1 v]}).objs.size,[(s.heap.push {cls:=.type "range",data:=.fields #[.int lo t,.int hi u,.int 1 v]}).objs.size],_,_,H,rfl,
  I1.kept (t':=tk) λb o e=>NO _ e,tE _ lo (hi - lo).toNat,?_,λb hb=>?_,q⟩
 .have e1:lo+((0:Nat):Int)*1=lo:=by simp
  have e2:(((hi - lo).toNat:Nat):Int) - ((0:Nat):Int)=Builtin.Range.rangeSize lo hi 1:=by rw[rangeSize_one];split<;>lia
  show IsRangeIter _ _ (lo+((0:Nat):Int)*1) ((((hi - lo).toNat:Nat):Int) - ((0:Nat):Int)) 1;rw[e1,e2];exact NW _ rfl
 .have e:b=(s.heap.push {cls:=.type "range",data:=.fields #[.int lo t,.int hi u,.int 1 v]}).objs.size:=by simpa using hb
  subst e;exact I1.fpOk (Tj _) (I1.hok.fresh (Tj _))
def mP(ta:TA):TI:=λσ H R=>ta σ H λvs H1=>∃j:Int,vs=[.int j]/\-(2 ^ 62)<=j/\j<2 ^ 62/\R (KA 0 j.toNat) H1
theorem xb{a:N5}{ta:TA}{p pos:Px}(hg:Gl X "range")(hm:X.mg "range"=none)(ha:PA X [a] ta)(hs:NU [a] X.env=[(false,Om a X.env)]:=by rfl):PI X tg (.Call (.Name "range" p) [a] [] pos) (mP ta):=by
 intro gV s σ H R I h;refine Call_ (kR I hg hm boot_range (PyProof.Rows.callWith_type1 (bU (ha pos gV s σ H _ I h) λus s1 ⟨vs,H1,I1,r1,q1⟩=>?_) hs rfl));obtain⟨j,e,q1,q2,q⟩:=q1;subst e;cases r1 with
 |cons r rr=>
  cases rr;obtain⟨t,rfl⟩:=r;exact call_range_1 (AN I1 (by lia) (by lia) q1 q2 (by simpa using q))
def tFor(wi:TI)(g:TG)(tb:TS):TS:=λD σ H=>wi σ H λJ H1=>∃W:Nat->Nat->St->Hp->Prop,(∃m,W 0 m σ H1)/\∀i m σ H,W i m σ H->
 (J.stop i H/\D.nx σ H)\/(J.go i H/\∃N:St->Hp->Prop,(∀σ' H',N σ' H'->∃m',m'<m/\W (i+1) m' σ' H')/\∀x H',J.yld i H x H'->g x σ H' λσ2 H2=>tb {D with nx:=N,ct:=N,bk:=D.nx} σ2 H2)
def iO(fp:List Addr)(h:NZ):List (Addr×Obj):=fp.filterMap λb=>(h.get? b).map λo=>(b,o)
theorem ik{fp:List Addr}{h:NZ}{b:Addr}{o:Obj}(hb:b∈fp)(e:h.get? b=some o):(b,o)∈iO fp h:=R8.mpr ⟨b,hb,by rw[e];rfl⟩
theorem og{fp:List Addr}{h:NZ}{p:Addr×Obj}(hp:p∈iO fp h):p.1∈fp/\h.get? p.1=some p.2:=by
 obtain⟨b,hb,e⟩:=R8.mp hp;cases q:h.get? b with
 |none=>rw[q]at e;cases e
 |some o=>
  rw[q]at e;have e':(b,o)=p:=Option.some.inj e;subst e';exact⟨hb,q⟩
theorem aM.pinned{gV:NJ}{σ:St}{H:Hp}{s:NN}{fp:List Addr}(I:aM X gV σ H s)(hf:∀b∈fp,jz X gV H b)(ho:∀b∈fp,∃o,s.heap.get? b=some o/\∀v,o.data≠.cell v):aM X (gV++iO fp s.heap) σ H s:=
 I.pins_of λp hp=>(RM.mp hp).elim (λz=>I.pin p (RS _ z)) λz=>by obtain⟨hb,e⟩:=og z;obtain⟨f0,f1,f2,_⟩:=hf p.1 hb;obtain⟨o,e',d⟩:=ho p.1 hb;rw[e]at e';cases e';exact⟨e,f0,f1,f2,d⟩
theorem aM.unpinned{gV pl:NJ}{σ:St}{H:Hp}{s:NN}(I:aM X (gV++pl) σ H s):aM X gV σ H s:=I.pins_of λp hp=>I.pin p (RS _ (Sc _ hp))
theorem fJ{iter:N5}{body:List N6}{wi:TI}{g:TG}{tb:TS}{pos:Px}(hp:PassesOwn (NX X.prog X.w) X.A X.env X.xe)(hc:X.calm=true)(hi:PI X tg iter wi)(hg:PG X tg g)(hb:qN X body tb)
  (hs:∀x,Pr iter X.env x=pure x:=by intro _;rfl):PS X (.For tg iter body [] pos) (tFor wi g tb):=by
 intro gV s σ H D I h;refine wpAny_For (bU (hi gV s σ H _ I h) λv s1 h1=>bU h1 λitv s2 h2=>?_) hs;obtain⟨it,fp,tn,J,H2,e,I2,T,st2,f2,W,⟨m0,w0⟩,turn⟩:=h2;subst e;have stat:∀{H':Hp},(∀b∈fp,H' b=none)->∀b∈fp,jz X gV H' b:=λhn b hb=>⟨hn b hb,(f2 b hb).2⟩;refine codeAny_forLoop_any (λn s'=>∃i σ' H',aM X gV σ' H' s'/\tn i s'.heap/\(∀b∈fp,H' b=none)/\W i n σ' H') ?_ m0 ⟨0,σ,H2,I2,st2,λb hb=>(f2 b hb).1,w0⟩;rintro n s3 ⟨i,σ3,H3,I3,st3,fr3,w3⟩
 rcases turn i n σ3 H3 w3 with⟨stop,qn⟩|⟨go,N,hN,step⟩
 .refine ON hp (bU (T.done X rfl rfl rfl hc i gV s3 σ3 H3 X.xe I3 (stat fr3) st3 stop) λr s4 ⟨hr,I4⟩=>?_);subst hr;exact OY ⟨σ3,H3,I4,qn⟩
 .refine ON hp (bU (T.item X rfl rfl rfl hc i gV s3 σ3 H3 X.xe I3 (stat fr3) st3 go) λr s4 ⟨u,hr,h4⟩=>?_);subst hr;refine ON hp (bU h4 λ_ s5 ⟨x,H5,I5,r5,y5,st5,fr5⟩=>?_);have I5':=I5.pinned (stat fr5) (T.obj _ _ st5);refine ON hp (bU (hg _ s5 σ3 H5 x u _ I5' r5 (step x H5 y5)) λ_ s6 ⟨σ6,H6,I6,q6⟩=>?_);refine ON hp (bU (hb _ s6 σ6 H6 _ I6 q6) λf s7 q7=>?_);have again:∀{σ7:St}{H7:Hp},aM X (gV++iO fp s5.heap) σ7 H7 s7->N σ7 H7->∃m,m<n/\∃i σ' H',aM X gV σ' H' s7/\tn i s7.heap/\(∀b∈fp,H' b=none)/\W i m σ' H':=λ{σ7 H7} I7 n7=>by obtain⟨m',hm,w7⟩:=hN σ7 H7 n7;refine⟨m',hm,i+1,σ7,H7,I7.unpinned,T.keep _ _ _ st5 λb hb o e=>(I7.pin (b,o) (RS _ (RS _ (ik hb e)))).1,λb hb=>?_,w7⟩;obtain⟨o,e,d⟩:=T.obj _ _ st5 b hb;exact(I7.pin (b,o) (RS _ (RS _ (ik hb e)))).2.1
  cases f with
  |next=>obtain⟨σ7,H7,I7,n7⟩:=q7;exact again I7 n7
  |cont=>obtain⟨σ7,H7,I7,n7⟩:=q7;exact again I7 n7
  |brk=>obtain⟨σ7,H7,I7,q7⟩:=q7;exact⟨σ7,H7,I7.unpinned,q7⟩
  |ret v=>obtain⟨x7,σ7,H7,I7,r7,q7⟩:=q7;exact⟨x7,σ7,H7,I7.unpinned,r7,q7⟩
end
theorem BG{K:Frag}{a:Addr}{xs:List V}{g:TG}{tb:TS}{D:dq}{σ:St}{H:Hp}(Pv:Nat->St->Hp->Prop)(h0:Pv 0 σ H)(hl:∀i σ H,i<=xs.length->Pv i σ H->aY K H a xs)
  (hs:∀i x σ H,xs[i]? =some x->Pv i σ H->g x σ H λσ2 H2=>tb {D with nx:=Pv (i+1),ct:=Pv (i+1),bk:=D.nx} σ2 H2) (hd:∀σ H,Pv xs.length σ H->D.nx σ H):
  ∃W:Nat->Nat->St->Hp->Prop,(∃m,W 0 m σ H)/\∀i m σ H,W i m σ H->
   ((Ee K a).stop i H/\D.nx σ H)\/((Ee K a).go i H/\∃N:St->Hp->Prop,(∀σ' H',N σ' H'->∃m',m'<m/\W (i+1) m' σ' H')/\∀x H',(Ee K a).yld i H x H'->g x σ H' λσ2 H2=>tb {D with nx:=N,ct:=N,bk:=D.nx} σ2 H2):=by
 refine⟨λi m σ H=>m=xs.length - i/\i<=xs.length/\Pv i σ H,⟨xs.length,by simp,Tl _,h0⟩,?_⟩;rintro i m σ H ⟨rfl,hi,p⟩;have q:=hl i σ H hi p
 by_cases hlt:i<xs.length
 .refine .inr ⟨⟨xs,xs[i],q,by simp[hlt]⟩,Pv (i+1),λσ' H' p'=>⟨xs.length - (i+1),by lia,rfl,hlt,p'⟩,λx H' y=>?_⟩;obtain⟨e,y⟩:=y;subst e;exact hs i x σ _ (y xs q) p
 .have e:i=xs.length:=by lia
  subst e;exact .inl ⟨⟨xs,q,Tj _⟩,hd σ H p⟩
theorem oG{lo:Int}{n:Nat}{g:TG}{tb:TS}{D:dq}{σ:St}{H:Hp}(Pv:Nat->St->Hp->Prop)(h0:Pv 0 σ H)
  (hs:∀i σ H,i<n->Pv i σ H->g (.int (lo+i)) σ H λσ2 H2=>tb {D with nx:=Pv (i+1),ct:=Pv (i+1),bk:=D.nx} σ2 H2) (hd:∀σ H,Pv n σ H->D.nx σ H):
  ∃W:Nat->Nat->St->Hp->Prop,(∃m,W 0 m σ H)/\∀i m σ H,W i m σ H->
   ((KA lo n).stop i H/\D.nx σ H)\/((KA lo n).go i H/\∃N:St->Hp->Prop,(∀σ' H',N σ' H'->∃m',m'<m/\W (i+1) m' σ' H')/\∀x H',(KA lo n).yld i H x H'->g x σ H' λσ2 H2=>tb {D with nx:=N,ct:=N,bk:=D.nx} σ2 H2):=by
 refine⟨λi m σ H=>m=n - i/\i<=n/\Pv i σ H,⟨n,by simp,Tl _,h0⟩,?_⟩;rintro i m σ H ⟨rfl,hi,p⟩
 by_cases hlt:i<n
 .refine .inr ⟨hlt,Pv (i+1),λσ' H' p'=>⟨n - (i+1),by lia,rfl,hlt,p'⟩,λx H' y=>?_⟩;obtain⟨e,y⟩:=y;subst e y;exact hs i σ _ hlt p
 .have e:i=n:=by lia
  subst e;exact .inl ⟨Tj _,hd σ H p⟩
abbrev R2:=V->V->Hp->VK->Prop
def iD(X:Cx)(f:Value->Value->Sem Value)(r:R2):Prop:=
 ∀(gV:NJ)(s:NN)(σ:St)(H:Hp)(x y:V)(v u:Value)(Q:VK),aM X gV σ H s->aV x v->aV y u->r x y H Q->
  NS (NX X.prog X.w) X.A (f v u) (EP X gV σ Q) X.xe s
def Np(X:Cx)(f:Value->Sem Value)(r:V->Hp->VK->Prop):Prop:=
 ∀(gV:NJ)(s:NN)(σ:St)(H:Hp)(x:V)(v:Value)(Q:VK),aM X gV σ H s->aV x v->r x H Q->
  NS (NX X.prog X.w) X.A (f v) (EP X gV σ Q) X.xe s
def bn(X:Cx)(f:Value)(r:List V->Hp->VK->Prop):Prop:=
 ∀(gV:NJ)(s:NN)(σ:St)(H:Hp)(xs:List V)(us:List Value)(Q:VK),aM X gV σ H s->aZ xs us->r xs H Q->
  NS (NX X.prog X.w) X.A (call f us) (EP X gV σ Q) X.xe s
def Lu(r:R2)(ta tb:TE):TE:=λσ H Q=>ta σ H λx H1=>tb σ H1 λy H2=>r x y H2 Q
def rI(C:Int->Int->Prop)(g:Int->Int->V):R2:=λx y H Q=>∃i j,x=.int i/\y=.int j/\C i j/\Q (g i j) H
def GW(g:Int->Int->V):R2:=λx y H Q=>∃i j,x=.int i/\y=.int j/\Q (g i j) H
def rU(g:Int->V):V->Hp->VK->Prop:=λx H Q=>∃i,x=.int i/\Q (g i) H
section
variable{X:Cx}{a b c:N5}{ta tb tc:TE}{pos:Px}
theorem Ke(ha:PE X a ta)(hb:PE X b tb){gV:NJ}{s:NN}{σ:St}{H:Hp}{R:V->V->Hp->Prop}(I:aM X gV σ H s)
  (h:ta σ H λx H1=>tb σ H1 λy H2=>R x y H2) {Q:NI} {f:Value->Value->Sem Value}
  (hf:∀v u s2 x y H2,aM X gV σ H2 s2->aV x v->aV y u->R x y H2->NS (NX X.prog X.w) X.A (f v u) Q X.xe s2):
  NS (NX X.prog X.w) X.A (Om a X.env) (λv s₁=>NS (NX X.prog X.w) X.A (Om b X.env) (λu s₂=>NS (NX X.prog X.w) X.A (f v u) Q X.xe s₂) X.xe s₁) X.xe s:=by
 refine bU (ha gV s σ H _ I h) λv s1 ⟨x,H1,I1,r1,q1⟩=>?_;refine bU (hb gV s1 σ H1 _ I1 q1) λu s2 ⟨y,H2,I2,r2,q2⟩=>?_;exact hf v u s2 x y H2 I2 r1 r2 q2
theorem GZ{op:Rl}{r:R2}(ho:iD X (OZ op) r)(ha:PE X a ta)(hb:PE X b tb):PE X (.BinOp a op b pos) (Lu r ta tb):=by intro gV s σ H Q I h;exact wpAny_BinOp (Ke ha hb I h λv u s2 x y H2 I2 rx ry q=>ho gV s2 σ H2 x y v u Q I2 rx ry q)
theorem MQ{f:Value->Value->Sem Value}{C:Int->Int->Prop}{g:Int->Int->Int}
  (rule:∀(i j:Int)(t u:Tok)(s:NN)(Q:NI)(E:NI),C i j->Q (.int (g i j) s.toks) {s with toks:=s.toks+1}->NS (NX X.prog X.w) X.A (f (.int i t) (.int j u)) Q E s):
  iD X f (rI C λi j=>.int (g i j)):=by
 intro gV s σ H x y v u Q I rx ry h;obtain⟨i,j,rfl,rfl,hc,q⟩:=h;obtain⟨t,rfl⟩:=rx;obtain⟨t',rfl⟩:=ry;exact rule i j t t' s _ _ hc ⟨.int (g i j),H,I.tok _,⟨_,rfl⟩,q⟩
theorem LS{f:Value->Value->Sem Value}{g:Int->Int->Int}
  (rule:∀(i j:Int)(t u:Tok)(s:NN)(Q:NI)(E:NI),Q (.int (g i j) s.toks) {s with toks:=s.toks+1}->NS (NX X.prog X.w) X.A (f (.int i t) (.int j u)) Q E s):
  iD X f (GW λi j=>.int (g i j)):=by
 intro gV s σ H x y v u Q I rx ry h;obtain⟨i,j,rfl,rfl,q⟩:=h;obtain⟨t,rfl⟩:=rx;obtain⟨t',rfl⟩:=ry;exact rule i j t t' s _ _ ⟨.int (g i j),H,I.tok _,⟨_,rfl⟩,q⟩
theorem Dp{f:Value->Value->Sem Value}{g:Int->Int->Bool}
  (rule:∀(i j:Int)(t u:Tok)(s:NN)(Q:NI)(E:NI),Q (.bool (g i j)) s->NS (NX X.prog X.w) X.A (f (.int i t) (.int j u)) Q E s):
  iD X f (GW λi j=>.bl (g i j)):=by
 intro gV s σ H x y v u Q I rx ry h;obtain⟨i,j,rfl,rfl,q⟩:=h;obtain⟨t,rfl⟩:=rx;obtain⟨t',rfl⟩:=ry;exact rule i j t t' s _ _ ⟨.bl (g i j),H,I,rfl,q⟩
def Kw(i j:Int):Prop:=0<j/\j<1073741824
def Kv(i j:Int):Prop:=0<=j/\j<=1000000/\i.natAbs<2 ^ 64
def Cs(i j:Int):Prop:=(-(2 ^ 64)<i/\i<2 ^ 64)\/(-(2 ^ 64)<j/\j<2 ^ 64)
theorem Cs.ok{i j:Int}(h:Cs i j):IntMulOk i j:=by
 rcases h with⟨h1,h2⟩|⟨h1,h2⟩
 .exact .of_left (intBits_le_64 h1 h2)
 .exact .of_right (intBits_le_64 h1 h2)
theorem Jn:iD X (OZ .Add) (GW λi j=>.int (i+j)):=LS λ_ _ _ _ _ _ _ q=>add_int q
theorem Jd:iD X (OZ .Sub) (GW λi j=>.int (i - j)):=LS λ_ _ _ _ _ _ _ q=>sub_int q
theorem Jg:iD X (OZ .Mult) (rI Cs λi j=>.int (i*j)):=MQ λ_ _ _ _ _ _ _ hc q=>mul_int q hc.ok
theorem Dl:iD X (OZ .FloorDiv) (rI Kw λi j=>.int (i / j)):=MQ λi j _ _ _ _ _ hc q=>by have h1:(0:Int)<j:=hc.1;have h2:j<1073741824:=hc.2;exact floordiv_int (by lia) (by rw[Int.fdiv_eq_ediv_of_nonneg i (by lia)];exact q) (.inl (PyProof.noPylong_small (by lia)))
theorem Jh:iD X (OZ .Mod) (rI (λ_ j=>0<j) λi j=>.int (i % j)):=MQ λi j _ _ _ _ _ hc q=>by have h1:(0:Int)<j:=hc;exact mod_int' (by lia) (by rw[Int.fmod_eq_emod_of_nonneg i (by lia)];exact q)
theorem Je:iD X (OZ .Pow) (rI Kv λi j=>.int (i ^ j.toNat)):=MQ λ_ _ _ _ _ _ _ hc q=>pow_int_small hc.1 hc.2.1 hc.2.2 q
theorem unI{f:Value->Sem Value}{g:Int->Int}
  (rule:∀(i:Int)(t:Tok)(s:NN)(Q:NI)(E:NI),Q (.int (g i) s.toks) {s with toks:=s.toks+1}->NS (NX X.prog X.w) X.A (f (.int i t)) Q E s):
  Np X f (rU λi=>.int (g i)):=by
 intro gV s σ H x v Q I rx h;obtain⟨i,rfl,q⟩:=h;obtain⟨t,rfl⟩:=rx;exact rule i t s _ _ ⟨.int (g i),H,I.tok _,⟨_,rfl⟩,q⟩
theorem Iz:Np X (unaryOp .USub) (rU λi=>.int (-i)):=unI λ_ _ _ _ _ q=>neg_int q
end
def scal:V->V->Bool
 | .non,.non=>true| .non,.int _=>true| .int _,.non=>true| .non,.bl _=>true| .bl _,.non=>true| .non,.str _=>true| .str _,.non=>true
 | .int _,.int _=>true| .bl _,.bl _=>true| .str _,.str _=>true| .byt _,.byt _=>true
 | .int _,.str _=>true| .str _,.int _=>true| .bl _,.str _=>true| .str _,.bl _=>true
 |_,_=>false
def rEq:R2:=λx y H Q=>scal x y=true/\Q (.bl (decide (x=y))) H
def rNe:R2:=λx y H Q=>scal x y=true/\Q (.bl (!decide (x=y))) H
theorem wq{i j:Int}:decide (V.int i=V.int j)=(i == j):=by rw[T7];simp
theorem dec_bl{i j:Bool}:decide (V.bl i=V.bl j)=(i == j):=by rw[T7];simp
theorem wp{i j:Str}:decide (V.str i=V.str j)=(i == j):=by rw[T7];simp
theorem wt{i j:Array UInt8}:decide (V.byt i=V.byt j)=(i.toList == j.toList):=by rw[T7];cases i;cases j;simp
section
variable{X:Cx}{a b c:N5}{ta tb tc:TE}{pos:Px}
theorem fin_bl{gV:NJ}{σ:St}{H:Hp}{s:NN}{Q:VK}{k k':Bool}(I:aM X gV σ H s)(q:Q (.bl k) H)(e:k=k'):EP X gV σ Q (.bool k') s:=by subst e;exact⟨.bl k,H,I,rfl,q⟩
theorem LR:iD X (Ol .Eq) rEq:=by
 intro gV s σ H x y v u Q I rx ry h;obtain⟨hs,q⟩:=h;cases x with
 |non=>
  cases rx;cases y with
  |non=>cases ry;exact PySem.EqNone.eq_none_none (fin_bl I q (by simp))
  |bl j=>cases ry;exact PySem.EqNone.eq_none_bool (fin_bl I q (by simp))
  |int j=>obtain⟨t',rfl⟩:=ry;exact PySem.EqNone.eq_none_int (fin_bl I q (by simp))
  |str j=>obtain⟨t',rfl⟩:=ry;exact PySem.EqNone.eq_none_str (fin_bl I q (by simp))
  |_=>exact NG (show false=true from hs) T5
 |bl i=>
  cases rx;cases y with
  |non=>cases ry;exact PySem.EqNone.eq_bool_none (fin_bl I q (by simp))
  |bl j=>cases ry;exact eq_bool (fin_bl I q dec_bl)
  |str j=>obtain⟨t',rfl⟩:=ry;exact PySem.EqMixed.eq_bool_str (fin_bl I q (by simp))
  |_=>exact NG (show false=true from hs) T5
 |int i=>
  obtain⟨t,rfl⟩:=rx;cases y with
  |non=>cases ry;exact PySem.EqNone.eq_int_none (fin_bl I q (by simp))
  |int j=>obtain⟨t',rfl⟩:=ry;exact eq_int (fin_bl I q wq)
  |str j=>obtain⟨t',rfl⟩:=ry;exact PySem.EqMixed.eq_int_str (fin_bl I q (by simp))
  |_=>exact NG (show false=true from hs) T5
 |str i=>
  obtain⟨t,rfl⟩:=rx;cases y with
  |non=>cases ry;exact PySem.EqNone.eq_str_none (fin_bl I q (by simp))
  |bl j=>cases ry;exact PySem.EqMixed.eq_str_bool (fin_bl I q (by simp))
  |int j=>obtain⟨t',rfl⟩:=ry;exact PySem.EqMixed.eq_str_int (fin_bl I q (by simp))
  |str j=>obtain⟨t',rfl⟩:=ry;exact eq_str (fin_bl I q wp)
  |_=>exact NG (show false=true from hs) T5
 |byt i=>
  obtain⟨t,rfl⟩:=rx;cases y with
  |byt j=>obtain⟨t',rfl⟩:=ry;exact PySem.W.eq_bytes (fin_bl I q wt)
  |_=>exact NG (show false=true from hs) T5
 |_=>cases y<;>exact NG (show false=true from hs) T5
theorem LM:iD X (Ol .NotEq) rNe:=by
 intro gV s σ H x y v u Q I rx ry h;obtain⟨hs,q⟩:=h;cases x with
 |non=>
  cases rx;cases y with
  |non=>cases ry;exact PySem.EqNone.ne_none_none (fin_bl I q (by simp))
  |bl j=>cases ry;exact PySem.EqNone.ne_none_bool (fin_bl I q (by simp))
  |int j=>obtain⟨t',rfl⟩:=ry;exact PySem.EqNone.ne_none_int (fin_bl I q (by simp))
  |str j=>obtain⟨t',rfl⟩:=ry;exact PySem.EqNone.ne_none_str (fin_bl I q (by simp))
  |_=>exact NG (show false=true from hs) T5
 |bl i=>
  cases rx;cases y with
  |non=>cases ry;exact PySem.EqNone.ne_bool_none (fin_bl I q (by simp))
  |bl j=>cases ry;exact ne_bool (fin_bl I q (congrArg not dec_bl))
  |str j=>obtain⟨t',rfl⟩:=ry;exact PySem.EqMixed.ne_bool_str (fin_bl I q (by simp))
  |_=>exact NG (show false=true from hs) T5
 |int i=>
  obtain⟨t,rfl⟩:=rx;cases y with
  |non=>cases ry;exact PySem.EqNone.ne_int_none (fin_bl I q (by simp))
  |int j=>obtain⟨t',rfl⟩:=ry;exact ne_int (fin_bl I q (congrArg not wq))
  |str j=>obtain⟨t',rfl⟩:=ry;exact PySem.EqMixed.ne_int_str (fin_bl I q (by simp))
  |_=>exact NG (show false=true from hs) T5
 |str i=>
  obtain⟨t,rfl⟩:=rx;cases y with
  |non=>cases ry;exact PySem.EqNone.ne_str_none (fin_bl I q (by simp))
  |bl j=>cases ry;exact PySem.EqMixed.ne_str_bool (fin_bl I q (by simp))
  |int j=>obtain⟨t',rfl⟩:=ry;exact PySem.EqMixed.ne_str_int (fin_bl I q (by simp))
  |str j=>obtain⟨t',rfl⟩:=ry;exact ne_str (fin_bl I q (congrArg not wp))
  |_=>exact NG (show false=true from hs) T5
 |byt i=>
  obtain⟨t,rfl⟩:=rx;cases y with
  |byt j=>obtain⟨t',rfl⟩:=ry;exact PySem.W.ne_bytes (fin_bl I q (congrArg not wt))
  |_=>exact NG (show false=true from hs) T5
 |_=>cases y<;>exact NG (show false=true from hs) T5
theorem LN:iD X (Ol .Lt) (GW λi j=>.bl (decide (i<j))):=Dp λ_ _ _ _ _ _ _ q=>lt_int q
theorem LO:iD X (Ol .LtE) (GW λi j=>.bl (decide (i<=j))):=Dp λ_ _ _ _ _ _ _ q=>le_int q
theorem LP:iD X (Ol .Gt) (GW λi j=>.bl (decide (j<i))):=Dp λ_ _ _ _ _ _ _ q=>gt_int q
theorem LQ:iD X (Ol .GtE) (GW λi j=>.bl (decide (j<=i))):=Dp λ_ _ _ _ _ _ _ q=>ge_int q
theorem xh:iD X (Ol .Lt) (λx y H Q=>∃i j,x=.str i/\y=.str j/\Q (.bl (decide (i.cps.toList<j.cps.toList))) H):=by intro gV s σ H x y v u Q I rx ry h;obtain⟨i,j,rfl,rfl,q⟩:=h;obtain⟨t,rfl⟩:=rx;obtain⟨t',rfl⟩:=ry;exact lt_str (fin_bl I q rfl)
theorem xj:iD X (Ol .In) (λx y H Q=>∃i j,x=.str i/\y=.str j/\Q (.bl (!(OC j i 0 j.length 1).isEmpty)) H):=by intro gV s σ H x y v u Q I rx ry h;obtain⟨i,j,rfl,rfl,q⟩:=h;obtain⟨t,rfl⟩:=rx;obtain⟨t',rfl⟩:=ry;exact in_str (fin_bl I q rfl)
theorem Ji:iD X (Ol .Is) (λx y H Q=>y=.non/\Q (.bl (decide (x=.non))) H):=by
 intro gV s σ H x y v u Q I rx ry h;obtain⟨rfl,q⟩:=h;cases ry;refine is_none_gen (fin_bl I q ?_);cases x<;>first
  |(cases rx;rfl)
  |(obtain⟨t,rfl⟩:=rx;rfl)
theorem Dk:iD X (Ol .IsNot) (λx y H Q=>y=.non/\Q (.bl (!decide (x=.non))) H):=by
 intro gV s σ H x y v u Q I rx ry h;obtain⟨rfl,q⟩:=h;cases ry;refine isnot_none_gen (fin_bl I q ?_);cases x<;>first
  |(cases rx;rfl)
  |(obtain⟨t,rfl⟩:=rx;rfl)
theorem pX:iD X (Ol .NotIn) (λx y H Q=>∃i j,x=.str i/\y=.str j/\Q (.bl (!(!(OC j i 0 j.length 1).isEmpty))) H):=by intro gV s σ H x y v u Q I rx ry h;obtain⟨i,j,rfl,rfl,q⟩:=h;obtain⟨t,rfl⟩:=rx;obtain⟨t',rfl⟩:=ry;exact notIn_str (fin_bl I q rfl)
theorem mI(b:N5){op:O8}(h:op≠.In:=by decide)(h2:op≠.NotIn:=by decide):behindInMarks op b=false:=by
 have e1:(op == CmpOp.In)=false:=by cases op<;>first|rfl|exact NG rfl h
 have e2:(op == CmpOp.NotIn)=false:=by cases op<;>first|rfl|exact NG rfl h2
 cases b<;>simp[behindInMarks,e1,e2]
theorem Di{op:O8}{r:R2}(ho:iD X (Ol op) r)(ha:PE X a ta)(hb:PE X b tb)(hm:behindInMarks op b=false):PE X (.Compare a [op] [b] pos) (Lu r ta tb):=by intro gV s σ H Q I h;exact wpAny_Compare1 (Ke ha hb I h λv u s2 x y H2 I2 rx ry q=>ho gV s2 σ H2 x y v u Q I2 rx ry q) hm
theorem kQ:(sizeLine:Nat)<2 ^ 63:=by rw[NR];decide
theorem ug:iD X (OZ .Add) (λx y H Q=>∃i j,x=.str i/\y=.str j/\i.length+j.length<=sizeLine/\Q (.str (i++j)) H):=by intro gV s σ H x y v u Q I rx ry h;obtain⟨i,j,rfl,rfl,hz,q⟩:=h;obtain⟨t,rfl⟩:=rx;obtain⟨t',rfl⟩:=ry;exact add_str (λt' tk=>⟨.str (i++j),H,I.tok _,⟨_,rfl⟩,q⟩) hz
theorem dL{x:V}{us:List Value}(r:aZ [x] us):∃u,us=[u]/\aV x u:=by
 cases r with
 |cons r1 r2=>cases r2;exact⟨_,rfl,r1⟩
theorem GF{x y:V}{us:List Value}(r:aZ [x,y] us):∃u w',us=[u,w']/\aV x u/\aV y w':=by
 cases r with
 |cons r1 r2=>
  cases r2 with
  |cons r3 r4=>cases r4;exact⟨_,_,rfl,r1,r3⟩
theorem xQ(hc:X.calm=true):bn X (.builtin "max") (λxs H Q=>∃i j,xs=[.int i,.int j]/\Q (.int (if j > i then j else i)) H):=by
 intro gV s σ H xs us Q I r h;obtain⟨i,j,rfl,q⟩:=h;obtain⟨u,w',rfl,⟨t,rfl⟩,⟨t',rfl⟩⟩:=GF r;refine max_two_ints (I.ok.hd hc) λh' tk k=>⟨_,H,I.kept k,?_,q⟩
 by_cases hj:j > i
 .rw[ND hj,ND hj];exact⟨_,rfl⟩
 .rw[NC hj,NC hj];exact⟨_,rfl⟩
theorem xS:bn X (.type "int") (λxs H Q=>(∃i,xs=[.int i]/\Q (.int i) H)\/∃k,xs=[.bl k]/\Q (.int (if k then 1 else 0)) H):=by
 intro gV s σ H xs us Q I r h
 rcases h with⟨i,rfl,q⟩|⟨k,rfl,q⟩
 .obtain⟨u,rfl,t,rfl⟩:=dL r;exact call_int_int ⟨.int i,H,I,⟨_,rfl⟩,q⟩
 .obtain⟨u,rfl,r1⟩:=dL r;cases r1;exact call_int_bool ⟨.int (if k then 1 else 0),H,I.tok _,⟨_,rfl⟩,q⟩
end
structure vk(h:NZ)(x dx C:Addr)(mA:NH):Prop where
 obj:h.get? x=some (UJ C dx)
 ns:h.Ns1 dx mA
 ne:dx≠x
theorem xr{h:NZ}{dx:Addr}{mA:NH}(n:h.Ns1 dx mA):∃od,h.get? dx=some od/\∀name,US name od=some (mA name):=by
 obtain⟨o,es,ep,ho,hd,hk,_,hm⟩:=n;refine⟨o,ho,λname=>?_⟩;have e:=hm name;unfold nsFind findBy at e;rw[<-Array.find?_toList]at e;unfold US;rw[hd];dsimp only;split
 .rename_i y q;rw[q]at e;exact congrArg some e
 .rename_i q;rw[q]at e;have a:es.toList.any (·.refKey)=false:=by rw[Sd];intro y hy;obtain⟨z,t,hkey⟩:=hk y (Array.mem_toList_iff.mp hy);simp[DictEntry.refKey,hkey]
  have a':¬es.toList.any (·.refKey)=true:=by rw[a];exact T5
  rw[NC a'];exact congrArg some e
theorem vk.look{h:NZ}{x dx C:Addr}{mA:NH}(I:vk h x dx C mA):∃od,PySem.W.InstAt h x (UJ C dx) C (some od)/\∀name,US name od=some (mA name):=
 let ⟨od,ho,hl⟩:=xr I.ns
 ⟨od,⟨I.obj,rfl,rfl,ho⟩,hl⟩
section
variable{prog:NP}{w:NT}{A:N1}{E:NI}{s:NN}{K:Frag}{x dx C f:Addr}{mA:NH}{name:Str}{v:Value}
theorem DM{expr:Bool}{Q:NI}(X:K.In s.heap)(I:vk s.heap x dx C mA)(hg:UL K C name=true)(hh:UM K C=true)
  (ha:Uz K (.ref C) name=some none) (hv:mA name=some v) (hv':Vh v=true) (h:Q v {s with toks:=s.toks+1}):
  NS (NX prog w) A (getAttr (.ref x) name expr) Q E s:=by
 obtain⟨od,J,hl⟩:=I.look;exact PySem.W.get_value X J (UZ hg).1 (PySem.W.findObj_own hh ha rfl (by rw[hl,hv])) hv' h
theorem By{pl:Sem Bool}{Q:Value×List Value->NN->Prop}(X:K.In s.heap)(I:vk s.heap x dx C mA)(hg:UL K C name=true)
  (hf:Uz K (.ref C) name=some (some (.ref f))) (ht:UG K (.ref f)=true) (hv:mA name=none) (h:Q (.ref f,[.ref x]) s):
  NS (NX prog w) A (getMethod (.ref x) name pl) Q E s:=by
 obtain⟨od,J,hl⟩:=I.look;exact PySem.W.method_fn X J (UZ hg).1 (UZ hg).2 hf (beq_iff_eq.mp ht) (by show(US name od).map (·.isSome)=some false;rw[hl,hv];rfl) h
theorem C7{ns:List Str}{Q:Unit->NN->Prop}(X:K.In s.heap)(I:vk s.heap x dx C mA)
  (hs:Uz K (.ref C) "__setattr__"=some (some (.builtin "object.__setattr__"))) (hp:UT K C=true) (ht:U0 K C name=some none) (hh:UM K C=true)
  (hw:PySem.Within mA ns) (hsz:ns.length<=sizeLine)
  (h:∀h',vk h' x dx C (λy=>if y=name then some v else mA y)->Oz dx s.heap h'->Q () {s with heap:=h',toks:=s.toks+2}):
  NS (NX prog w) A (setAttr (.ref x) name v) Q E s:=by
 obtain⟨od,J,hl⟩:=I.look;refine PySem.W.set_plain X J hs (PySem.W.osa_open (s:={s with toks:=s.toks+1}) (r:=none) X J hp ht λb=>?_);obtain⟨cd,hc,hd'⟩:=PySem.W.any_some hh;have hx:s.heap.get? x=some ⟨.ref C,some dx,.plain,#[]⟩:=I.obj;refine NK (NL (NK (NK (wpAny_loadPart hx (NK (PySem.W.Looks.here (s:={s with toks:=s.toks+1}) (PySem.W.looks_clsIn X hc) ?_))))));rw[hd'];refine NL (a:=some dx) (NK (NL (NK ?_)));refine wpAny_nsSet1 (s:={s with toks:=s.toks+1}) I.ns λh' hn2 hs2=>?_;obtain⟨oD,esD,epD,hoD,hdD,hcD⟩:=hn2.count (PySem.Within.cons name v hw);refine NK (wpAny_lookBehind hoD (by rw[hdD];exact pastItsLine_dict (Tn hcD (by rw[RR];lia))) ?_);exact NL (h _ ⟨(hs2.2 _ (Ne.symm I.ne)).trans I.obj,hn2,I.ne⟩ hs2)
theorem Bc{R:Ra->NN->Prop}{vs:List Value}{kw:List (Str×Value)}(X:K.In s.heap)(hm:UU K C=true)
  (hi:Uz K (.ref C) "__init__"=some (some (.ref f))) (hf:PySem.W.typeIn K (.ref f)=some (.type "function"))
  (h:O7 (NX prog w) (A.under (.builtin "type.__call__" ⟨.ref C::vs,kw⟩)) (.call (.ref f) ⟨.ref (s.heap.objs.size+1)::vs,kw⟩) (PySem.W.InitBack (s.heap.objs.size+1) R)
   {s with heap:=(s.heap.push UH).push (UJ C s.heap.objs.size)}):
  O7 (NX prog w) A (.call (.ref C) ⟨vs,kw⟩) R s:=by
 obtain⟨hh,g,d,t,os⟩:=s;exact PySem.W.make_core (PySem.W.makes_of X hm) (PySem.W.looks_findIn X hi) (λself=>PySem.W.bind_fn X self hf) (.inl rfl) h
end
noncomputable def putF(f:Str)(v:V):List (Str×V)->List (Str×V)
 | []=>[(f,v)]
 |(g,x)::r=>if g=f then(g,v)::r else(g,x)::putF f v r
theorem aB(f g:Str)(v:V):∀fs:List (Str×V),(putF f v fs).lookup g=if g=f then some v else fs.lookup g
 | []=>by
   show List.lookup g [(f,v)]=_
   by_cases h:g=f
   .have hb:(g == f)=true:=beq_iff_eq.mpr h;simp only[List.lookup,hb,ND h]
   .have hb:(g == f)=false:=beq_eq_false_iff_ne.mpr h;simp only[List.lookup,hb,NC h]
 |(k,x)::r=>by
  have ih:=aB f g v r;rw[show putF f v ((k,x)::r)=(if k=f then(k,v)::r else(k,x)::putF f v r)from rfl]
  by_cases hk:k=f
  .rw[ND hk]
   by_cases h:g=k
   .have hb:(g == k)=true:=beq_iff_eq.mpr h;simp only[List.lookup,hb,ND (h.trans hk)]
   .have hb:(g == k)=false:=beq_eq_false_iff_ne.mpr h;simp only[List.lookup,hb,NC (λe:g=f=>h (e.trans hk.symm))]
  .rw[NC hk]
   by_cases h:g=k
   .have hb:(g == k)=true:=beq_iff_eq.mpr h;simp only[List.lookup,hb,NC (λe:g=f=>hk (h.symm.trans e))]
   .have hb:(g == k)=false:=beq_eq_false_iff_ne.mpr h;simp only[List.lookup,hb];exact ih
theorem kS(f:Str)(v:V):∀fs:List (Str×V),f∈(putF f v fs).map (·.1)/\∀g,g∈fs.map (·.1)->g∈(putF f v fs).map (·.1)
 | []=>⟨by simp[putF],λg h=>by simp at h⟩
 |(k,x)::r=>by
  obtain⟨i1,i2⟩:=kS f v r;rw[show putF f v ((k,x)::r)=(if k=f then(k,v)::r else(k,x)::putF f v r)from rfl]
  by_cases hk:k=f
  .rw[ND hk];subst hk;exact⟨by simp,λg h=>by simpa using h⟩
  .rw[NC hk];refine⟨?_,λg h=>?_⟩
   .rw[RY];exact RF _ i1
   .rw[RY]at h ⊢
    rcases RB.mp h with e|e
    .exact RB.mpr (.inl e)
    .exact RF _ (i2 g e)
theorem bV(f:Str)(v:V):∀fs:List (Str×V),(putF f v fs).length<=fs.length+1
 | []=>by simp[putF]
 |(k,x)::r=>by
  have ih:=bV f v r;rw[show putF f v ((k,x)::r)=(if k=f then(k,v)::r else(k,x)::putF f v r)from rfl]
  by_cases hk:k=f
  .rw[ND hk,RR,RR];lia
  .rw[NC hk,RR,RR];lia
theorem lb.some_of{v:V}{o:Option Value}(r:lb (some v) o):∃u,o=some u/\aV v u:=by
 cases o with
 |none=>exact(show False from r).elim
 |some u=>exact⟨u,rfl,r⟩
theorem lb.none_of{o:Option Value}(r:lb none o):o=none:=by
 cases o with
 |none=>rfl
 |some u=>exact(show False from r).elim
theorem xE{v:V}{u:Value}(r:aV v u):Vh u=true:=by
 cases v with
 |non=>cases(show u=OE from r);rfl
 |bl b=>cases(show u=Q8 b from r);rfl
 |int i=>obtain⟨t,e⟩:=(show∃t,u=Pf i t from r);cases e;rfl
 |str x=>obtain⟨t,e⟩:=(show∃t,u=Pz x t from r);cases e;rfl
 |byt b=>obtain⟨t,e⟩:=(show∃t,u=Value.bytes b t from r);cases e;rfl
 |flt b=>obtain⟨t,e⟩:=(show∃t,u=Value.float b t from r);cases e;rfl
 |ref a=>cases(show u=NY a from r);rfl
 |ty n=>cases(show u=P2 n from r);rfl
section
variable{P:NP}{w:NT}{H H':Hp}{h h':NZ}{a C dx:Addr}{fs fs':List (Str×V)}
theorem lP(hok:jC P w H h)(e:H a=some (.ins C dx fs)):∃mA,vk h a dx C mA/\(∀f,lb (fs.lookup f) (mA f))/\PySem.Within mA (fs.map (·.1))/\fs.length<=1000/\H dx=some (.own a):=by obtain⟨d,z,ne,ob,mA,n,r,q⟩:=(show bH P w H h a (.ins C dx fs)from hok a _ e);exact⟨mA,⟨ob,n,ne⟩,r,q,z,d⟩
end
structure tu(K:Frag)(C:Addr):Prop where
 pg:UL K C O5=true
 hd:UM K C=true
 po:UT K C=true
 sa:Uz K (.ref C) "__setattr__"=some (some (.builtin "object.__setattr__"))
theorem tu.get{K:Frag}{C:Addr}(c:tu K C)(f:Str):UL K C f=true:=c.pg
def cm(K:Frag)(C:Addr)(f:Str):Prop:=Uz K (.ref C) f=some none
theorem cm.taker{K:Frag}{C:Addr}{f:Str}(n:cm K C f):U0 K C f=some none:=by unfold U0;rw[show Uz K (.ref C) f=some none from n];rfl
structure MI(K:Frag)(C:Addr)(m:Str)(f:Addr):Prop where
 at_:Uz K (.ref C) m=some (some (.ref f))
 fn:UG K (.ref f)=true
 kp:UF K (.ref f)=true
section
variable{X:Cx}{gV:NJ}{σ:St}{H:Hp}{s:NN}{a C dx:Addr}{fs:List (Str×V)}{f:Str}{v:V}{A:N1}{E:NI}
theorem uK{b:Bool}{Q:NI}(I:aM X gV σ H s)(e:H a=some (.ins C dx fs))(c:tu X.K C)(n:cm X.K C f)(l:fs.lookup f=some v)
  (h:∀u s',aM X gV σ H s'->aV v u->Q u s'):NS (NX X.prog X.w) A (getAttr (.ref a) f b) Q E s:=by
 obtain⟨mA,O,r,_,_,_⟩:=lP I.hok e;obtain⟨u,hu,ru⟩:=lb.some_of (v:=v) (o:=mA f) (by rw[<-l];exact r f);exact DM I.kIn O (c.get f) c.hd n hu (xE ru) (h u _ (I.tok _) ru)
theorem uJ{m:Str}{g:Addr}{pl:Sem Bool}{Q:Value×List Value->NN->Prop}(I:aM X gV σ H s)(e:H a=some (.ins C dx fs))(c:tu X.K C)(k:MI X.K C m g)(l:fs.lookup m=none)
  (h:Q (.ref g,[.ref a]) s):NS (NX X.prog X.w) A (getMethod (.ref a) m pl) Q E s:=by
 obtain⟨mA,O,r,_,_,_⟩:=lP I.hok e;have hn:mA m=none:=lb.none_of (by rw[<-l];exact r m);exact By I.kIn O (c.get m) k.at_ k.fn hn h
theorem tS{y:V}{u:Value}{Q:Unit->NN->Prop}(I:aM X gV σ H s)(e:H a=some (.ins C dx fs))(c:tu X.K C)(n:cm X.K C f)(hl:fs.length<1000)(ry:aV y u)
  (h:∀s',aM X gV σ (upd H a (.ins C dx (putF f y fs))) s'->Q () s'):NS (NX X.prog X.w) A (setAttr (.ref a) f u) Q E s:=by
 obtain⟨mA,O,r,wi,_,ho⟩:=lP I.hok e;have hz:(fs.map (·.1)).length<=sizeLine:=by rw[Rz,NR];lia
 refine C7 I.kIn O c.sa c.po n.taker c.hd wi hz λh' O' sb=>h _ ?_;have hd:∃o,h'.get? dx=some o:=let ⟨o,_,_,e',_⟩:=O'.ns;⟨o,e'⟩;refine I.write (x:=a) (e:=dx) (by rw[e];exact True.intro) (.inr ho) (λb q hb z=>(sb.2 b hb).trans z) hd ?_;refine⟨by rw[av O.ne];exact ho,?_,O.ne,O'.obj,_,O'.ns,λg=>?_,λg hg=>?_⟩
 .have:=bV f y fs;lia
 .show lb ((putF f y fs).lookup g) (if g=f then some u else mA g);rw[aB]
  by_cases q:g=f
  .rw[ND q,ND q];exact ry
  .rw[NC q,NC q];exact r g
 .by_cases q:g=f
  .rw[q];exact(kS f y fs).1
  .refine(kS f y fs).2 g (wi g λz=>hg ?_);show(if g=f then some u else mA g)=none;rw[NC q];exact z
theorem aM.made(I:aM X gV σ H s):aM X gV σ (upd (upd H s.heap.objs.size (.own (s.heap.objs.size+1))) (s.heap.objs.size+1) (.ins C s.heap.objs.size []))
  {s with heap:=(s.heap.push UH).push (UJ C s.heap.objs.size)}:=by
 have e1:(s.heap.push UH).get? s.heap.objs.size=some UH:=NW s.heap rfl;have e2:((s.heap.push UH).push (UJ C s.heap.objs.size)).get? (s.heap.objs.size+1)=some (UJ C s.heap.objs.size):=by
  have:=NW (s.heap.push UH) (o:=UJ C s.heap.objs.size) rfl
  rwa[Op]at this
 have e3:(s.heap.push UH).Ns s.heap.objs.size (λ_=>none):=⟨UH,#[],_,e1,rfl,(λe he=>NG he (by simp)),λ_=>rfl⟩;have I1:=I.laid (a:=s.heap.objs.size) (o:=.own (s.heap.objs.size+1)) (h':=s.heap.push UH) (t':=s.toks) (λb u q=>NO _ q) (Tj _) ⟨_,e1⟩;refine I1.laid (a:=s.heap.objs.size+1) (o:=.ins C s.heap.objs.size []) (t':=s.toks) (λb u q=>NO _ q) (Tu (Op _ _)) ?_;have ne:s.heap.objs.size≠s.heap.objs.size+1:=Tk (Tz _);refine⟨by rw[av ne,ah],Tl _,ne,e2,λ_=>none,(Heap.Ns1.of_empty e3).at λo q=>NO _ q,λ_=>True.intro,λy hy=>NG rfl hy⟩
theorem Ec{prog:NP}{w:NT}{env:QK}{e:N5}{f:Str}{pos:Px}{s:NN}{Q:NI}(hb:Ot e f env (Om e env)=Om e env)
  (h:NS (NX prog w) A (Om e env) (λo s₁=>NS (NX prog w) A (getAttr o f true) Q E s₁) E s):NS (NX prog w) A (Om (.Attribute e f pos) env) Q E s:=
 Attribute_any_ h (by rw[arm_eval_Attribute,hb])
end
def wV(K:Frag)(ta tv:TE)(f:Str):TS:=λD σ H=>tv σ H λy H1=>ta σ H1 λx H2=>∃a C dx fs,x=.ref a/\H2 a=some (.ins C dx fs)/\tu K C/\cm K C f/\fs.length<1000/\
 D.nx σ (upd H2 a (.ins C dx (putF f y fs)))
section
variable{X:Cx}{o e value:N5}{f:Str}{pos pos' tpos:Px}{ta tv:TE}
theorem Ja(ha:PE X o ta)(hv:PE X value tv)(hs:Qq value (some (.Attribute o f pos')) pos.line X.env=pure false):PS X (.Assign [.Attribute o f pos'] value pos) (wV X.K ta tv f):=by intro gV s σ H D I h;refine plainObj_wpAny_Assign_Attribute (bU (hv gV s σ H _ I h) λu s1 ⟨y,H1,I1,ry,q⟩=>bU (ha gV s1 σ H1 _ I1 q) λov s2 ⟨x,H2,I2,rx,a,C,dx,fs,ex,ea,c,n,l,q2⟩=>?_) hs;subst ex;obtain rfl:ov=NY a:=rx;exact tS I2 ea c n l ry λs3 I3=>⟨σ,_,I3,q2⟩
end
section
variable{X:Cx}{gV:NJ}{σ:St}{H:Hp}{s:NN}{A:N1}{E:NI}{Q:NI}{c:Value}{b:Bool}
inductive k4(K:Frag)(H:Hp):V->Value->Prop where
 |non:k4 K H .non (.type "NoneType")
 |bl (x:Bool):k4 K H (.bl x) (.type "bool")
 |int (i:Int):k4 K H (.int i) (.type "int")
 |str (x:Str):k4 K H (.str x) (.type "str")
 |flt (x:UInt64):k4 K H (.flt x) (.type "float")
 |lst {a:Addr} {xs:List V} (e:H a=some (.lst xs)):k4 K H (.ref a) (.type "list")
 |frz {a:Addr} {o:Obj} {xs:List V} (e:H a=some (.frz o (.lst xs))):k4 K H (.ref a) (.type "list")
 |tup {a:Addr} {xs:List V} (e:H a=some (.tup xs)):k4 K H (.ref a) (.type "tuple")
 |dK {a:Addr} {kvs:List (Key×V)} (e:H a=some (.dK kvs)):k4 K H (.ref a) (.type "dict")
 |dT {a:Addr} {kvs:List (List Key×V)} (e:H a=some (.dT kvs)):k4 K H (.ref a) (.type "dict")
 |ins {a C dx:Addr} {fs:List (Str×V)} (e:H a=some (.ins C dx fs)) (cl:tu K C) (ha:Uz K (.ref C) "__class__"=some (some (.builtin "object.__class__")))
   (hn:Vi K (.builtin "object.__class__") "__get__"=some (some (.builtin "getset_descriptor.__get__"))) (htk:Vj K (.builtin "object.__class__")=some true)
   (hm:UN K C (.type "object")=some true):k4 K H (.ref a) (.ref C)
theorem xC{x:V}{u t:Value}(I:aM X gV σ H s)(rx:aV x u)(ty:k4 X.K H x t)(e:UB X.K t c=some b)(h:∀tk,Q (.bool b) {s with toks:=tk}):
  NS (NX X.prog X.w) A (call (.builtin "isinstance") [u,c]) Q E s:=by
 cases ty with
 |non=>cases(show u=OE from rx);exact UD PySem.W.kitx_none I.kIn True.intro e (λz=>nomatch z) h
 |bl y=>cases(show u=Q8 y from rx);exact UD PySem.W.kitx_bool I.kIn True.intro e (λz=>nomatch z) h
 |int i=>obtain⟨t,q⟩:=(show∃t,u=Pf i t from rx);cases q;exact UD PySem.W.kitx_int I.kIn True.intro e (λz=>nomatch z) h
 |str y=>obtain⟨t,q⟩:=(show∃t,u=Pz y t from rx);cases q;exact UD PySem.W.kitx_str I.kIn True.intro e (λz=>nomatch z) h
 |flt y=>obtain⟨t,q⟩:=(show∃t,u=Value.float y t from rx);cases q;exact UD PySem.W.kitx_float I.kIn True.intro e (λz=>nomatch z) h
 | @lst a xs ea=>
   cases(show u=NY a from rx);obtain⟨_,_,n,_,h1⟩:=(show bH X.prog X.w H s.heap a (.lst xs)from I.hok a _ ea);exact UD Vk I.kIn ⟨_,h1,rfl⟩ e (λz=>nomatch z) h
 | @frz a ob xs ea=>
   cases(show u=NY a from rx);obtain⟨_,_,_,n,_,h1⟩:=(show bH X.prog X.w H s.heap a (.frz ob (.lst xs))from I.hok a _ ea);exact UD Vk I.kIn ⟨_,h1,rfl⟩ e (λz=>nomatch z) h
 | @tup a xs ea=>
   cases(show u=NY a from rx);obtain⟨_,_,_,p⟩:=(show bH X.prog X.w H s.heap a (.tup xs)from I.hok a _ ea);obtain⟨o,h1,h2,_⟩:=p;exact UD PySem.W.kitx_tuple I.kIn ⟨o,h1,h2⟩ e (λz=>nomatch z) h
 | @dK a kvs ea=>
   cases(show u=NY a from rx);obtain⟨_,_,vs,_,p⟩:=(show bH X.prog X.w H s.heap a (.dK kvs)from I.hok a _ ea);obtain⟨o,es,ep,h1,h2,_⟩:=p;exact UD Vl I.kIn ⟨o,h1,h2.1⟩ e (λz=>nomatch z) h
 | @dT a kvs ea=>
   cases(show u=NY a from rx);obtain⟨_,_,xs,_,o,es,ep,h1,h2,_⟩:=(show bH X.prog X.w H s.heap a (.dT kvs)from I.hok a _ ea);exact UD Vl I.kIn ⟨o,h1,h2.1⟩ e (λz=>nomatch z) h
 | @ins a C dx fs ea cl ha hn htk hm=>
   cases(show u=NY a from rx);obtain⟨mA,O,_⟩:=lP I.hok ea;obtain⟨od,J,_⟩:=O.look;exact UD (PySem.W.kitx_own (cl.get _) cl.hd ha hn htk hm) I.kIn J e (λz=>nomatch z) h
end
structure cI(k:Nat)(A:N1):Prop where
 hd:A.handled=none
 dp:A.depth+3*k+5<PY
 un:A.units+16*k+200<OH
theorem cI.mono{j k:Nat}{A:N1}(r:cI k A)(h:j<=k):cI j A:=⟨r.hd,by have:=r.dp;lia,by have:=r.un;lia⟩
theorem cI.deeper{k:Nat}{A:N1}(r:cI (k+1) A)(env:QK):cI k (A.deeper env):=
 ⟨r.hd,by have:=r.dp;show A.depth+1+3*k+5<_;lia,by have:=r.un;show A.units+3+16*k+200<_;lia⟩
theorem uA{A:N1}{C:Addr}{us:List Value}{kw:List (Str×Value)}:(A.under (.builtin "type.__call__" ⟨.ref C::us,kw⟩)).depth=A.depth+1:=by
 first|rfl|simp[Ro,Code.weight,Code.isCreation,Code.isGuard,Code.isCaller,Code.frames,Rn,guardIds]
theorem uz{A:N1}{C:Addr}{us:List Value}{kw:List (Str×Value)}:(A.under (.builtin "type.__call__" ⟨.ref C::us,kw⟩)).units=A.units+1:=by
 first|rfl|simp[Ro,Code.cUnits,Code.frames,Rn]
theorem cI.make{k:Nat}{A:N1}(r:cI (k+1) A)(C:Addr)(us:List Value)(kw:List (Str×Value)):cI k (A.under (.builtin "type.__call__" ⟨.ref C::us,kw⟩)):=
 ⟨r.hd,by have:=r.dp;rw[uA];lia,by have:=r.un;rw[uz];lia⟩
theorem cI.depth{k:Nat}{A:N1}(r:cI k A):A.depth<PY:=by have:=r.dp;lia
theorem cI.units{k:Nat}{A:N1}(r:cI k A):A.units+64<OH:=by have:=r.un;lia
def df:TA:=λ_ H Q=>Q [] H
def bx(ta:TE)(tr:TA):TA:=λσ H Q=>ta σ H λx H1=>tr σ H1 λxs H2=>Q (x::xs) H2
section
variable{X:Cx}{e:N5}{es:List N5}{te:TE}{t:TA}{pos:Px}
theorem pa_nil:PA X [] df:=λ_ _ _ _ H Q I h=>Calls.spliced_nil ⟨[],H,I,.nil,h⟩
theorem pa_cons(ha:PE X e te)(hr:PA X es t)(hs:NU (e::es) X.env=(false,Om e X.env)::NU es X.env:=by rfl):PA X (e::es) (bx te t):=by intro pos gV s σ H Q I h;rw[hs];show NS _ _ (spliced ((false,Om e X.env)::Oh pos (NU es X.env))) _ _ s;refine Calls.spliced_cons (bU (ha gV s σ H _ I h) λu s1 ⟨x,H1,I1,r1,q1⟩=>?_);exact bU (hr pos gV s1 σ H1 _ I1 q1) λus s2 ⟨xs,H2,I2,r2,q2⟩=>⟨x::xs,H2,I2,.cons r1 r2,q2⟩
def Ar(t:TA):TE:=λσ H Q=>t σ H λxs H1=>xs.length<=sizeLine/\∀p,H1 p=none->Q (.ref p) (upd H1 p (.tup xs))
def wL(t:TA):TE:=λσ H Q=>t σ H λxs H1=>xs.length<=sizeLine/\∀p,H1 p=none->Q (.ref p) (upd H1 p (.lst xs))
theorem ce{x1}(h:PA X es t):PE X (.Tuple es x1 pos) (Ar t):=by intro gV s σ H Q I hq;refine wpAny_Tuple_spliced (bU (h pos gV s σ H _ I hq) λus s1 ⟨xs,H1,I1,r,z,q⟩=>⟨by rw[<-r.length];exact z,?_⟩);have hf:H1 s1.heap.objs.size=none:=I1.hok.fresh (Tj _);refine⟨.ref s1.heap.objs.size,upd H1 s1.heap.objs.size (.tup xs),I1.laid (t':=s1.toks) (λb u e=>NO _ e) (Tj _) ?_,rfl,q _ hf⟩;exact⟨z,us,r,⟨_,NW _ rfl,rfl,_,rfl⟩⟩
theorem bi(h:PA X es t):PE X (.List es pos) (wL t):=by intro gV s σ H Q I hq;refine wpAny_List_spliced (bU (h pos gV s σ H _ I hq) λus s1 ⟨xs,H1,I1,r,z,q⟩=>⟨by rw[<-r.length];exact z,?_⟩);have hf:H1 s1.heap.objs.size=none:=I1.hok.fresh (Tj _);refine⟨.ref s1.heap.objs.size,upd H1 s1.heap.objs.size (.lst xs),I1.laid (t':=s1.toks) (λb u e=>NO _ e) (Tj _) ?_,rfl,q _ hf⟩;exact⟨z,us,0,r,NW _ rfl⟩
end
abbrev Sp:=List V->Hp->VK->XK->Prop
abbrev wE:=List QK->Hp->NN->XK->Value->NN->Prop
structure qP(P:NP)(w:NT)(K:Frag)(mg:NH)(Ny:NZ)(A:N1)(Nz:List QK)(s:NN)(H:Hp):Prop where
 frames:A.frames=some Nz
 mod:Mod K mg Ny
 bs:∀b o,Ny.get? b=some o->s.heap.get? b=some o/\H b=none
 bsz:Ny.objs.size<=s.heap.objs.size
 funs:s.heap.FunFrames Ny Nz
 frf:∀b∈jA Nz,H b=none
 hok:jC P w H s.heap
 bare:PD s.gens
def CE(Nz:List QK)(P:NP)(w:NT)(H:Hp)(s:NN)(Q:VK)(u:Value)(s':NN):Prop:=
 ∃v H',s'.os=s.os/\PD s'.gens/\Un (jA Nz) [] H H' s.heap s'.heap/\jC P w H' s'.heap/\aV v u/\Q v H'
def CR(CX:wE)(Nz:List QK)(P:NP)(w:NT)(H:Hp)(s:NN)(Q:VK)(E:XK)(r:Ra)(s':NN):Prop:=
 match r with
 | .ok (.ret u)=>CE Nz P w H s Q u s'
 | .ok _=>False
 | .error e=>CX Nz H s E e s'
structure bg(P:NP)(w:NT)(K:Frag)(mg:NH)(Ny:NZ)(CX:wE)(k:Nat)(f:Addr)(fd:NV)(ps:List Str)(sp:Sp):Prop where
 len:∀vs H Q E,sp vs H Q E->vs.length=ps.length
 run:∀(A:N1)(Nz:List QK)(s:NN)(H:Hp)(args:Args)(us:List Value)(vs:List V)(Q:VK)(E:XK),cI k A->qP P w K mg Ny A Nz s H->QT s fd args (ps.zip us)->aZ vs us->sp vs H Q E->
  O7 (NX P w) A (.call (.ref f) args) (CR CX Nz P w H s Q E) s
theorem bg.imp{P:NP}{w:NT}{K:Frag}{mg:NH}{Ny:NZ}{CX:wE}{k:Nat}{f:Addr}{fd:NV}{ps:List Str}{sp sp':Sp}(F:bg P w K mg Ny CX k f fd ps sp)
  (h:∀vs H Q E,sp' vs H Q E->sp vs H Q E):bg P w K mg Ny CX k f fd ps sp':=
 ⟨λvs H Q E q=>F.len vs H Q E (h _ _ _ _ q),λA Nz s H args us vs Q E hr he hb hv hs=>F.run A Nz s H args us vs Q E hr he hb hv (h _ _ _ _ hs)⟩
theorem qP.make{P:NP}{w:NT}{K:Frag}{mg:NH}{Ny:NZ}{A:N1}{Nz:List QK}{s:NN}{H:Hp}(e:qP P w K mg Ny A Nz s H)(C:Addr)(us:List Value)(kw:List (Str×Value)):
  qP P w K mg Ny (A.under (.builtin "type.__call__" ⟨.ref C::us,kw⟩)) Nz s H:=⟨by first|exact e.frames|(simpa[Ro,Code.envs,Rn,pushEnvs]using e.frames),e.mod,e.bs,e.bsz,e.funs,e.frf,e.hok,e.bare⟩
section
variable{X:Cx}{gV:NJ}{σ:St}{H:Hp}{s s':NN}
theorem aM.env0(I:aM X gV σ H s):qP X.prog X.w X.K X.mg X.Ny X.A X.stack s H:=
 ⟨I.ok.frames,I.ok.mod,I.bs,Tn I.ok.bsz I.sz,I.stack,I.stkFree,I.hok,I.bare⟩
theorem aM.after{Q:VK}{u:Value}(I:aM X gV σ H s)(h:CE X.stack X.prog X.w H s Q u s'):EP X gV σ Q u s':=by obtain⟨v,H',os,bare,un,hok,r,q⟩:=h;obtain⟨hh,g,d,t,os'⟩:=s';obtain rfl:os'=s.os:=os;exact⟨v,H',I.call (h':=hh) (g':=g) (d':=d) (t':=t) (ch:=[]) un hok bare (λb z=>NG z (by simp)),r,q⟩
end
def Au(sp:Sp)(dvs:List V)(E:XK)(t:TA):TE:=λσ H Q=>t σ H λvs H1=>sp (vs++dvs) H1 Q E
def At(C:Addr)(sp:Sp)(dvs:List V)(E:XK)(t:TA):TE:=λσ H Q=>t σ H λvs H1=>∀x dx,H1 x=none->H1 dx=none->dx≠x->
 sp (.ref x::(vs++dvs)) (upd (upd H1 dx (.own x)) x (.ins C dx [])) (λv H2=>v=.non/\Q (.ref x) H2) E
def gG(K:Frag)(fd:NV)(ps:List Str)(ds:List Value):Prop:=
 ∀(s:NN)(us:List Value),K.In s.heap->(us++ds).length=ps.length->QT s fd ⟨us,[]⟩ (ps.zip (us++ds))
theorem gG.all{K:Frag}{fd:NV}{ps:List Str}(h:∀us:List Value,us.length=ps.length->bindArgs fd ⟨us,[]⟩=pure (ps.zip us)):gG K fd ps []:=λs us _ hl=>by rw[RP]at hl ⊢;exact .of_eq (h us hl)
def m8(CX:wE)(X:Cx)(E:XK):Prop:= ∀(gV:NJ)(σ:St)(H:Hp)(s:NN)(e:Value)(s':NN),aM X gV σ H s->CX X.stack H s E e s'->X.xe e s'
section
variable{X:Cx}{CX:wE}{k:Nat}{f C:Addr}{fd:NV}{ps:List Str}{sp:Sp}{dvs:List V}{ds:List Value}{E:XK}{x m:Str}{p pos apos:Px}{e o:N5}{es:List N5}{ta:TE}{t:TA}
theorem AM{gV:NJ}{σ:St}{H:Hp}{s:NN}{Q:VK}{us:List Value}{vs:List V}(F:bg X.prog X.w X.K X.mg X.Ny CX k f fd ps sp)(hr:cI k X.A)(hb:gG X.K fd ps ds)(hd:aZ dvs ds)(hx:m8 CX X E)
  (I:aM X gV σ H s) (r:aZ vs us) (h:sp (vs++dvs) H Q E):NS (NX X.prog X.w) X.A (call (.ref f) us) (EP X gV σ Q) X.xe s:=by
 have r2:aZ (vs++dvs) (us++ds):=r.append hd;have hl:(us++ds).length=ps.length:=by rw[<-r2.length];exact F.len _ _ _ _ h
 refine Pm (Ou (F.run X.A X.stack s H ⟨us,[]⟩ (us++ds) (vs++dvs) Q E hr I.env0 (hb s us I.kIn hl) r2 h) λr s' hq=>?_);cases r with
 |error e=>exact hx gV σ H s e s' I hq
 |ok fl=>
  cases fl with
  |ret u=>exact I.after hq
  |next=>exact False.elim hq
  |brk=>exact False.elim hq
  |cont=>exact False.elim hq
theorem Dj(F:bg X.prog X.w X.K X.mg X.Ny CX k f fd ps sp)(hr:cI k X.A)(hg:Gl X x)(hm:X.mg x=some (.ref f))(hk:UF X.K (.ref f)=true)(hb:gG X.K fd ps ds)(hd:aZ dvs ds)(hx:m8 CX X E)
  (ha:PA X (e::es) t) (hdb:(x == ("__debug__":Str))=false:=by decide) (he:NU (e::es) X.env=(false,Om e X.env)::NU es X.env:=by rfl) (hpl:(Oh pos (NU es X.env)).any (·.1)=false:=by rfl):
  PE X (.Call (.Name x p) (e::es) [] pos) (Au sp dvs E t):=by
 intro gV s σ H Q I h;refine Ox (im I hg hm ?_ hdb);refine UO (h₀:=X.Ny) I.ok.mod.kin hk (bU (ha pos gV s σ H _ I h) λus s1 ⟨vs,H1,I1,r,q⟩=>⟨I1.kIn,?_⟩) he hpl;exact AM F hr hb hd hx I1 r q
structure Mk(K:Frag)(C f:Addr):Prop where
 makes:UU K C=true
 init:Uz K (.ref C) "__init__"=some (some (.ref f))
 fn:UG K (.ref f)=true
 kp:UF K (.ref C)=true
theorem AK{gV:NJ}{σ:St}{H:Hp}{s:NN}{Q:VK}{us:List Value}{vs:List V}(M:Mk X.K C f)(F:bg X.prog X.w X.K X.mg X.Ny CX k f fd ps sp)(hr:cI (k+1) X.A)(hb:gG X.K fd ps ds)(hd:aZ dvs ds)
  (hx:m8 CX X E) (I:aM X gV σ H s) (r:aZ vs us)
  (h:∀x dx,H x=none->H dx=none->dx≠x->sp (.ref x::(vs++dvs)) (upd (upd H dx (.own x)) x (.ins C dx [])) (λv H2=>v=.non/\Q (.ref x) H2) E):
  NS (NX X.prog X.w) X.A (call (.ref C) us) (EP X gV σ Q) X.xe s:=by
 have hq:=h (s.heap.objs.size+1) s.heap.objs.size (I.hok.fresh (Tp _)) (I.hok.fresh (Tj _)) (Tk (Tz _));have I2:=aM.made (C:=C) I;have r2:aZ (V.ref (s.heap.objs.size+1)::(vs++dvs)) (NY (s.heap.objs.size+1)::(us++ds)):=.cons rfl (r.append hd);have hl:(NY (s.heap.objs.size+1)::us++ds).length=ps.length:=by have e:=r2.length;rw[F.len _ _ _ _ hq]at e;exact e.symm
 refine Pm (Bc (f:=f) I.kIn M.makes M.init (beq_iff_eq.mp M.fn) (Ou (F.run _ X.stack _ _ ⟨NY (s.heap.objs.size+1)::us,[]⟩ (NY (s.heap.objs.size+1)::(us++ds)) _ _ E (hr.make C us [])
  (I2.env0.make C us []) (hb _ (NY (s.heap.objs.size+1)::us) I2.kIn hl) r2 hq) λr s' hq'=>?_))
 cases r with
 |error e=>exact hx gV σ _ _ e s' I2 hq'
 |ok fl=>
  cases fl with
  |ret u=>
   obtain⟨v,H',I3,rv,ev,q3⟩:=I2.after hq';subst ev;exact⟨rv,⟨V.ref (s.heap.objs.size+1),H',I3,rfl,q3⟩⟩
  |next=>exact False.elim hq'
  |brk=>exact False.elim hq'
  |cont=>exact False.elim hq'
theorem Df(M:Mk X.K C f)(F:bg X.prog X.w X.K X.mg X.Ny CX k f fd ps sp)(hr:cI (k+1) X.A)(hg:Gl X x)(hm:X.mg x=some (.ref C))(hb:gG X.K fd ps ds)(hd:aZ dvs ds)(hx:m8 CX X E)
  (ha:PA X (e::es) t) (hdb:(x == ("__debug__":Str))=false:=by decide) (he:NU (e::es) X.env=(false,Om e X.env)::NU es X.env:=by rfl) (hpl:(Oh pos (NU es X.env)).any (·.1)=false:=by rfl):
  PE X (.Call (.Name x p) (e::es) [] pos) (At C sp dvs E t):=by
 intro gV s σ H Q I h;refine Ox (im I hg hm ?_ hdb);refine UO (h₀:=X.Ny) I.ok.mod.kin M.kp (bU (ha pos gV s σ H _ I h) λus s1 ⟨vs,H1,I1,r,q⟩=>⟨I1.kIn,?_⟩) he hpl;exact AK M F hr hb hd hx I1 r q
end
structure aG(N P:List Str)(sc:O0):Prop where
 kind:sc.kind=.function
 co:sc.isCoroutine=false
 gen:sc.isGenerator=false
 nd:N.Nodup
 pre:N.take P.length=P
 par:∀x∈P,sc.names.lookup x=some .local\/sc.names.lookup x=some .cell
 nofree:∀y∈sc.names,y.2≠.free
theorem oQ{kindOf:Str->Option NameKind}{x:Str}:∀{binds:List (Str×Value)}{m:NH},(∀v,(x,v)∉binds)->Rw kindOf binds m x=m x
 | [],_,_=>rfl
 |(n,v)::r,m,h=>by
  unfold Rw;rw[oQ λw hw=>h w (RF _ hw)];split
  .have:x≠n:=by rintro rfl;exact h v RK
   simp[this]
  .rfl
theorem oU{kindOf:Str->Option NameKind}{x:Str}:∀{binds:List (Str×Value)}{m:NH},(∀v,(x,v)∉binds)->Rx kindOf binds m x=m x
 | [],_,_=>rfl
 |(n,v)::r,m,h=>by
  unfold Rx;rw[oU λw hw=>h w (RF _ hw)];split
  .rfl
  .have:x≠n:=by rintro rfl;exact h v RK
   simp[this]
theorem oS{kindOf:Str->Option NameKind}{x:Str}{v:Value}:∀{P:List Str}{vs:List Value}{i:Nat}{m:NH},P.Nodup->P[i]? =some x->vs[i]? =some v->kindOf x=some .local->
  Rw kindOf (P.zip vs) m x=some v
 | [],_,_,_,_,h,_,_=>by simp at h
 |_::_,[],_,_,_,_,h,_=>by simp at h
 |p::P,w::vs,0,m,nd,h1,h2,hk=>by simp at h1 h2;subst h1;subst h2;show Rw kindOf ((p,w)::P.zip vs) m p=_;unfold Rw;rw[oQ λv hv=>(Si.mp nd).1 (Sy hv).1,ND hk];simp
 |p::P,w::vs,i+1,m,nd,h1,h2,hk=>by show Rw kindOf ((p,w)::P.zip vs) m x=_;unfold Rw;exact oS (i:=i) (Si.mp nd).2 (by simpa using h1) (by simpa using h2) hk
theorem oV{kindOf:Str->Option NameKind}{x:Str}{v:Value}:∀{P:List Str}{vs:List Value}{i:Nat}{m:NH},P.Nodup->P[i]? =some x->vs[i]? =some v->kindOf x≠some .local->
  Rx kindOf (P.zip vs) m x=some v
 | [],_,_,_,_,h,_,_=>by simp at h
 |_::_,[],_,_,_,_,h,_=>by simp at h
 |p::P,w::vs,0,m,nd,h1,h2,hk=>by simp at h1 h2;subst h1;subst h2;show Rx kindOf ((p,w)::P.zip vs) m p=_;unfold Rx;rw[oU λv hv=>(Si.mp nd).1 (Sy hv).1,NC hk];simp
 |p::P,w::vs,i+1,m,nd,h1,h2,hk=>by show Rx kindOf ((p,w)::P.zip vs) m x=_;unfold Rx;exact oV (i:=i) (Si.mp nd).2 (by simpa using h1) (by simpa using h2) hk
def start(N:List Str)(vs:List V):St:=vs.map some++List.replicate (N.length - vs.length) none
noncomputable def mT(CX:wE)(P:NP)(w:NT)(K:Frag)(mg:NH)(Ny:NZ)(N:List Str)(qual:Str)(scope:O0)(f:Addr)(cd:Value)(A:N1)(Nz:List QK)(s:NN)(H:Hp)(E:XK):Cx where
 prog:=P
 w:=w
 K:=K
 mg:=mg
 Ny:=Ny
 A:=A.deeper (OU qual scope s.heap.objs.size f cd)
 N:=N
 s₀:=s
 H₀:=H
 env:=OU qual scope s.heap.objs.size f cd
 Nz:=Nz
 stack:=OU qual scope s.heap.objs.size f cd::Nz
 ex:=[]
 calm:=true
 fn:=λ_=>true
 pn:=[]
 xe:=λe s'=>NS (NX P w) (A.deeper (OU qual scope s.heap.objs.size f cd)) (leaving (OU qual scope s.heap.objs.size f cd) e) (λ_ s''=>CX Nz H s E e s'') (λe' s''=>CX Nz H s E e' s'') s'
theorem sQ{sc:O0}{n:Nat}{x:Str}(h:sc.names.lookup x=some .cell):∃c,(Rt n sc.names []).lookup x=some c:=by have q:=U1 sc.names n [] (.inl h);exact Uw.mp q
theorem oC{CX:wE}{P:NP}{w:NT}{K:Frag}{mg:NH}{Ny:NZ}{N ps:List Str}{qual:Str}{scope:O0}{f:Addr}{cd:Value}{A:N1}{Nz:List QK}{s s1:NN}{H:Hp}{E:XK}{us:List Value}{vs:List V}
  (S:aG N ps scope) (hd:A.handled=none) (e0:qP P w K mg Ny A Nz s H) (hl:vs.length=ps.length) (r:aZ vs us)
  (x:InCallC s s.heap.objs.size (Rw (OU qual scope s.heap.objs.size f cd).kindOf (ps.zip us) λ_=>none) (Rt (s.heap.objs.size+1) scope.names []) (Rx (OU qual scope s.heap.objs.size f cd).kindOf (ps.zip us) λ_=>none) s1):
  aM (mT CX P w K mg Ny N qual scope f cd A Nz s H E) [] (start N vs) H s1:=by
 have hpl:ps.length<=N.length:=by have:=congrArg List.length S.pre;rw[RV]at this;lia
 obtain⟨h1,tk,rfl,hk⟩:=x.done;have noA:∀b:Addr,b∉(mT CX P w K mg Ny N qual scope f cd A Nz s H E).ex:=λb z=>NG (show b∈([]:List Addr)from z) (by simp);refine⟨⟨e0.mod,S.kind,rfl,rfl,Tj _,λy z c h1 h2=>?_,λy hy=>?_,λy c _ h=>?_,λ_=>hd,Around.frames_deeper e0.frames,.inr ⟨rfl,rfl⟩,λb z=>NG z (noA b),e0.bs,e0.bsz,λb _ _=>noA b,λb z=>NG z (noA b),e0.funs,e0.frf⟩,
  rfl,e0.bare,Un.kept hk,⟨_,x.toInCall.ns,λi y v h1 h2 h3=>?_⟩,λy c h=>⟨_,x.cell y c h⟩,e0.hok.fresh (Tj _),λy c h=>?_,λp hp=>NG (show p∈([]:NJ)from hp) (by simp),e0.hok.kept hk,?_⟩
 .exact name_of_addr x.apart (PySem.mem_of_lookup h1) (PySem.mem_of_lookup h2)
 .have hy:scope.names.lookup y=some .cell\/scope.names.lookup y=some .free:=hy
  rcases hy with hy|hy
  .exact sQ hy
  .exact NG rfl (S.nofree _ (PySem.mem_of_lookup hy))
 .exact Tx (x.above y c (PySem.mem_of_lookup h))
 .have hi:i<vs.length:=by
   unfold start at h2
   by_cases hi:i<vs.length
   .exact hi
   .rw[S6 (by simpa using hi)]at h2;rw[S7]at h2;split at h2<;>cases h2
  have ha:vs[i]? =some v:=by
   unfold start at h2;rw[Sz (by simpa using hi),RE]at h2;cases e:vs[i]? with
   |none=>rw[e]at h2;cases h2
   |some a=>rw[e]at h2;cases h2;rfl
  obtain⟨u,hu,rv⟩:=r.get ha;have hp:ps[i]? =some y:=by rw[<-S.pre,S8 (by lia)];exact h1
  have ndP:ps.Nodup:=by rw[<-S.pre];exact S.nd.sublist (SO _ _)
  refine⟨u,rv,?_⟩
  rcases S.par y (RT hp)with k|k
  .exact .inl ⟨k,oS ndP hp hu k⟩
  .obtain⟨c,e⟩:=sQ (n:=s.heap.objs.size+1) k;refine .inr ⟨.inl k,c,e,?_⟩;have q:=x.cell y c e;rw[oV ndP hp hu (by show scope.names.lookup y≠_;rw[k];decide)]at q;exact q
 .exact e0.hok.fresh (Tx (x.above y c (PySem.mem_of_lookup h)))
 .unfold start;show _=N.length;rw[RI,Rz,List.length_replicate];lia
theorem Ho{CX:wE}{P:NP}{w:NT}{K:Frag}{mg:NH}{Ny:NZ}{k:Nat}{f:Addr}{name qual:Str}{params:Arguments}{body:List N6}{scope:O0}{dV kV doc pm cdv ct oc:Value}{an od:Option Addr}
  {osl:Array (Option Value)} {N ps:List Str} {sp:Sp} (lk:K.lookup f=some ⟨oc,od,.func (UI name qual params body scope dV kV doc pm an cdv ct),osl⟩) (hcd:UV K cdv qual=true) (S:aG N ps scope)
  (len:∀vs H Q E,sp vs H Q E->vs.length=ps.length)
  (hbody:∀(A:N1)(Nz:List QK)(s:NN)(H:Hp)(vs:List V)(Q:VK)(E:XK),cI k (A.deeper (OU qual scope s.heap.objs.size f cdv))->sp vs H Q E->
   ∃t,qN (mT CX P w K mg Ny N qual scope f cdv A Nz s H E) body t/\t {nx:=λ_ H'=>Q .non H',rt:=Q} (start N vs) H):
  bg P w K mg Ny CX (k+1) f (UI name qual params body scope dV kV doc pm an cdv ct) ps sp:=by
 refine⟨len,λA Nz s H args us vs Q E hr e0 hb r hsp=>?_⟩;have hl:=len _ _ _ _ hsp;have KX:K.In s.heap:=e0.mod.kin.keeps λb o e=>(e0.bs b o e).1;have lim:s.heap.NoLimit:=e0.mod.nolimit.keeps λb o e=>(e0.bs b o e).1;have hkind:∀y∈ps.zip us,scope.names.lookup y.1=some .local\/(scope.names.lookup y.1=some .cell/\((Rt (s.heap.objs.size+1) scope.names []).lookup y.1).isSome=true):=λ⟨n,v⟩ hy=>by
  rcases S.par n (Sy hy).1 with q|q
  .exact .inl q
  .exact .inr ⟨q,U1 _ _ _ (.inl q)⟩
 refine QI hr.depth (KX _ _ lk) rfl S.co S.gen rfl (Vm KX hcd) (hb _ _ _ _ ?_);refine PP S.kind hkind λenv he s1 x=>?_;subst he;refine⟨lim.keeps x.toInCall.keep,codeAny_func ?_⟩;obtain⟨t,ht,hq⟩:=hbody A Nz s H vs Q E (hr.deeper _) hsp;have I:aM (mT CX P w K mg Ny N qual scope f cdv A Nz s H E) [] (start N vs) H s1:=oC S hr.hd e0 hl r x;refine Oq (ht [] s1 (start N vs) H _ I hq) (λfl s' hs=>?_) λe s' hs=>hs;have fin:∀{σ':St}{H':Hp}{v:V}{u:Value},aM (mT CX P w K mg Ny N qual scope f cdv A Nz s H E) [] σ' H' s'->aV v u->Q v H'->CE Nz P w H s Q u s':=
  λ{σ' H' v u} J rv q=>⟨v,H',J.os,J.bare,J.Ny,J.hok,rv,q⟩
 cases fl with
 |ret u=>
  obtain⟨v,σ',H',J,rv,q⟩:=hs;exact fin J rv q
 |next=>
  obtain⟨σ',H',J,q⟩:=hs;exact fin (v:=V.non) (u:=OE) J rfl q
 |brk=>
  obtain⟨_,_,_,q⟩:=hs;exact False.elim q
 |cont=>
  obtain⟨_,_,_,q⟩:=hs;exact False.elim q
section
variable{X:Cx}{x:Str}{p pos:Px}{e:N5}{es:List N5}{t:TA}{id T:String}{r:List V->Hp->VK->Prop}
def tCB(r:List V->Hp->VK->Prop)(t:TA):TE:=λσ H Q=>t σ H λvs H1=>r vs H1 Q
theorem A1(hc:bn X (.builtin id) r)(hg:Gl X x)(hm:X.mg x=none)(hv:N2 x=some (.builtin id))(ha:PA X (e::es) t)(hn:x≠"__name__":=by decide)(hdb:(x == ("__debug__":Str))=false:=by decide)
  (he:NU (e::es) X.env=(false,Om e X.env)::NU es X.env:=by rfl) (hpl:(Oh pos (NU es X.env)).any (·.1)=false:=by rfl):PE X (.Call (.Name x p) (e::es) [] pos) (tCB r t):=by
 intro gV s σ H Q I h;refine Ox (kR I hg hm hv ?_ hn hdb);exact PyProof.Rows.callWith_builtin1 (bU (ha pos gV s σ H _ I h) λus s1 ⟨vs,H1,I1,r1,q1⟩=>hc gV s1 σ H1 vs us Q I1 r1 q1) he hpl
theorem xf(hc:bn X (.type T) r)(hg:Gl X x)(hm:X.mg x=none)(hv:N2 x=some (.type T))(ha:PA X (e::es) t)(hn:x≠"__name__":=by decide)(hdb:(x == ("__debug__":Str))=false:=by decide)
  (he:NU (e::es) X.env=(false,Om e X.env)::NU es X.env:=by rfl) (hpl:(Oh pos (NU es X.env)).any (·.1)=false:=by rfl):PE X (.Call (.Name x p) (e::es) [] pos) (tCB r t):=by
 intro gV s σ H Q I h;refine Ox (kR I hg hm hv ?_ hn hdb);exact PyProof.Rows.callWith_type1 (bU (ha pos gV s σ H _ I h) λus s1 ⟨vs,H1,I1,r1,q1⟩=>hc gV s1 σ H1 vs us Q I1 r1 q1) he hpl
end
end L2
namespace HT
open PySem PyProof.Rows
section
variable{prog:NP}{w:NT}{A:N1}{E:NI}{s:NN}
theorem cat_tup{t b:Addr}{vs ws:List Value}{Q:NI}(ht:IsTup s.heap t vs.toArray)(hb:IsTup s.heap b ws.toArray)(hv:vs≠[])
  (h1:ws=[]->Q (.ref t) s) (h2:ws≠[]->Q (.ref s.heap.objs.size) {s with heap:=s.heap.push {cls:=.type "tuple",data:=.seq (vs++ws).toArray}})
  (hsz:vs.length+ws.length<=sizeLine):NS (NX prog w) A (OZ .Add (.ref t) (.ref b)) Q E s:=by
 obtain⟨⟨cls,dd,data,sl⟩,ho,hc,n,hd⟩:=id ht;obtain⟨⟨cls2,dd2,data2,sl2⟩,ho2,hc2,n2,hd2⟩:=id hb;simp only at hc hd hc2 hd2;subst hc hd hc2 hd2;have e:vs.toArray++ws.toArray=(vs++ws).toArray:=by simp
 by_cases hw:ws=[]
 .exact Ri ⟨_,ho,rfl⟩ ⟨_,ho2,rfl⟩ Qr QX PySem.F.slot_tuple_add PySem.F.entry_tuple_add (PySem.F.args_tuple_add_2 _ _)
   (tuple_addW1 t b vs.toArray ws.toArray n n2 dd dd2 sl sl2 (by simpa using hv) (by simp[hw])) ⟨ho,ho2,h1 hw⟩
 .refine Ri ⟨_,ho,rfl⟩ ⟨_,ho2,rfl⟩ Qr QX PySem.F.slot_tuple_add PySem.F.entry_tuple_add (PySem.F.args_tuple_add_2 _ _)
   (tuple_addW2 t b vs.toArray ws.toArray n n2 dd dd2 sl sl2 (by simpa using hv) (by simpa using hw) (by rw[RD,RD];exact hsz)) ⟨ho,ho2,?_⟩
  rw[e];exact h2 hw
def sIx(n d:Nat):Option Int->Nat
 |none=>d
 |some v=>if v<0 then(v+(n:Int)).toNat else min v.toNat n
theorem sIx_none(n d:Nat):sIx n d none=d:=rfl
theorem sIx_nat(n d k:Nat):sIx n d (some (k:Int))=min k n:=by show(if(k:Int)<0 then((k:Int)+(n:Int)).toNat else min (k:Int).toNat n)=min k n;rw[NC (by lia),TR]
theorem sIx_le(n d:Nat)(hd:d<=n)(o:Option Int):sIx n d o<=n:=by
 cases o with
 |none=>exact hd
 |some v=>
  show(if v<0 then(v+(n:Int)).toNat else min v.toNat n)<=n
  by_cases hv:v<0
  .rw[ND hv];lia
  .rw[NC hv];exact Nat.min_le_right _ _
theorem wu(v:Int)(n d:Nat):(if v<0 then max (v+(n:Int)) 0 else min v (n:Int))=((sIx n d (some v):Nat):Int):=by
 show(if v<0 then max (v+(n:Int)) 0 else min v (n:Int))=(((if v<0 then(v+(n:Int)).toNat else min v.toNat n):Nat):Int)
 by_cases hv:v<0
 .simp only[ND hv];lia
 .simp only[NC hv];lia
theorem vh(lo hi:Option Int)(n:Nat):Pi lo hi 1 (n:Int)=(((sIx n 0 lo:Nat):Int),((sIx n n hi:Nat):Int)):=by
 have h1:¬((1:Int)<0):=by lia
 unfold Pi;simp only[h1,if_false];refine Prod.ext ?_ ?_
 .cases lo with
  |none=>rfl
  |some v=>exact wu v n 0
 .cases hi with
  |none=>rfl
  |some v=>exact wu v n n
theorem ud(i j:Nat):OM (i:Int) (j:Int) 1=j - i:=by
 unfold OM;have h1:(1:Int) > 0:=by lia
 simp only[h1,if_true,Int.ediv_one];split<;>lia
theorem ma{v:Value}{o:Option Int}{Q:Option Int->NN->Prop}(p:Qj v o)(h:Q o s):NS (NX prog w) A (Builtin.Slice.slicePartIndex v) Q E s:=by
 cases p with
 |none=>exact slicePart_none h
 |int i t=>exact slicePart_int h
theorem kF{sl:Addr}{vl vu:Value}{lo hi:Option Int}{n:Nat}{Q:Int×Int×Nat->NN->Prop}(hs:s.heap.IsSliceOf sl vl vu .none)(pl:Qj vl lo)(pu:Qj vu hi)
  (h:Q (((sIx n 0 lo:Nat):Int),1,sIx n n hi - sIx n 0 lo) s):NS (NX prog w) A (P7 (.ref sl) (pure (n:Int))) Q E s:=by
 obtain⟨os,hos,hcs,hds⟩:=id hs;unfold P7 Builtin.Slice.sliceFields;refine NK (NK (Po hos hds (x:=vl) rfl (NK (Po hos hds (x:=vu) rfl (NK (Po hos hds (x:=.none) rfl (NL ?_)))))));refine NK (slicePart_none ?_);show NS _ _ (if((1:Int) == 0)=true then _ else _) _ _ s;rw[NC (by decide)];refine NK (ma pl (NK (ma pu (NK (NL ?_)))));show NS _ _ (match Pi lo hi 1 (n:Int)with|(lo,hi)=>pure (lo,(1:Int),OM lo hi 1)) _ _ s
 rw[vh lo hi n];show NS _ _ (pure (((sIx n 0 lo:Nat):Int),(1:Int),OM ((sIx n 0 lo:Nat):Int) ((sIx n n hi:Nat):Int) 1)) _ _ s;rw[ud];exact NL h
theorem AY(xs:Array Value)(i k:Nat):((List.range k).filterMap λ(m:Nat)=>xs[((i:Int)+(m:Int)*1).toNat]?).toArray=((xs.toList.drop i).take k).toArray:=by
 have e:(λ(m:Nat)=>xs[((i:Int)+(m:Int)*1).toNat]?)=λm=>xs[i+m]? :=by
  funext m;have:((i:Int)+(m:Int)*1).toNat=i+m:=by lia
  rw[this]
 rw[e];have:=pick_run xs i k;rw[List.filterMap_map]at this;have e2:((λx=>xs[x]?)∘λx=>i+x)=λm=>xs[i+m]? :=rfl;rw[e2]at this;rw[this]
theorem getItem_tuple_cut{t sl:Addr}{items:Array Value}{vl vu:Value}{lo hi:Option Int}{Q:NI}(ht:IsTup s.heap t items)(hs:s.heap.IsSliceOf sl vl vu .none)(pl:Qj vl lo)(pu:Qj vu hi)
  (hw:¬(sIx items.size 0 lo=0/\sIx items.size items.size hi=items.size))
  (h:Q (.ref s.heap.objs.size) {s with heap:=s.heap.push {cls:=.type "tuple",data:=.seq ((items.toList.drop (sIx items.size 0 lo)).take (sIx items.size items.size hi - sIx items.size 0 lo)).toArray}})
  (hsz:items.size<=sizeLine):NS (NX prog w) A (Ru (.ref t) (.ref sl)) Q E s:=by
 have htake:sizeOk (.seq ((items.toList.drop (sIx items.size 0 lo)).take (sIx items.size items.size hi - sIx items.size 0 lo)).toArray):=by show((items.toList.drop (sIx items.size 0 lo)).take (sIx items.size items.size hi - sIx items.size 0 lo)).toArray.size<=sizeLine;rw[RD,RV,Sj,Um];lia
 have hj:sIx items.size items.size hi<=items.size:=sIx_le _ _ (Tj _) hi;obtain⟨os,hos,hcs,hds⟩:=id hs;have hTs:s.TypeIs (.ref sl) "slice":=⟨os,hos,hcs⟩;unfold Ru
 try with_reducible refine N4 ?_
 first|refine NK (NL ?_)|skip
 refine NK (wpAny_sequenceKey ht.typeIs (by decide) ?_);refine NK (Oi (name:=Pg "__getitem__") ht.typeIs PyProof.Rows.slot_tuple_getitem
  (Oe PyProof.Rows.slot_tuple_getitem ht.typeIs entry_tuple_getitem ?_ (args_tuple_getitem _ _)))
 show NS _ _ (Builtin.Tuple.tupleItemsOf (.ref t) >>= _) _ _ s;refine NK (tupleItemsOf_ ht ?_);refine NK (OX hTs ?_);rw[ND (by decide)];refine NK (kF hs pl pu ?_);have hno:¬((((sIx items.size 0 lo:Nat):Int) == 0&&(1:Int) == 1&&(sIx items.size items.size hi - sIx items.size 0 lo) == items.size)=true):=by intro q;rw[T6,T6]at q;have q1:((sIx items.size 0 lo:Nat):Int)=0:=eq_of_beq q.1.1;have q2:sIx items.size items.size hi - sIx items.size 0 lo=items.size:=eq_of_beq q.2;exact hw ⟨by lia,by lia⟩
 show NS _ _ (if(((sIx items.size 0 lo:Nat):Int) == 0&&(1:Int) == 1&&(sIx items.size items.size hi - sIx items.size 0 lo) == items.size)=true then _ else _) _ _ s;rw[NC hno,AY]
 first
  |exact NK (m:=OQ _) (N9 (NL ⟨_,rfl,NL h⟩) htake)
  |exact NK (m:=OQ _) (N9 (NK (NL (NL ⟨_,rfl,NL h⟩))) htake)
  |exact NK (NK (m:=OQ _) (N9 (NL (NL ⟨_,rfl,NL h⟩)) htake))
  |exact NK (NK (m:=OQ _) (N9 (NL ⟨_,rfl,NL h⟩) htake))
end
end HT
namespace L2
open PySem PySem.Spec PyProof.Rows
abbrev TO:=St->Hp->(Option Int->Hp->Prop)->Prop
def PO(X:Cx)(e:Option N5)(t:TO):Prop:=
 ∀(gV:NJ)(s:NN)(σ:St)(H:Hp)(Q:Option Int->Hp->Prop),aM X gV σ H s->t σ H Q->
  NS (NX X.prog X.w) X.A (evalPart e X.env) (λu s'=>∃o H',aM X gV σ H' s'/\Qj u o/\Q o H') X.xe s
def vy:TO:=λ_ H Q=>Q none H
theorem mO{ns:List Int}:∀{us:List Value},aZ (ns.map V.int) us->QS us ns:=by
 induction ns with
 |nil=>intro us r;rw[SQ]at r;cases r;exact .nil
 |cons n ns ih=>
  intro us r;rw[RY]at r;cases r with
  |cons r1 r2=>
   obtain⟨t,e⟩:=r1;subst e;exact .cons n t (ih r2)
section
variable{X:Cx}{e:N5}{te:TE}{lo hi:Option N5}{tl th:TO}{pos p2:Px}
theorem du:PO X none vy:=by intro gV s σ H Q I h;rw[evalPart_none];exact NL ⟨none,H,I,.none,h⟩
def xX(X:Cx)(r:V->Option Int->Option Int->Hp->VK->Prop):Prop:=
 ∀(gV:NJ)(s:NN)(σ:St)(H:Hp)(x:V)(v vl vu:Value)(lo hi:Option Int)(sl:Addr)(Q:VK),aM X gV σ H s->aV x v->s.heap.IsSliceOf sl vl vu .none->Qj vl lo->Qj vu hi->r x lo hi H Q->
  ∃T id,Q3 (.type T) "__getitem__"=pure (some (.builtin id))/\s.TypeIs v T/\NS (NX X.prog X.w) X.A (Ru v (.ref sl)) (EP X gV σ Q) X.xe s
theorem xX.or{r r':V->Option Int->Option Int->Hp->VK->Prop}(h:xX X r)(h':xX X r'):xX X (λx lo hi H Q=>r x lo hi H Q\/r' x lo hi H Q):=by
 intro gV s σ H x v vl vu lo hi sl Q I rx hs pl pu q
 rcases q with q|q
 .exact h gV s σ H x v vl vu lo hi sl Q I rx hs pl pu q
 .exact h' gV s σ H x v vl vu lo hi sl Q I rx hs pl pu q
def MZ(r:V->Option Int->Option Int->Hp->VK->Prop)(te:TE)(tl th:TO):TE:=λσ H Q=>te σ H λx H1=>tl σ H1 λl H2=>th σ H2 λu H3=>r x l u H3 Q
theorem rH{r:V->Option Int->Option Int->Hp->VK->Prop}(hr:xX X r)(he:PE X e te)(hl:PO X lo tl)(hu:PO X hi th):PE X (.Subscript e (.Slice lo hi none p2) pos) (MZ r te tl th):=by intro gV s σ H Q I h;refine Subscript_ (bU (he gV s σ H _ I h) λv s1 ⟨x,H1,I1,r1,q1⟩=>?_);refine wpAny_Slice (bU (hl gV s1 σ H1 _ I1 q1) λvl s2 ⟨l,H2,I2,pl,q2⟩=>bU (hu gV s2 σ H2 _ I2 q2) λvu s3 ⟨u,H3,I3,pu,q3⟩=>?_);rw[evalPart_none];refine NL ?_;have I4:aM X gV σ H3 {s3 with heap:=s3.heap.push {cls:=.type "slice",data:=.fields #[vl,vu,.none]}}:=I3.kept (t':=s3.toks) λb ob q=>NO _ q;obtain⟨T,id,hT,ht,hg⟩:=hr gV {s3 with heap:=s3.heap.push {cls:=.type "slice",data:=.fields #[vl,vu,.none]}} σ H3 x v vl vu l u s3.heap.objs.size Q I4 r1 (Heap.IsSliceOf.new ..) pl pu q3;show NS (NX X.prog X.w) X.A (subscriptTail e (.Slice lo hi none p2) v (.ref s3.heap.objs.size)) (EP X gV σ Q) X.xe {s3 with heap:=s3.heap.push {cls:=.type "slice",data:=.fields #[vl,vu,.none]}};exact tail_any (ops:=[.ref s3.heap.objs.size,v]) ht hT hg (by with_unfolding_all rfl)
def cutV(xs:List V)(lo hi:Option Int):List V:=(xs.drop (HT.sIx xs.length 0 lo)).take (HT.sIx xs.length xs.length hi - HT.sIx xs.length 0 lo)
theorem dG(xs:List V)(lo hi:Option Int):(cutV xs lo hi).length<=xs.length:=by unfold cutV;rw[RV,Sj];lia
def IY(K:Frag):V->Option Int->Option Int->Hp->VK->Prop:=λx lo hi H Q=>∃a xs,x=.ref a/\cr K H a xs/\
 ¬(HT.sIx xs.length 0 lo=0/\HT.sIx xs.length xs.length hi=xs.length)/\∀p,H p=none->Q (.ref p) (upd H p (.tup (cutV xs lo hi)))
theorem IM:xX X (IY X.K):=by
 intro gV s σ H x v vl vu lo hi sl Q I rx hs pl pu h;obtain⟨a,xs,rfl,hx,hw,q⟩:=h;cases rx;obtain⟨its,r,ht,hz⟩:=I.tuple hx;have hlen:its.toArray.size=xs.length:=by rw[RD];exact r.length.symm
 refine⟨"tuple",_,PyProof.Rows.slot_tuple_getitem.lookup,ht.typeIs,?_⟩;refine HT.getItem_tuple_cut ht hs pl pu (by rw[hlen];exact hw) ?_ (by rw[hlen];exact hz);rw[hlen];refine⟨.ref s.heap.objs.size,_,I.laid (t':=s.toks) (o:=.tup (cutV xs lo hi)) (λb ob q=>NO _ q) (Tj _) ?_,rfl,q _ (I.hok.fresh (Tj _))⟩;exact⟨Tn (dG xs lo hi) hz,_,(r.drop (HT.sIx xs.length 0 lo)).take (HT.sIx xs.length xs.length hi - HT.sIx xs.length 0 lo),IsTup.new _ _⟩
def LC(K:Frag):R2:=λx y H Q=>∃a b xs ys,x=.ref a/\y=.ref b/\cr K H a xs/\cr K H b ys/\xs≠[]/\xs.length+ys.length<=sizeLine/\
 (ys=[]->Q (.ref a) H)/\(ys≠[]->∀p,H p=none->Q (.ref p) (upd H p (.tup (xs++ys))))
theorem aZ.nil_iff{xs:List V}{us:List Value}(r:aZ xs us):us=[]<->xs=[]:=by
 cases r with
 |nil=>simp
 |cons _ _=>simp
theorem Dm:iD X (OZ .Add) (LC X.K):=by intro gV s σ H x y v u Q I rx ry h;obtain⟨a,b,xs,ys,rfl,rfl,ha,hb,hx,hz,q1,q2⟩:=h;cases rx;cases ry;obtain⟨its,r1,p1,_⟩:=I.tuple ha;obtain⟨its2,r2,p2,_⟩:=I.tuple hb;refine HT.cat_tup p1 p2 (λz=>hx (r1.nil_iff.mp z)) (λz=>⟨.ref a,H,I,rfl,q1 (r2.nil_iff.mp z)⟩) (λz=>?_) (by rw[<-r1.length,<-r2.length];exact hz);refine⟨.ref s.heap.objs.size,_,I.laid (t':=s.toks) (o:=.tup (xs++ys)) (λb ob q=>NO _ q) (Tj _) ?_,rfl,q2 (λw=>z (r2.nil_iff.mpr w)) _ (I.hok.fresh (Tj _))⟩;exact⟨by rw[RI];exact hz,_,r1.append r2,IsTup.new _ _⟩
end
def ixN(n:Nat)(i:Int):Option Nat:=if 0<=i then(if i<n then some i.toNat else none)else if -(n:Int)<=i then some (i+n).toNat else none
def km{α:Type}(xs:List α)(i:Int):Option α:=(ixN xs.length i).bind λj=>xs[j]?
theorem v8{n:Nat}{i:Int}{j:Nat}(h:ixN n i=some j):seqIndex? i n=some j/\j<n/\-(n:Int)<=i/\i<n:=by
 unfold ixN at h
 by_cases h0:0<=i
 .rw[ND h0]at h
  by_cases h1:i<n
  .rw[ND h1]at h;have e:i.toNat=j:=Option.some.inj h;exact⟨by rw[seqIndex_of h0 h1,e],by lia,by lia,h1⟩
  .rw[NC h1]at h;cases h
 .rw[NC h0]at h
  by_cases h1: -(n:Int)<=i
  .rw[ND h1]at h;have e:(i+n).toNat=j:=Option.some.inj h;exact⟨by rw[Re (by lia) h1,e],by lia,h1,by lia⟩
  .rw[NC h1]at h;cases h
theorem jd{α:Type}{xs:List α}{i:Int}{v:α}(h:km xs i=some v):∃j,seqIndex? i xs.length=some j/\xs[j]? =some v/\j<xs.length/\-(xs.length:Int)<=i/\i<xs.length:=by
 unfold km at h;cases e:ixN xs.length i with
 |none=>rw[e]at h;cases h
 |some j=>
  rw[e]at h;obtain⟨h1,h2,h3,h4⟩:=v8 e;exact⟨j,h1,h,h2,h3,h4⟩
theorem bO{α:Type}{xs:List α}{j:Nat}{v:α}(h:xs[j]? =some v):km xs (j:Int)=some v:=by
 have hj:j<xs.length:=(RO.mp h).1;have e:ixN xs.length (j:Int)=some j:=by unfold ixN;rw[ND (by lia),ND (by lia)];simp
 unfold km;rw[e];exact h
def qM(b:N5):Prop:= ∀o i,subscripted b false o i=operate [o,i] (Ru o i)
def wB(X:Cx)(r:R2):Prop:=
 ∀(value slice:N5)(gV:NJ)(s:NN)(σ:St)(H:Hp)(x y:V)(v u:Value)(Q:VK),aM X gV σ H s->aV x v->aV y u->r x y H Q->
  subscripted slice false v u=operate [v,u] (Ru v u)->NS (NX X.prog X.w) X.A (subscriptTail value slice v u) (EP X gV σ Q) X.xe s
def qR(X:Cx)(id:String)(r:V->List V->Hp->VK->Prop):Prop:=
 ∀(gV:NJ)(s:NN)(σ:St)(H:Hp)(x:V)(xs:List V)(v:Value)(us:List Value)(Q:VK),aM X gV σ H s->aV x v->aZ xs us->r x xs H Q->
  NS (NX X.prog X.w) X.A (call (.builtin id) (v::us)) (EP X gV σ Q) X.xe s
section
variable{X:Cx}{a b:N5}{ta tb:TE}{pos:Px}
theorem wB.or{r r':R2}(h:wB X r)(h':wB X r'):wB X (λx y H Q=>r x y H Q\/r' x y H Q):=by
 intro value slice gV s σ H x y v u Q I rx ry q hs
 rcases q with q|q
 .exact h value slice gV s σ H x y v u Q I rx ry q hs
 .exact h' value slice gV s σ H x y v u Q I rx ry q hs
theorem LF{r:R2}(hr:wB X r)(ha:PE X a ta)(hb:PE X b tb)(hs:qM b):PE X (.Subscript a b pos) (Lu r ta tb):=by intro gV s σ H Q I h;exact Subscript_ (Ke ha hb I h λv u s2 x y H2 I2 rx ry q=>hr a b gV s2 σ H2 x y v u Q I2 rx ry q (hs _ _))
def LB(K:Frag):R2:=λx y H Q=>∃p xs i v,x=.ref p/\y=.int i/\aY K H p xs/\km xs i=some v/\Q v H
def Lz(K:Frag):R2:=λx y H Q=>∃p xs i v,x=.ref p/\y=.int i/\cr K H p xs/\km xs i=some v/\Q v H
def LA:R2:=λx y H Q=>∃z i c,x=.str z/\y=.int i/\z.length<=sizeLine/\km z.cps.toList i=some c/\Q (.str ⟨#[c]⟩) H
theorem DE:wB X (LB X.K):=by
 intro value slice gV s σ H x y v u Q I rx ry h hs;obtain⟨p,xs,i,z,rfl,rfl,hq,he,q⟩:=h;cases rx;obtain⟨t,rfl⟩:=ry;obtain⟨its,r,pl,hz⟩:=I.list hq;obtain⟨j,h1,h2,h3,h4,h5⟩:=jd he;obtain⟨w,ew,rw'⟩:=r.get h2;have hl:=r.length;have hn:=kQ;have fin:EP X gV σ Q w s:=⟨z,H,I,rw',q⟩
 by_cases h0:0<=i
 .have hj:i.toNat=j:=by rw[seqIndex_of h0 h5]at h1;exact Option.some.inj h1
  exact item_listR pl.isList h0 (by lia) (by rw[hj];simpa using ew) fin hs
 .have hj:(i+(its.toArray.size:Int)).toNat=j:=by rw[Re (by lia) h4]at h1;rw[RD,<-hl];exact Option.some.inj h1
  exact Qv (x:=w) pl.isList.typeIs slot_list_getitem.lookup
   (wpAny_getItem_list_neg (Q:=λr s'=>r=w/\EP X gV σ Q r s') pl.isList (by lia) (by rw[RD]<;>lia) (by lia) (by rw[hj];simpa using ew) ⟨rfl,fin⟩) hs
theorem JF:wB X (Lz X.K):=by
 intro value slice gV s σ H x y v u Q I rx ry h hs;obtain⟨p,xs,i,z,rfl,rfl,hq,he,q⟩:=h;cases rx;obtain⟨t,rfl⟩:=ry;obtain⟨its,r,pl,hz⟩:=I.tuple hq;obtain⟨j,h1,h2,h3,h4,h5⟩:=jd he;obtain⟨w,ew,rw'⟩:=r.get h2;have hl:=r.length;have hn:=kQ;have fin:EP X gV σ Q w s:=⟨z,H,I,rw',q⟩;exact Qv (x:=w) pl.typeIs slot_tuple_getitem.lookup
  (getItem_tuple (j:=j) (Q:=λr s'=>r=w/\EP X gV σ Q r s') pl (by lia) (by lia) (by rw[RD,<-hl];exact h1) (by simpa using ew) ⟨rfl,fin⟩) hs
theorem JG:wB X LA:=by
 intro value slice gV s σ H x y v u Q I rx ry h hs;obtain⟨z,i,c,rfl,rfl,hz,he,q⟩:=h;obtain⟨t,rfl⟩:=rx;obtain⟨t',rfl⟩:=ry;obtain⟨j,h1,h2,h3,h4,h5⟩:=jd he;have hl:z.cps.toList.length=z.length:=by simp[Str.length]
 rw[hl]at h1 h4 h5;have hn:=kQ;exact tail_any (PV s z t) slot_str_getitem.lookup (getItem_str (c:=c) (by
  have e1:decide (i< -(2 ^ 63:Int))=false:=NB (by lia);have e2:decide (i≥2 ^ 63)=false:=NB (by lia);rw[e1,e2,Ub]) (by rw[h1];simpa using h2) ⟨.str ⟨#[c]⟩,H,I.tok _,⟨_,rfl⟩,q⟩) hs
def rIx(K:Frag):R2:=λx y H Q=>LB K x y H Q\/Lz K x y H Q\/LA x y H Q
theorem JH:wB X (rIx X.K):=DE.or (JF.or JG)
theorem uy(its:List Value)(n j:Nat)(u:Value):On (·.setIfInBounds j u) {cls:=.type "list",data:=.seq its.toArray n}={cls:=.type "list",data:=.seq (its.set j u).toArray n}:=by simp[On]
theorem aM.lst{gV:NJ}{σ:St}{H:Hp}{s:NN}{p:Addr}{xs:List V}(I:aM X gV σ H s)(h:H p=some (.lst xs)):
  ∃(its:List Value)(n:Nat),aZ xs its/\s.heap.get? p=some {cls:=.type "list",data:=.seq its.toArray n}/\xs.length<=sizeLine:=by
 obtain⟨z,its,n,r,e⟩:=I.hok p _ h;exact⟨its,n,r,e,z⟩
theorem aM.lstUpd{gV:NJ}{σ:St}{H:Hp}{s:NN}{p:Addr}{xs ys:List V}{its its':List Value}{n n':Nat}{f:Obj->Obj}(I:aM X gV σ H s)(h:H p=some (.lst xs))
  (ho:s.heap.get? p=some {cls:=.type "list",data:=.seq its.toArray n}) (hf:f {cls:=.type "list",data:=.seq its.toArray n}={cls:=.type "list",data:=.seq its'.toArray n'}) (r:aZ ys its') (hz:ys.length<=sizeLine) (t:Nat):
  aM X gV σ (upd H p (.lst ys)) {s with heap:=s.heap.update p f,toks:=t}:=by
 have e:(s.heap.update p f).get? p=some {cls:=.type "list",data:=.seq its'.toArray n'}:=by rw[OK f ho (by rw[hf]<;>rfl),hf]
 refine I.write (x:=p) (e:=p) (by rw[h];trivial) (.inl rfl) (λb u hb q=>(OG _ _ (Ne.symm hb)).trans q) ⟨_,e⟩ ?_;exact⟨hz,its',n',r,e⟩
def GV:V->V->V->Hp->(Hp->Prop)->Prop:=λo i v H Q=>∃p xs k j,o=.ref p/\i=.int k/\H p=some (.lst xs)/\ixN xs.length k=some j/\Q (upd H p (.lst (xs.set j v)))
theorem jK:MH X GV:=by
 intro gV s σ H o i v ov iv u Q I ro ri rv h;obtain⟨p,xs,k,j,rfl,rfl,hp,hj,q⟩:=h;cases ro;obtain⟨t,rfl⟩:=ri;obtain⟨its,n,r,ho,hz⟩:=I.lst hp;obtain⟨h1,h2,h3,h4⟩:=v8 hj;have hl:=r.length;have hn:=kQ;have I':aM X gV σ (upd H p (.lst (xs.set j v))) {s with heap:=s.heap.update p (On (·.setIfInBounds j u))}:=
  I.lstUpd hp ho (uy its n j u) (r.set rv j) (by rw[Sk];exact hz) s.toks
 by_cases h0:0<=k
 .have hk:k.toNat=j:=by rw[seqIndex_of h0 h4]at h1;exact Option.some.inj h1
  exact PySem.W.ki_setAt ho h0 (by lia) (by rw[RD,<-hl];exact h4) (by rw[hk];exact⟨_,I',q⟩)
 .have hk:(k+(its.toArray.size:Int)).toNat=j:=by rw[Re (by lia) h3]at h1;rw[RD,<-hl];exact Option.some.inj h1
  exact PySem.W.ki_setBack ho (by lia) (by rw[RD,<-hl];exact h3) (by lia) (by rw[hk];exact⟨_,I',q⟩)
theorem pB(lo hi:Option Int)(n:Nat):(OW lo hi none n).1=((HT.sIx n 0 lo:Nat):Int)/\(OW lo hi none n).2.1=((HT.sIx n n hi:Nat):Int)/\(OW lo hi none n).2.2=1:=by
 refine⟨?_,?_,rfl⟩
 .cases lo with
  |none=>simp[OW,HT.sIx]
  |some i=>
   simp only[OW,HT.sIx,Ux,show(1:Int) > 0 by decide,if_true]
   by_cases h:i<0
   .simp only[h,if_true]<;>lia
   .simp only[h,if_false]<;>lia
 .cases hi with
  |none=>simp[OW,HT.sIx]
  |some i=>
   simp only[OW,HT.sIx,Ux,show(1:Int) > 0 by decide,if_true]
   by_cases h:i<0
   .simp only[h,if_true]<;>lia
   .simp only[h,if_false]<;>lia
theorem na(its:List Value)(lo hi:Option Int):slicePick its.toArray lo hi none=((its.drop (HT.sIx its.length 0 lo)).take (HT.sIx its.length its.length hi - HT.sIx its.length 0 lo)).toArray:=by obtain⟨h1,h2,h3⟩:=pB lo hi its.toArray.size;unfold slicePick;rw[h1,h2,h3];simp only[sliceRange_one,pick_run,RD]<;>rfl
def M7(K:Frag):V->Option Int->Option Int->Hp->VK->Prop:=λx lo hi H Q=>∃a xs,x=.ref a/\aY K H a xs/\∀p,H p=none->Q (.ref p) (upd H p (.lst (cutV xs lo hi)))
theorem C5:xX X (M7 X.K):=by intro gV s σ H x v vl vu lo hi sl Q I rx hs pl pu h;obtain⟨a,xs,rfl,hx,q⟩:=h;cases rx;obtain⟨its,r,ht,hz⟩:=I.list hx;have hlen:=r.length;refine⟨"list",_,slot_list_getitem.lookup,ht.isList.typeIs,?_⟩;refine wpAny_getItem_list_slice ht.isList hs pl pu .none (by simp) ?_ (by rw[RD]<;>lia);rw[na,<-hlen];refine⟨.ref s.heap.objs.size,_,I.laid (t':=s.toks) (o:=.lst (cutV xs lo hi)) (λb ob q=>NO _ q) (Tj _) ?_,rfl,q _ (I.hok.fresh (Tj _))⟩;exact⟨Tn (dG xs lo hi) hz,_,0,(r.drop (HT.sIx xs.length 0 lo)).take (HT.sIx xs.length xs.length hi - HT.sIx xs.length 0 lo),NW _ rfl⟩
def flatV:V->Bool
 | .non=>true
 | .bl _=>true
 | .int _=>true
 | .str _=>true
 |_=>false
noncomputable def eqV:V->V->Bool
 | .non,.non=>true
 | .bl a,.bl b=>a == b
 | .bl a,.int b=>(if a then 1 else 0) == b
 | .int a,.bl b=>a == (if b then 1 else 0)
 | .int a,.int b=>a == b
 | .str a,.str b=>a == b
 |_,_=>false
theorem BR{A:N1}{s:NN}{y x:V}{u v:Value}(ry:aV y u)(rx:aV x v)(fy:flatV y=true)(fx:flatV x=true):Q9 A s u v (eqV y x):=by
 cases y with
 |non=>
  cases ry;cases x with
  |non=>cases rx;exact SeqAt.EqAt.same _
  |bl b=>cases rx;exact SeqAt.EqAt.none_bool b
  |int b=>obtain⟨t,rfl⟩:=rx;exact SeqAt.EqAt.none_int b t
  |str b=>obtain⟨t,rfl⟩:=rx;exact SeqAt.EqAt.none_str b t
  |_=>exact NG (show false=true from fx) T5
 |bl a=>
  cases ry;cases x with
  |non=>cases rx;exact SeqAt.EqAt.bool_none a
  |bl b=>cases rx;exact SeqAt.EqAt.bool_bool a b
  |int b=>obtain⟨t,rfl⟩:=rx;exact SeqAt.EqAt.bool_int a b t
  |str b=>obtain⟨t,rfl⟩:=rx;exact SeqAt.EqAt.bool_str a b t
  |_=>exact NG (show false=true from fx) T5
 |int a=>
  obtain⟨t',rfl⟩:=ry;cases x with
  |non=>cases rx;exact SeqAt.EqAt.int_none a t'
  |bl b=>cases rx;exact SeqAt.EqAt.int_bool a t' b
  |int b=>obtain⟨t,rfl⟩:=rx;exact SeqAt.EqAt.int_int a t' b t
  |str b=>obtain⟨t,rfl⟩:=rx;exact SeqAt.EqAt.int_str a t' b t
  |_=>exact NG (show false=true from fx) T5
 |str a=>
  obtain⟨t',rfl⟩:=ry;cases x with
  |non=>cases rx;exact SeqAt.EqAt.str_none a t'
  |bl b=>cases rx;exact SeqAt.EqAt.str_bool a t' b
  |int b=>obtain⟨t,rfl⟩:=rx;exact SeqAt.EqAt.str_int a t' b t
  |str b=>obtain⟨t,rfl⟩:=rx;exact SeqAt.EqAt.str_str a t' b t
  |_=>exact NG (show false=true from fx) T5
 |_=>exact NG (show false=true from fy) T5
noncomputable def sJ(x:V)(u:Value):Bool:=match u with
 | .none=>eqV .non x
 | .bool b=>eqV (.bl b) x
 | .int i _=>eqV (.int i) x
 | .str z _=>eqV (.str z) x
 |_=>false
theorem uP{x y:V}{u:Value}(r:aV y u)(f:flatV y=true):sJ x u=eqV y x:=by
 cases y with
 |non=>cases r;rfl
 |bl b=>cases r;rfl
 |int i=>obtain⟨t,rfl⟩:=r;rfl
 |str z=>obtain⟨t,rfl⟩:=r;rfl
 |_=>exact NG (show false=true from f) T5
theorem kb{x:V}:∀{xs:List V}{us:List Value},aZ xs us->xs.all flatV=true->us.any (sJ x)=xs.any λy=>eqV y x
 |_,_,.nil,_=>rfl
 |y::xs,u::us,.cons r t,f=>by rw[RZ,T6]at f;rw[Sn,Sn,uP r f.1,kb t f.2]
theorem hU{A:N1}{s:NN}{x:V}{v:Value}(rx:aV x v)(fx:flatV x=true):∀{xs:List V}{us:List Value},aZ xs us->xs.all flatV=true->∀u∈us,Q9 A s u v (sJ x u)
 |_,_,.nil,_=>λu hu=>by cases hu
 |y::xs,u::us,.cons r t,f=>λu' hu=>by
  rw[RZ,T6]at f
  rcases RB.mp hu with rfl|hu
  .rw[uP r f.1];exact BR r rx f.1 fx
  .exact hU rx fx t f.2 u' hu
def DI(x:V)(xs:List V):Bool:=xs.any λy=>eqV y x
def IZ(K:Frag)(neg:Bool):R2:=λx y H Q=>∃p xs,y=.ref p/\(aY K H p xs\/cr K H p xs)/\flatV x=true/\xs.all flatV=true/\Q (.bl (if neg then !DI x xs else DI x xs)) H
theorem xk:iD X (Ol .In) (IZ X.K false):=by
 intro gV s σ H x y v u Q I rx ry h;obtain⟨p,xs,rfl,hq,fx,fs,q⟩:=h;cases ry
 rcases hq with hq|hq
 .obtain⟨its,r,pl,hz⟩:=I.list hq;refine SeqAt.in_listAt (sJ x) pl.isList (λw hw=>hU rx fx r fs w (by simpa using hw)) ⟨.bl _,H,I,rfl,?_⟩;rw[show its.toArray.any (sJ x)=its.any (sJ x) by simp,kb r fs];exact q
 .obtain⟨its,r,pl,hz⟩:=I.tuple hq;refine SeqAt.in_tupleAt (sJ x) pl (λw hw=>hU rx fx r fs w (by simpa using hw)) ⟨.bl _,H,I,rfl,?_⟩;rw[show its.toArray.any (sJ x)=its.any (sJ x) by simp,kb r fs];exact q
theorem pY:iD X (Ol .NotIn) (IZ X.K true):=by
 intro gV s σ H x y v u Q I rx ry h;obtain⟨p,xs,rfl,hq,fx,fs,q⟩:=h;cases ry
 rcases hq with hq|hq
 .obtain⟨its,r,pl,hz⟩:=I.list hq;refine SeqAt.notIn_listAt (sJ x) pl.isList (λw hw=>hU rx fx r fs w (by simpa using hw)) ⟨.bl _,H,I,rfl,?_⟩;rw[show its.toArray.any (sJ x)=its.any (sJ x) by simp,kb r fs];exact q
 .obtain⟨its,r,pl,hz⟩:=I.tuple hq;refine SeqAt.notIn_tupleAt (sJ x) pl (λw hw=>hU rx fx r fs w (by simpa using hw)) ⟨.bl _,H,I,rfl,?_⟩;rw[show its.toArray.any (sJ x)=its.any (sJ x) by simp,kb r fs];exact q
theorem qC:bn X (.builtin "len") (λxs H Q=>∃p ys,xs=[.ref p]/\(aY X.K H p ys\/cr X.K H p ys)/\Q (.int ys.length) H):=by
 intro gV s σ H xs us Q I r h;obtain⟨p,ys,rfl,hq,q⟩:=h;obtain⟨u,rfl,rx⟩:=dL r;cases rx;have hn:=kQ
 rcases hq with hq|hq
 .obtain⟨its,r',pl,hz⟩:=I.list hq;have hlen:=r'.length;exact Calls.call_len_list pl.isList (by simp only[RD]<;>lia) ⟨.int ys.length,H,I.tok _,⟨s.toks+1,by rw[RD,hlen]⟩,q⟩
 .obtain⟨its,r',pl,hz⟩:=I.tuple hq;have hlen:=r'.length;exact len_tuple pl (by simp only[RD]<;>lia) ⟨.int ys.length,H,I.tok _,⟨s.toks+1,by rw[RD,hlen]⟩,q⟩
theorem qB:bn X (.builtin "len") (λxs H Q=>∃z,xs=[.str z]/\z.length<=sizeLine/\Q (.int z.length) H):=by intro gV s σ H xs us Q I r h;obtain⟨z,rfl,hz,q⟩:=h;obtain⟨u,rfl,t,rfl⟩:=dL r;have hn:=kQ;exact len_str (by lia) ⟨.int z.length,H,I.tok _,⟨_,rfl⟩,q⟩
theorem bn.or{f:Value}{r r':List V->Hp->VK->Prop}(h:bn X f r)(h':bn X f r'):bn X f (λxs H Q=>r xs H Q\/r' xs H Q):=by
 intro gV s σ H xs us Q I rs q
 rcases q with q|q
 .exact h gV s σ H xs us Q I rs q
 .exact h' gV s σ H xs us Q I rs q
theorem qA:bn X (.type "list") (λxs H Q=>∃p ys,xs=[.ref p]/\(aY X.K H p ys\/cr X.K H p ys)/\∀l,H l=none->Q (.ref l) (upd H l (.lst ys))):=by
 intro gV s σ H xs us Q I r h;obtain⟨p,ys,rfl,hq,q⟩:=h;obtain⟨u,rfl,rx⟩:=dL r;cases rx;have fin:∀(its:List Value),aZ ys its->ys.length<=sizeLine->∀(h':NZ)(c':Nat),(∀b o',s.heap.get? b=some o'->h'.get? b=some o')->
   h'.get? s.heap.objs.size=some {cls:=.type "list",dict:=none,data:=.seq its.toArray c',slots:= #[]}->EP X gV σ Q (.ref s.heap.objs.size) {s with heap:=h'}:=λits r' hz h' c' kp e=>
  ⟨.ref s.heap.objs.size,_,I.laid (t':=s.toks) kp (Tj _) (show bH X.prog X.w _ h' _ (.lst ys)from⟨hz,its,c',r',e⟩),rfl,q _ (I.hok.fresh (Tj _))⟩
 rcases hq with hq|hq
 .obtain⟨its,r',pl,hz⟩:=I.list hq;have hlen:=r'.length;obtain⟨o,ho,hc,n,hd⟩:=pl.isList;exact call_list_seq p (.inl rfl) ho hc hd (λh' c' kp e=>fin its r' hz h' c' kp e) (by simp only[RD]<;>lia)
 .obtain⟨its,r',pl,hz⟩:=I.tuple hq;have hlen:=r'.length;obtain⟨o,ho,hc,n,hd⟩:=pl;exact call_list_seq p (.inr rfl) ho hc hd (λh' c' kp e=>fin its r' hz h' c' kp e) (by simp only[RD]<;>lia)
def IA(K:Frag)(T:String)(x:V)(H:Hp):Prop:=match x with
 | .str _=>T="str"
 | .int _=>T="int"
 | .ref p=>(T="list"/\∃xs,aY K H p xs)\/(T="tuple"/\∃o,K.lookup p=some o/\o.cls=.type "tuple"/\o.dict=none)\/
   (T="dict"/\((∃kvs,H p=some (.dK kvs))\/∃kvs,H p=some (.dT kvs)))\/(T="set"/\∃S n,H p=some (.set S n))
 |_=>False
theorem ko{gV:NJ}{σ:St}{H:Hp}{s:NN}{T:String}{x:V}{v:Value}(I:aM X gV σ H s)(r:aV x v)(ty:IA X.K T x H):
  s.TypeIs v T/\∀a,v=.ref a->∃ob,s.heap.get? a=some ob/\ob.dict=none:=by
 cases x with
 |str z=>
  obtain⟨t,rfl⟩:=r;cases(show T="str"from ty);exact⟨PV s z t,λ_ e=>nomatch e⟩
 |int i=>
  obtain⟨t,rfl⟩:=r;cases(show T="int"from ty);exact⟨typeIs_int s i t,λ_ e=>nomatch e⟩
 |ref p=>
  cases r
  rcases ty with⟨rfl,xs,hq⟩|⟨rfl,o,hk,hc,hd⟩|⟨rfl,hk⟩|⟨rfl,S,n,hk⟩
  .obtain⟨its,_,pl,_⟩:=I.list hq;refine⟨pl.isList.typeIs,λa e=>?_⟩;cases e;obtain⟨o,n,e,c,hd,_⟩:=pl;exact⟨o,e,hd⟩
  .refine⟨⟨o,I.kIn p o hk,hc⟩,λa e=>?_⟩;cases e;exact⟨o,I.kIn _ o hk,hd⟩
  .have z:∃o,s.heap.get? p=some o/\o.ExactDict:=by
    rcases hk with⟨kvs,hk⟩|⟨kvs,hk⟩
    .obtain⟨_,_,_,_,o,_,_,e,ex,_⟩:=I.hok p _ hk;exact⟨o,e,ex⟩
    .obtain⟨_,_,_,_,o,_,_,e,ex,_⟩:=I.hok p _ hk;exact⟨o,e,ex⟩
   obtain⟨o,e,ex⟩:=z;refine⟨⟨o,e,ex.1⟩,λa e2=>?_⟩;cases e2;exact⟨o,e,ex.2.1⟩
  .obtain⟨o,_,_,_,e,ex,_⟩:=I.hok p _ hk;refine⟨⟨o,e,ex.1⟩,λa e2=>?_⟩;cases e2;exact⟨o,e,ex.2.1⟩
 |_=>exact False.elim ty
def M0(K:Frag)(T:String)(r:V->List V->Hp->VK->Prop)(to:TE)(t:TA):TE:=λσ H Q=>to σ H λx H1=>IA K T x H1/\t σ H1 λxs H2=>r x xs H2 Q
variable{o e:N5}{es:List N5}{to:TE}{t:TA}{name:Str}{apos cpos:Px}{T id:String}{r:V->List V->Hp->VK->Prop}
theorem LH(pa:PlainAttrs T)(slot:Slot T name id)(hty:Rp (.builtin id)=pure (.type "method_descriptor"))(hm:qR X id r)(ho:PE X o to)(ha:PA X (e::es) t)
  (hbase:Ot o name X.env (Om o X.env)=Om o X.env:=by rfl)
  (hfew:((Oh cpos (NU (e::es) X.env)).all (λx=> !x.1)&&(P1 cpos (Pc [] X.env)).all (λx=>x.1.isSome)
   &&decide ((e::es).length+([]:List Ph).length+(if([]:List Ph).isEmpty then 0 else 1)<30))=true:=by rfl)
  (hline:(apos.endLine == cpos.line)=true:=by rfl) (hs:NU (e::es) X.env=(false,Om e X.env)::NU es X.env:=by rfl) (hplain:(Oh cpos (NU es X.env)).any (·.1)=false:=by rfl):
  PE X (.Call (.Attribute o name apos) (e::es) [] cpos) (M0 X.K T r to t):=by
 intro gV s σ H Q I h;refine OF hbase hfew hline rfl (bU (ho gV s σ H _ I h) λv s1 ⟨x,H1,I1,r1,ty,q1⟩=>?_);obtain⟨h1,h2⟩:=ko I1 r1 ty;refine⟨T,id,pa,slot,hty,h1,h2,?_⟩;have hA:=ha cpos gV s1 σ H1 _ I1 q1;rw[hs]at hA ⊢;refine Ow (by show(false||(Oh cpos (NU es X.env)).any (·.1))=false;rw[hplain]<;>rfl) (OA ?_)
 exact bU hA λus s2 ⟨vs,H2,I2,r2,q2⟩=>hm gV s2 σ H2 x vs v us Q I2 r1 r2 q2
end
def Nt(X:Cx)(id:String)(r:V->List V->Hp->VK->Prop):Prop:=
 ∀(gV:NJ)(s:NN)(σ:St)(H:Hp)(x:V)(xs:List V)(v:Value)(us:List Value)(Q:VK),aM X gV σ H s->aV x v->aZ xs us->r x xs H Q->
  NS (NX X.prog X.w) X.A (call (.builtin id) (v::us)) (EP X gV σ Q) X.xe s
theorem aZ.one:∀{x:V}{us:List Value},aZ [x] us->∃u,us=[u]/\aV x u
 |_,_,.cons r .nil=>⟨_,rfl,r⟩
theorem aZ.two:∀{x y:V}{us:List Value},aZ [x,y] us->∃u v,us=[u,v]/\aV x u/\aV y v
 |_,_,_,.cons r (.cons q .nil)=>⟨_,_,rfl,r,q⟩
section
variable{X:Cx}{gV:NJ}{σ:St}{H:Hp}{s:NN}{l b:Addr}{xs ys zs:List V}
theorem aM.lset{its its':List Value}{n:Nat}{f:Array Value->Array Value}{t':Nat}(I:aM X gV σ H s)(hH:H l=some (.lst xs))
  (e:s.heap.get? l=some {cls:=.type "list",data:=.seq its.toArray n}) (hf:f its.toArray=its'.toArray) (hv:aZ ys its') (hz:ys.length<=sizeLine):
  aM X gV σ (upd H l (.lst ys)) {s with heap:=s.heap.update l (On f),toks:=t'}:=by
 have q:=PySem.IsL.update e f;rw[hf]at q;refine I.write (x:=l) (e:=l) (by rw[hH];exact trivial) (.inl rfl) (λb' u hb hu=>(OG s.heap (On f) (Ne.symm hb)).trans hu) ⟨_,q⟩ ?_;exact⟨hz,its',_,hv,q⟩
theorem aM.lnew{its:List Value}{t':Nat}(I:aM X gV σ H s)(hv:aZ ys its)(hz:ys.length<=sizeLine):
  aM X gV σ (upd H s.heap.objs.size (.lst ys)) {s with heap:=s.heap.push {cls:=.type "list",data:=.seq its.toArray},toks:=t'}:=
 I.laid (λ_ _ q=>NO _ q) (Tj _) ⟨hz,its,0,hv,NW _ rfl⟩
theorem aM.fresh(I:aM X gV σ H s):H s.heap.objs.size=none:=I.hok.fresh (Tj _)
theorem aM.lstM(I:aM X gV σ H s)(hH:H l=some (.lst xs)):xs.length<=sizeLine/\∃(its:List Value)(n:Nat),aZ xs its/\xs.length=its.length/\s.heap.get? l=some {cls:=.type "list",data:=.seq its.toArray n}:=by obtain⟨z,its,n,r,e⟩:=I.hok l _ hH;exact⟨z,its,n,r,r.length,e⟩
theorem mH{n:Nat}(h:n<=sizeLine):Pk n=false:=by unfold Pk;exact NB (by lia)
end
section
variable{X:Cx}
def Da:V->List V->Hp->VK->Prop:=λx vs H Q=>∃l xs y,x=.ref l/\vs=[y]/\H l=some (.lst xs)/\xs.length<sizeLine/\Q .non (upd H l (.lst (xs++[y])))
theorem xp:Nt X "list.append" Da:=by intro gV s σ H x vs v us Q I rx rv h;obtain⟨l,xs,y,rfl,rfl,hH,hz,q⟩:=h;cases rx;obtain⟨u,rfl,ru⟩:=rv.one;obtain⟨z,its,n,r,hl,e⟩:=I.lstM hH;refine Qx F.slot_list_append ⟨_,e,rfl⟩ F.entry_list_append (F.args_list_append_2 _ _) (PySem.list_append l its.toArray n u (by rw[RD];lia)) ⟨e,?_⟩;refine⟨.non,_,I.lset (its':=its++[u]) hH e (by simp) (r.append (.cons ru .nil)) ?_,rfl,q⟩;rw[RI,SR];lia
def lM:V->List V->Hp->VK->Prop:=λx vs H Q=>∃l b xs zs,x=.ref l/\vs=[.ref b]/\H l=some (.lst xs)/\H b=some (.lst zs)/\xs.length+zs.length<=sizeLine/\Q .non (upd H l (.lst (xs++zs)))
theorem xo:Nt X "list.extend" lM:=by
 intro gV s σ H x vs v us Q I rx rv h;obtain⟨l,b,xs,zs,rfl,rfl,hH,hB,hz,q⟩:=h;cases rx;obtain⟨u,rfl,ru⟩:=rv.one;cases ru;obtain⟨z,its,n,r,hl,e⟩:=I.lstM hH;obtain⟨z2,its2,n2,r2,hl2,e2⟩:=I.lstM hB;have hsz:its.toArray.size+its2.toArray.size<=sizeLine:=by rw[RD,RD];lia
 have hlong:¬(!its.toArray.isEmpty&&Pk (its.toArray.size+its2.toArray.size))=true:=by rw[mH hsz,Ue];exact T5
 refine Qx F.slot_list_extend ⟨_,e,rfl⟩ F.entry_list_extend (F.args_list_extend_2 _ _)
  (AutoSeq1.list_extend_list_list_0 l its.toArray n b its2.toArray n2 hlong (by rw[RD];lia) (by lia)) ⟨e,e2,?_⟩
 refine⟨.non,_,I.lset (its':=its++its2) hH e (by simp) (r.append r2) ?_,rfl,q⟩;rw[RI];lia
def LD:R2:=λx y H Q=>∃l b xs zs,x=.ref l/\y=.ref b/\H l=some (.lst xs)/\H b=some (.lst zs)/\xs.length+zs.length<=sizeLine/\∀p,H p=none->Q (.ref p) (upd H p (.lst (xs++zs)))
theorem Jl:iD X (OZ .Add) LD:=by
 intro gV s σ H x y v u Q I rx ry h;obtain⟨l,b,xs,zs,rfl,rfl,hH,hB,hz,q⟩:=h;cases rx;cases ry;obtain⟨z,its,n,r,hl,e⟩:=I.lstM hH;obtain⟨z2,its2,n2,r2,hl2,e2⟩:=I.lstM hB;refine PySem.P.add_list e e2 ?_ (by rw[RD,RD];lia);have ea:its.toArray++its2.toArray=(its++its2).toArray:=by simp
 rw[ea];exact⟨.ref _,_,I.lnew (t':=s.toks) (r.append r2) (by rw[RI];lia),rfl,q _ I.fresh⟩
end
section
variable{prog:NP}{w:NT}{A:N1}{E:NI}{s:NN}
theorem vc{a c n:Nat}(hac:a<=c)(hc:c<=n):OW (some (a:Int)) (some (c:Int)) none n=((a:Int),(c:Int),1):=by
 simp only[OW,Ux];have h1:¬((a:Int)<0):=by lia
 have h2:¬((c:Int)<0):=by lia
 simp only[h1,h2,if_false,show(1:Int) > 0 by decide,if_true];congr 1
 .lia
 .congr 1;lia
set_option maxRecDepth 100000 in
theorem Ct{l b sl:Addr}{items new:Array Value}{n n2:Nat}{vl vu:Value}{a c:Nat}{Q:Unit->NN->Prop}
  (e:s.heap.get? l=some {cls:=.type "list",data:=.seq items n}) (e2:s.heap.get? b=some {cls:=.type "list",data:=.seq new n2}) (hne:l≠b)
  (hs:s.heap.IsSliceOf sl vl vu .none) (pl:Qj vl (some (a:Int))) (pu:Qj vu (some (c:Int))) (hac:a<=c) (hc:c<=items.size)
  (hsz:items.size+new.size<=sizeLine) (h:Q () {s with heap:=s.heap.update l (On λxs=>xs.extract 0 a++new++xs.extract c xs.size)}):
  NS (NX prog w) A (setItem (.ref l) (.ref sl) (.ref b)) Q E s:=by
 have hl:s.heap.IsList l items:=PySem.IsL.isList e;have hb:s.heap.IsList b new:=PySem.IsL.isList e2;obtain⟨os,hos,hcs,hds⟩:=id hs;have hTs:s.TypeIs (.ref sl) "slice":=⟨os,hos,hcs⟩;have hstep:¬((rawPart none == QO 0)=true):=T5;have hsame:OR (.ref l) (.ref b)=false:=by unfold OR;exact beq_eq_false_iff_ne.mpr hne
 have hmax:(max (a:Int) (c:Int)).toNat=c:=by lia
 have hz':((λxs:Array Value=>xs.extract 0 a++new++xs.extract c xs.size) items).size<=sizeLine+1:=by simp only[Array.size_append,Array.size_extract];lia
 unfold setItem
 try with_reducible refine N4 ?_
 first|refine NK (NL ?_)|skip
 refine NK (wpAny_sequenceKey hl.typeIs (by decide) ?_);refine NK (Oi (name:=Pg "__setitem__") hl.typeIs slot_list_setitem
  (Oe slot_list_setitem hl.typeIs entry_list_setitem ?_ (args_list_setitem _ _ _)))
 show NS _ _ (PL (.ref sl) >>= _) _ _ s;refine NK ?_;unfold PL;refine NK (QA hTs slice_no_index ?_);simp only[Option.isNone_none,if_true];refine NL ?_;show NS _ _ (Rp (.ref sl) >>= _) _ _ s;refine NK (OX hTs ?_)
 first
  |rw[NC (by decide)]
  |refine PySem.W.KFB.if_not (by decide) ?_
 rw[listSliceParts_eq];refine NK (NK (Po hos hds (x:=.none) rfl (NK (QM .none ?_))));rw[NC hstep];refine NK (Po hos hds (x:=vl) rfl (NK (QM pl ?_)));refine NK (Po hos hds (x:=vu) rfl (NK (QM pu (NL ?_))))
 first
  |simp only[hsame,T8,if_false]
  |refine PySem.W.KFB.if_not hsame ?_
  |(dsimp only
    rw[NC (by rw[hsame];exact T5)])
 refine NK (m:=P9 (.ref b) "must assign iterable to extended slice") ?_;unfold P9;refine NK (OX hb.typeIs ?_)
 first
  |refine PySem.W.KFB.if_so (by decide) ?_
  |rw[ND (by decide)]
  |simp only[beq_self_eq_true,Bool.true_or,if_true]
 unfold Builtin.List.listItems;refine NK (OT e2 rfl (NL ?_));refine NK (NK (OT e rfl (NL ?_)));refine NK (Qa ((sliceIndices_raw (some (a:Int)) (some (c:Int)) none items.size (by simp)).trans (congrArg (pure:Int×Int×Int->Sem (Int×Int×Int)) (vc hac hc))) ?_);show NS _ _ (if((1:Int) == 1)=true then _ else _) _ _ s;rw[ND (by decide)];refine NK (wpAny_rule ?_)
 first
  |simp only[mH hsz,T8,if_false]
  |refine PySem.W.KFB.if_not (mH hsz) ?_
 first|refine NK (NL ?_)|skip
 show NS _ _ (updateSeq l (λxs=>xs.extract 0 ((a:Int)).toNat++new++xs.extract (max (a:Int) (c:Int)).toNat xs.size) >>= _) _ _ s;rw[hmax,TR];refine NK (Qz (hz:=Tn (TH _ _) hsz) (_hz':=hz') e rfl ?_);refine NK (wpAny_letGo ?_)
 first
  |exact NK (NL (NL ⟨.none,rfl,NL h⟩))
  |exact NL ⟨.none,rfl,NL h⟩
end
section
variable{κ:Type}[DecidableEq κ]
def valV(kvs:List (κ×V))(k:κ):Option V:=(kvs.find? λkv=>decide (kv.1=k)).map (·.2)
def pQ(kvs:List (κ×V))(k:κ)(v:V):List (κ×V):=
 if(kvs.any λkv=>decide (kv.1=k))=true then kvs.map (λkv=>if kv.1=k then(kv.1,v)else kv)else kvs++[(k,v)]
theorem Al{p:κ×V}{r:List (κ×V)}{k:κ}(e:p.1=k):valV (p::r) k=some p.2:=by simp[valV,SA,e]
theorem Am{p:κ×V}{r:List (κ×V)}{k:κ}(e:¬p.1=k):valV (p::r) k=valV r k:=by simp[valV,SA,e]
theorem si(kvs:List (κ×V))(k:κ)(v:V):(pQ kvs k v).length<=kvs.length+1:=by
 unfold pQ;split
 .rw[Rz];lia
 .rw[RI,RR,List.length_nil];lia
theorem lb.getD{o:Option V}{u:Option Value}{d:V}{d':Value}(r:lb o u)(rd:aV d d'):aV (o.getD d) (u.getD d'):=by
 cases o with
 |none=>cases u with
  |none=>exact rd
  |some _=>exact(show False from r).elim
 |some _=>cases u with
  |none=>exact(show False from r).elim
  |some _=>exact r
theorem KV.val{kvs:List (κ×V)}{vs:List (κ×Value)}(r:KV kvs vs)(k:κ):lb (valV kvs k) (Rb vs k):=by
 unfold KV at r
 induction r with
 |nil=>exact True.intro
 | @cons p q ps qs h t ih=>
   obtain⟨h1,h2⟩:=h
   by_cases e:p.1=k
   .have e':q.1=k:=h1.symm.trans e;have b:Rb (q::qs) k=some q.2:=by simp[Rb,SA,e']
    rw[Al e,b];exact h2
   .have e':¬q.1=k:=λz=>e (h1.trans z);have b:Rb (q::qs) k=Rb qs k:=by simp[Rb,SA,e']
    rw[Am e,b];exact ih
theorem KV.any{kvs:List (κ×V)}{vs:List (κ×Value)}(r:KV kvs vs)(k:κ):(kvs.any λkv=>decide (kv.1=k))=vs.any λkv=>decide (kv.1=k):=by
 unfold KV at r
 induction r with
 |nil=>rfl
 |cons h t ih=>rw[Sn,Sn,ih,h.1]
theorem KV.repl{kvs:List (κ×V)}{vs:List (κ×Value)}(r:KV kvs vs)(k:κ){y:V}{u:Value}(ry:aV y u):
  KV (kvs.map λkv=>if kv.1=k then(kv.1,y)else kv) (vs.map λkv=>if kv.1=k then(kv.1,u)else kv):=by
 unfold KV at r ⊢
 induction r with
 |nil=>exact .nil
 | @cons p q ps qs h t ih=>
   rw[RY,RY];refine .cons ?_ ih;obtain⟨h1,h2⟩:=h
   by_cases e:p.1=k
   .rw[ND e,ND (h1.symm.trans e)];exact⟨h1,ry⟩
   .rw[NC e,NC (λz=>e (h1.trans z))];exact⟨h1,h2⟩
theorem KV.put{kvs:List (κ×V)}{vs:List (κ×Value)}(r:KV kvs vs)(k:κ){y:V}{u:Value}(ry:aV y u):KV (pQ kvs k y) (Rv vs k u):=by
 unfold pQ Rv;rw[r.any k]
 by_cases e:(vs.any λkv=>decide (kv.1=k))=true
 .rw[ND e,ND e];exact r.repl k ry
 .rw[NC e,NC e];exact Paired.snoc r ⟨rfl,ry⟩
end
theorem Hj{P:NP}{w:NT}{k:Key}{u:Value}(r:aV (kV k) u):(eB P w).is k u=true:=by
 cases k with
 |inl i=>obtain⟨t,e⟩:=(show∃t,u=Pf i t from r);subst e;exact rV P w i t
 |inr x=>obtain⟨t,e⟩:=(show∃t,u=Pz x t from r);subst e;exact rT P w x t
section
variable{P:NP}{w:NT}{H:Hp}{h:NZ}{a:Addr}
theorem Ly{u:HO}(ok:jC P w H h)(e:Rd H a u):bH P w H h a u:=e.ok ok
theorem Mo{kvs:List (Key×V)}(ok:jC P w H h)(e:Rd H a (.dK kvs)):kvs.length<=sizeLine/\(a == PX)=false/\∃vs,KV kvs vs/\h.DictOf (eB P w) a vs:=
 show bH P w H h a (.dK kvs)from Ly ok e
theorem Mp{kvs:List (Key×V)}(ok:jC P w H h)(e:H a=some (.dK kvs)):kvs.length<=sizeLine/\(a == PX)=false/\∃vs,KV kvs vs/\h.DictOf (eB P w) a vs:=Mo ok (.inl e)
end
section
variable{X:Cx}{gV:NJ}{σ:St}{H:Hp}{s:NN}{a:Addr}{y v:V}{u r:Value}{o:Option V}{A:N1}{E:NI}
theorem aM.big(I:aM X gV σ H s):PX<s.heap.objs.size:=by have h:NM<s.heap.objs.size:=(I.mod.glob.keeps I.bk).lt;exact Ts (by decide) h
theorem J1{P:NP}{w:NT}{H':Hp}{h':NZ}{kvs:List (Key×V)}{vs:List (Key×Value)}(z:kvs.length<=sizeLine)(hd:(a == PX)=false)(rel:KV kvs vs)(dd:h'.DictOf (eB P w) a vs):
  bH P w H' h' a (.dK kvs):=⟨z,hd,vs,rel,dd⟩
end
structure M1(X:Cx)(o:N5)(m:Str)(apos:Px)(e:N5)(cpos:Px):Prop where
 Ny:Ot o m X.env (Om o X.env)=Om o X.env
 few:((Oh cpos (NU [e] X.env)).all (λx=> !x.1)&&(P1 cpos (Pc [] X.env)).all (λx=>x.1.isSome)
  &&decide (([e]:List N5).length+([]:List Ph).length+(if([]:List Ph).isEmpty then 0 else 1)<30))=true
 line:(apos.endLine == cpos.line)=true
 trees:Oh cpos (NU [e] X.env)=[(false,Om e X.env)]
end L2
namespace Att
open PySem PySem.W PySem.Calls PyProof.Rows
theorem lE{P:Pw}{h:NZ}:∀(ns:List Int)(vs:List Value),WellAll P h vs (ns.map WData.int)->QS vs ns:=by
 intro ns
 induction ns with
 |nil=>
  intro vs w;rw[SQ]at w;cases w;exact .nil
 |cons n ns ih=>
  intro vs w;rw[RY]at w;cases w with
  |cons a b=>
   cases a;exact .cons _ _ (ih _ b)
theorem wS{l:OpenLaw}{n:Nat}(hn:l.most=some n){P:Pw}{h:NZ}{args:List WData}{vals:List Value}
  (hpre:l.row.toRowW.claim.pre args=true) (hwl:WellAll P h vals args):
  ∃a vs ns,vals=[NY a]/\args=[WData.list (ns.map WData.int)]/\h.get? a=some {cls:=.type "list",data:=.seq vs.toArray}/\QS vs ns/\ns.length<=n:=by
 have hsh:WShape.hasAll [] args [.list .int]=true:=(pre_splitW hpre).1;have hc:l.pre.holds [] {args:=args}=true:=(pre_splitW hpre).2;obtain⟨d,r,rfl,h1,h2⟩:=hasAllW_cons hsh;obtain rfl:=hasAllW_nil h2;obtain⟨xs,rfl,h3⟩:=hasW_list h1;obtain⟨ns,rfl⟩:=items_int h3;have hlen:ns.length<=n:=by
  unfold OpenLaw.pre at hc;have h4:(WTm.not (.lt (.lit (.int (n:Int))) (.len (.arg 0)))).holds [] {args:=[.list (ns.map .int)]}=true:=by have h4:=(holds_andW hc).1;rw[hn]at h4;exact h4
  have h5:=condW_of h4 (w_not (w_lt w_lit (w_len_list (w_arg rfl))));rw[Rz]at h5;refine Nat.le_of_not_lt λq=>?_;have q':(n:Int)<((ns.length:Nat):Int):=by lia
  first
   |(rw[NA q']at h5;exact NG h5 (by decide))
   |(simp at h5;lia)
 cases hwl with
 |cons w1 w2=>
  cases w2;cases w1 with
  |list ho hall=>exact⟨_,_,ns,rfl,rfl,ho,lE ns _ hall,hlen⟩
theorem w9(l:OpenLaw)(args:List WData):l.row.toRowW.claim.post args (.bool true) args=true:=
 postW_of (r:=l.row.toRowW) (X:=(true == true))
  (show WShape.has [] (.bool true) .bool=true by first|rfl|decide|simp[WShape.has,WShape.arms,WShape.armsAll])
  (show(WTm.eq .res (.lit (.bool true))).value [] {args:=args,res:=some (.bool true),after:=args}=some (.bool (true == true))from w_eq_bool (w_res rfl) w_lit) rfl
theorem attach_call{l:OpenLaw}{n:Nat}{q:NP}{loose:List Str}{XP:(NH)->NZ->Prop}{YP:NT->NZ->Prop}{d:DefRec}
  (hn:l.most=some n) (hdf:d.params.defaults=[])
  (call:∀(w:NT)(s₀ s₁:NN)(mg mb:NH)(fa:Addr)(o:Obj)(pm cd doc:Value)(a:Addr)(vs:List Value)(ns:List Int),
   Ground q loose [] XP w s₀ mg mb s₁.heap->YP w s₁.heap->
   s₁.heap.get? fa=some o->o.data=.func (docDef d.name d.params d.body d.scope pm cd doc)->s₁.heap.CodeRec cd d.name->mg d.name=some (.ref fa)->
   s₁.heap.get? a=some {cls:=.type "list",data:=.seq vs.toArray}->QS vs ns->ns.length<=n->s₁.gens= #[]->
   O7 (NX l.prog w) QR (.call (.ref fa) ⟨[.ref a],[]⟩) (λr s'=>r=.ok (.ret (.bool true))/\OldK s₁.heap s'.heap/\s'.os=s₁.os/\PD s'.gens) s₁):
  WalkO q loose XP YP l.row.toRowW d [] (λf vs=>PySem.call f vs):=by
 intro w s₀ s₁ mg mb G Y fa o pm cd doc dV kV ho hd hcd hD hmg hg args vals as hpre hlay hrd hwl hlo;obtain rfl:dV=.none:=Dflts.none hD hdf;obtain rfl:kV=.none:=Dflts.noKw hD;obtain⟨a,vs,ns,rfl,rfl,hobj,hints,hlen⟩:=wS hn hpre hwl;refine enter_call (Ou (call w s₀ s₁ mg mb fa o pm cd doc a vs ns G Y ho (fd_plain hd) hcd hmg hobj hints hlen hg) λr s' hq=>?_);obtain⟨rfl,h2,h3,h4⟩:=hq;exact⟨.inl ⟨.bool true,.bool true,[],rfl,λ_=>rfl,.bool true,w9 l _,λ_=>⟨List.Pairwise.nil,λ_ hm=>(nomatch hm)⟩⟩,h2,h3,h4⟩
end Att
namespace L2
open PySem PySem.Spec PyProof.Rows
theorem kn:∀{vs:List Value}{ns:List Int},QS vs ns->aZ (ns.map V.int) vs
 |_,_,.nil=>.nil
 |_,_,.cons n t h=>.cons ⟨t,rfl⟩ (kn h)
def Ks(H:Hp):Prop:= ∀b,H b=none\/∃o xs,H b=some (.frz o (.lst xs))
theorem Bh{P:NP}{w:NT}{K:Frag}{mg mb:NH}{CX:wE}{k:Nat}{fa a:Addr}{fd:NV}{x:Str}{sp:Sp}{s₁:NN}{vs:List Value}{ns:List Int}
  (KX:K.In s₁.heap) (hns:s₁.heap.Ns NM mg) (hb:s₁.heap.Ns builtinsNs mb) (hbb:∀x:Str,x≠"__name__"->mb x=N2 x) (hlim:s₁.heap.NoLimit) (hg:s₁.gens= #[])
  (ha:s₁.heap.get? a=some {cls:=.type "list",data:=.seq vs.toArray}) (hi:QS vs ns) (hl:ns.length<=sizeLine) (hr:cI k QR)
  (F:∀Ny:NZ,K.In Ny->Ny.Ns NM mg->bg P w K mg Ny CX k fa fd [x] sp) (hbind:∀(s:NN)(u:Value),QT s fd ⟨[u],[]⟩ [(x,u)])
  (hsp:∀H:Hp,Ks H->aY K H a (ns.map V.int)->sp [.ref a] H (λv _=>v=.bl true) λ_ _ _=>False)
  (hCX:∀H e s',CX [] H s₁ (λ_ _ _=>False) e s'->False):
  O7 (NX P w) QR (.call (.ref fa) ⟨[.ref a],[]⟩) (λr s'=>r=.ok (.ret (.bool true))/\OldK s₁.heap s'.heap/\s'.os=s₁.os/\PD s'.gens) s₁:=by
 have rv:=kn hi;have lenV:=hi.length;have core:∀H:Hp,Ks H->aY K H a (ns.map V.int)->jC P w H s₁.heap->(∀b,H b≠none->b=a)->(H a≠none->K.lookup a=none)->
   O7 (NX P w) QR (.call (.ref fa) ⟨[.ref a],[]⟩) (λr s'=>r=.ok (.ret (.bool true))/\OldK s₁.heap s'.heap/\s'.os=s₁.os/\PD s'.gens) s₁:=by
  intro H hO hS hok hA hK;have base_of:∀{b:Addr}{o:Obj},s₁.heap.get? b=some o->H b=none->(qr s₁.heap H).get? b=some o:=λe n=>Bs e n;have noA:∀{b:Addr}{o:Obj}{es:Array DictEntry}{ep:Nat},s₁.heap.get? b=some o->o.data=.dict es ep->H b=none:=λ{b o es ep} e d=>by
   cases q:H b with
   |none=>rfl
   |some u=>
    have e':b=a:=hA b (by rw[q];simp);subst e';rw[ha]at e;cases e;have d':Data.seq vs.toArray _=Data.dict es ep:=d;cases d'
  have nsK:∀{b:Addr}{m:NH},s₁.heap.Ns b m->(qr s₁.heap H).Ns b m:=λ{b m} ⟨o,es,ep,e,d,r⟩=>⟨o,es,ep,base_of e (noA e d),d,r⟩;have hKb:K.In (qr s₁.heap H):=λb o e=>base_of (KX b o e) (by
   cases q:H b with
   |none=>rfl
   |some u=>
    have e':b=a:=hA b (by rw[q];simp);subst e';rw[hK (by rw[q];simp)]at e;cases e)
  have hM:Mod K mg (qr s₁.heap H):=⟨hKb,nsK hns,⟨mb,nsK hb,hbb⟩,let ⟨mc,h1,h2⟩:=hlim;⟨mc,nsK h1,h2⟩⟩;have e0:qP P w K mg (qr s₁.heap H) QR [] s₁ H:=⟨rfl,hM,λb o e=>Ds e,Tu (xD _ _),trivial,λb hb=>NG (show b∈([]:List Addr)from hb) (by simp),hok,.of_eq hg⟩;refine Ou ((F _ hKb (nsK hns)).run QR [] s₁ H ⟨[.ref a],[]⟩ [.ref a] [.ref a] _ _ hr e0 (hbind s₁ (.ref a)) (.cons rfl .nil) (hsp H hO hS)) λr s' h=>?_;cases r with
  |error e=>exact(hCX H e s' h).elim
  |ok fl=>
   cases fl with
   |next=>exact False.elim h
   |brk=>exact False.elim h
   |cont=>exact False.elim h
   |ret u=>
    obtain⟨v,H',os,bare,un,hok',r',q⟩:=h;have q':v=.bl true:=q;subst q';obtain rfl:u=Q8 true:=r';refine⟨rfl,OldK.of_keep λb o e=>?_,os,bare⟩;cases q:H b with
    |none=>exact un.keep b o e q (by intro z;exact NG (show b∈([]:List Addr)from z) (by simp)) (by simp)
    |some u=>
     rcases hO b with z|⟨ob,xs,z⟩
     .rw[q]at z;cases z
     .have z2:=un.frzs b ob _ z;obtain⟨e1,_⟩:=hok b _ z;obtain⟨e2,_⟩:=hok' b _ z2;rw[e]at e1;cases e1;exact e2
 cases hk:K.lookup a with
 |some o=>
  have e:=KX a o hk;rw[ha]at e;cases e;refine core (λ_=>none) (λ_=>.inl rfl) (.inr ⟨_,vs.toArray,_,hk,rfl,rfl,rfl,by rw[RD,lenV];exact hl,by simpa using rv⟩) (λb u z=>by have z':(none:Option HO)=some u:=z;cases z') (λb z=>NG rfl z) λz=>NG rfl z
 |none=>
  refine core (λb=>if b=a then some (.frz {cls:=.type "list",data:=.seq vs.toArray} (.lst (ns.map V.int)))else none) (λb=>?_) (.inl (.inr ⟨{cls:=.type "list",data:=.seq vs.toArray},ND rfl⟩)) (λb u z=>?_) (λb z=>?_) λ_=>hk
  .by_cases hb:b=a
   .exact .inr ⟨_,_,ND hb⟩
   .exact .inl (NC hb)
  .by_cases hb:b=a
   .have z':=(ND hb).symm.trans z;cases z';subst hb;exact⟨ha,by rw[Rz];exact hl,vs,_,rv,ha⟩
   .have z':=(NC hb).symm.trans z;cases z'
  .by_cases hb:b=a
   .exact hb
   .exact NG (NC hb) z
theorem CU{l:PySem.W.OpenLaw}{n k:Nat}{q:NP}{loose:List Str}{XP:(NH)->NZ->Prop}{YP:NT->NZ->Prop}{d:DefRec}{K:Pw->Frag}{CX:NT->wE}{sp:NT->Sp}{x:Str}
  (hn:l.most=some n) (hn2:n<=sizeLine) (hdf:d.params.defaults=[]) (hr:cI k QR)
  (hY:∀(w:NT)(h:NZ),YP w h->(K w.params).In h)
  (F:∀(w:NT)(mg:NH)(fa:Addr)(h:NZ),(K w.params).In h->h.Ns NM mg->mg d.name=some (.ref fa)->
   ∃fd:NV,(∀(s:NN)(u:Value),QT s fd ⟨[u],[]⟩ [(x,u)])/\
    ∀Ny:NZ,(K w.params).In Ny->Ny.Ns NM mg->bg l.prog w (K w.params) mg Ny (CX w) k fa fd [x] (sp w))
  (hsp:∀(w:NT)(H:Hp)(a:Addr)(ns:List Int),ns.length<=n->Ks H->aY (K w.params) H a (ns.map V.int)->sp w [.ref a] H (λv _=>v=.bl true) λ_ _ _=>False)
  (hCX:∀(w:NT)(H:Hp)(s:NN)(e:Value)(s':NN),CX w [] H s (λ_ _ _=>False) e s'->False):
  PySem.W.WalkO q loose XP YP l.row.toRowW d [] (λf vs=>PySem.call f vs):=by
 refine Att.attach_call hn hdf λw s₀ s₁ mg mb fa o pm cd doc a vs ns G Y ho hd hcd hmg hobj hints hlen hg=>?_;have KX:=hY w _ Y;obtain⟨fd,hb,hF⟩:=F w mg fa _ KX G.T.g hmg;exact Bh KX G.T.g G.T.b G.T.builtins G.T.nolimit hg hobj hints (Tn hlen hn2) hr hF hb (λH hO hS=>hsp w H a ns hlen hO hS) λH e s'=>hCX w H s₁ e s'
def fS(s:N6)(j:Nat):N6:=match s with
 | .ClassDef _ _ _ body _ _ _ _ _ _ _=>body.getD j (.Pass ⟨0,0,0,0⟩)
 |_=>.Pass ⟨0,0,0,0⟩
def gD(s:N6):Arguments:=match s with
 | .FunctionDef _ a _ _ _ _ _ _ _ _=>a
 |_=>{posonlyargs:=[],args:=[],vararg:=none,kwonlyargs:=[],kw_defaults:=[],kwarg:=none,defaults:=[]}
def eE(s:N6):List N6:=match s with
 | .FunctionDef _ _ b _ _ _ _ _ _ _=>b
 |_=>[]
def ao(s:N6):O0:=match s with
 | .FunctionDef _ _ _ _ _ _ sc _ _ _=>sc
 |_=>{kind:=.function,names:=[],isGenerator:=false,isCoroutine:=false}
abbrev cV:wE:=λ_ _ _ _ _ _=>False
abbrev E0:XK:=λ_ _ _=>False
theorem A2{X:Cx}:m8 cV X E0:=λ_ _ _ _ _ _ _ h=>h.elim
structure bB(K:Frag)(x qual:Str)(st:N6)(f:Addr)(fd:NV):Prop where
 ex:∃(oc:Value)(od:Option Addr)(kV doc pm:Value)(an:Option Addr)(cdv ct:Value)(osl:Array (Option Value)),
  fd=UI x qual (gD st) (eE st) (ao st) .none kV doc pm an cdv ct/\K.lookup f=some ⟨oc,od,.func fd,osl⟩/\UV K cdv qual=true
 kp:UF K (.ref f)=true
section
variable{P:NP}{w:NT}{K:Frag}{mg:NH}{Ny:NZ}
theorem bB.ok{x qual:Str}{st:N6}{f:Addr}{fd:NV}{N ps:List Str}{k:Nat}{sp:Sp}(F:bB K x qual st f fd)(S:aG N ps (ao st))(len:∀vs H Q E,sp vs H Q E->vs.length=ps.length)
  (hbody:∀(cdv:Value)(A:N1)(Nz:List QK)(s:NN)(H:Hp)(vs:List V)(Q:VK)(E:XK),cI k (A.deeper (OU qual (ao st) s.heap.objs.size f cdv))->sp vs H Q E->
   ∃t,qN (mT cV P w K mg Ny N qual (ao st) f cdv A Nz s H E).nox (eE st) t/\t {nx:=λ_ H'=>Q .non H',rt:=Q} (start N vs) H):bg P w K mg Ny cV (k+1) f fd ps sp:=by
 obtain⟨oc,od,kV,doc,pm,an,cdv,ct,osl,rfl,lk,hcd⟩:=F.ex;refine Ho lk hcd S len λA Nz s H vs Q E hr hsp=>?_;obtain⟨t,h,q⟩:=hbody cdv A Nz s H vs Q E hr hsp;exact⟨t,h.nox,q⟩
theorem bB.binds{x qual:Str}{st:N6}{f:Addr}{fd:NV}{ps:List Str}(F:bB K x qual st f fd)
  (h:∀(kV doc pm:Value)(an:Option Addr)(cdv ct:Value)(us:List Value),us.length=ps.length->bindArgs (UI x qual (gD st) (eE st) (ao st) .none kV doc pm an cdv ct) ⟨us,[]⟩=pure (ps.zip us)):gG K fd ps []:=by
 obtain⟨oc,od,kV,doc,pm,an,cdv,ct,osl,rfl,lk,hcd⟩:=F.ex;exact .all (h kV doc pm an cdv ct)
theorem BA{x qual:Str}{st:N6}{f:Addr}{oc:Value}{od an:Option Addr}{osl:Array (Option Value)}{kV doc pm cdv ct:Value}(l:K.lookup f=some ⟨oc,od,.func (UI x qual (gD st) (eE st) (ao st) .none kV doc pm an cdv ct),osl⟩)
  (c:UV K cdv qual=true) (k:UF K (.ref f)=true):bB K x qual st f (UI x qual (gD st) (eE st) (ao st) .none kV doc pm an cdv ct):=⟨⟨oc,od,kV,doc,pm,an,cdv,ct,osl,rfl,l,c⟩,k⟩
end
theorem iB{A B:Prop}(h:B):if false=true then A else B:=by rw[NC T5];exact h
theorem iR{A B:Prop}(h:A):if true=true then A else B:=by rw[ND rfl];exact h
def ak(H H':Hp):Prop:= ∀b o,H b=some o->H' b=some o
theorem ak.refl(H:Hp):ak H H:=λ_ _ h=>h
theorem ak.trans{H H1 H2:Hp}(a:ak H H1)(b:ak H1 H2):ak H H2:=λc o h=>b c o (a c o h)
theorem ak.free{H H':Hp}(e:ak H H'){l:Addr}(h:H' l=Option.none):H l=Option.none:=by
 cases q:H l with
 |none=>rfl
 |some o=>
  rw[e l o q]at h;cases h
theorem ak.seq{K:Frag}{H H':Hp}{a:Addr}{xs:List V}(e:ak H H')(h:aY K H a xs):aY K H' a xs:=by
 rcases h with(h|⟨o,h⟩)|h
 .exact .inl (.inl (e _ _ h))
 .exact .inl (.inr ⟨o,e _ _ h⟩)
 .exact .inr h
noncomputable def j8(env:QK):List (Str×NameKind)->List (Str×Addr)->List (Str×Addr)
 | [],cs=>cs
 |(n,k)::r,cs=>j8 env r (if k == .free then(match env.cells.lookup n with|some a=>(n,a)::cs|none=>cs)else cs)
theorem gP(env:QK):∀(l:List (Str×NameKind))(cs:List (Str×Addr)),(∀x∈l,x.2=.free->∃c,env.cells.lookup x.1=some c)->
  (forIn l cs λ(x:Str×NameKind) r=>if(x.2 == OP)=true then do let a<-cellOf env x.1;pure (ForInStep.yield ((x.1,a)::r))else pure (ForInStep.yield r):Sem (List (Str×Addr)))=pure (j8 env l cs)
 | [],cs,_=>rfl
 |(n,k)::r,cs,h=>by
  have hr:∀x∈r,x.2=.free->∃c,env.cells.lookup x.1=some c:=λx hx=>h x (RF _ hx);rw[List.forIn_cons,j8]
  by_cases hk:(k == OP)=true
  .obtain⟨c,hc⟩:=h (n,k) RK (by simpa using hk);have hc':env.cells.lookup n=some c:=hc;have e:cellOf env n=pure c:=by unfold cellOf;rw[hc']
   simp only[hk,if_true,e,pure_bind,hc'];exact gP env r _ hr
  .simp only[hk,if_false,pure_bind];exact gP env r _ hr
theorem jn{scope:O0}{env:QK}(h:∀x∈scope.names,x.2=.free->∃c,env.cells.lookup x.1=some c):closureFor scope env=pure (j8 env scope.names []):=by have e:=gP env scope.names [] h;unfold closureFor;show(forIn scope.names ([]:List (Str×Addr)) _ >>= λr=>pure r:Sem (List (Str×Addr)))=_;rw[bind_pure];exact e
theorem sP(env:QK):∀(l:List (Str×NameKind))(cs:List (Str×Addr))(x:Str)(c:Addr),cs.lookup x=some c->env.cells.lookup x=some c->(j8 env l cs).lookup x=some c
 | [],_,_,_,h,_=>h
 |(n,k)::r,cs,x,c,h,e=>by
  rw[j8];refine sP env r _ x c ?_ e;split
  .cases q:env.cells.lookup n with
   |none=>exact h
   |some a=>
    show List.lookup x ((n,a)::cs)=some c;rw[Se];cases hx:x == n with
    |false=>exact h
    |true=>
     have:x=n:=by simpa using hx
     subst this;rw[q]at e;exact e
  .exact h
theorem mY(env:QK):∀(l:List (Str×NameKind))(cs:List (Str×Addr))(x:Str)(c:Addr),(∀y d,cs.lookup y=some d->env.cells.lookup y=some d)->(j8 env l cs).lookup x=some c->env.cells.lookup x=some c
 | [],cs,x,c,h,e=>h x c e
 |(n,k)::r,cs,x,c,h,e=>by
  rw[j8]at e;refine mY env r _ x c ?_ e;intro y d q;split at q
  .cases z:env.cells.lookup n with
   |none=>rw[z]at q;exact h y d q
   |some a=>
    rw[z]at q;have q2:List.lookup y ((n,a)::cs)=some d:=q;rw[Se]at q2;cases hx:y == n with
    |false=>rw[hx]at q2;exact h y d q2
    |true=>
     rw[hx]at q2;have hyn:y=n:=by simpa using hx
     rw[hyn,z];exact q2
  .exact h y d q
theorem mZ(env:QK):∀(l:List (Str×NameKind))(cs:List (Str×Addr))(x:Str)(c:Addr),(x,OP)∈l->env.cells.lookup x=some c->(j8 env l cs).lookup x=some c
 | [],_,_,_,h,_=>by simp at h
 |(n,k)::r,cs,x,c,h,e=>by
  rw[j8]
  rcases RB.mp h with h|h
  .have h1:n=x:=(congrArg Prod.fst h).symm;have h2:k=OP:=(congrArg Prod.snd h).symm;subst h1 h2;refine sP env r _ n c ?_ e;rw[e];show List.lookup n (if(OP == OP)=true then(n,c)::cs else cs)=some c;rw[ND (by decide),Se];simp
  .exact mZ env r _ x c h e
theorem jP(scope:O0)(env:QK)(x:Str):(Rf scope env).names.lookup x=
  (scope.names.lookup x).map λk=>if(k == .free&&env.scope.kind == .function&&env.kindOf x == some .cell)=true then Qi else k:=by
 show(scope.names.map λ(p:Str×NameKind)=>if(p.2 == .free&&env.scope.kind == .function&&env.kindOf p.1 == some .cell)=true then(p.1,Qi)else(p.1,p.2)).lookup x=_
 induction scope.names with
 |nil=>rfl
 |cons p r ih=>
  obtain⟨n,k⟩:=p;rw[RY];show List.lookup x ((if(k == .free&&env.scope.kind == .function&&env.kindOf n == some .cell)=true then(n,Qi)else(n,k))::_)=_;cases hx:x == n with
  |false=>
   have e1:List.lookup x ((n,k)::r)=List.lookup x r:=by rw[Se,hx]
   rw[e1];split<;>(rw[Se,hx];exact ih)
  |true=>
   have:x=n:=by simpa using hx
   subst this;have e1:List.lookup x ((x,k)::r)=some k:=by rw[Se,hx]
   rw[e1];show _=some _;split
   .rename_i hc;rw[Se,hx];show some Qi=some (if _ then _ else _);rw[ND hc]
   .rename_i hc;rw[Se,hx];show some k=some (if _ then _ else _);rw[NC hc]
structure cp(X:Cx)(N:List Str)(src:List (Option Nat))(scope:O0):Prop where
 kind:scope.kind=.function
 nocell:∀y∈scope.names,y.2≠.cell
 names:∀y∈scope.names,y.2=.local->scope.names.lookup y.1=some .local
 fre:∀y∈scope.names,y.2=.free->X.env.kindOf y.1=some .cell\/X.env.kindOf y.1=some .free
 len:src.length=N.length
 nd:N.Nodup
 src:∀(j i:Nat)(x:Str),N[j]? =some x->src[j]? =some (some i)->X.N[i]? =some x/\scope.names.lookup x=some .free
noncomputable def uV(dsc:O0)(XN N:List Str)(src:List (Option Nat))(scope:O0):Bool:=
 decide (scope.kind=.function)&&scope.names.all (λy=>decide (y.2≠.cell))&&scope.names.all (λy=> !decide (y.2=.local)||decide (scope.names.lookup y.1=some .local))&&
 scope.names.all (λy=> !decide (y.2=.free)||decide (dsc.names.lookup y.1=some .cell)||decide (dsc.names.lookup y.1=some .free))&&decide (src.length=N.length)&&decide N.Nodup&&
 (N.zip src).all λp=>match p.2 with
  |none=>true
  |some i=>decide (XN[i]? =some p.1)&&decide (scope.names.lookup p.1=some .free)
theorem cp.of{X:Cx}{dsc:O0}{XN N:List Str}{src:List (Option Nat)}{scope:O0}(he:X.env.scope=dsc)(hN:X.N=XN)(h:uV dsc XN N src scope=true):cp X N src scope:=by
 subst he hN;unfold uV at h;simp only[T6,decide_eq_true_eq,R1,Uc,T9,decide_eq_false_iff_not]at h;obtain⟨⟨⟨⟨⟨⟨h1,h2⟩,h3⟩,h4⟩,h5⟩,h6⟩,h7⟩:=h;refine⟨h1,h2,λy hy e=>?_,λy hy e=>?_,h5,h6,λj i x e1 e2=>?_⟩
 .rcases h3 y hy with q|q
  .exact NG e q
  .exact q
 .rcases h4 y hy with(q|q)|q
  .exact NG e q
  .exact .inl q
  .exact .inr q
 .have hm:(x,some i)∈N.zip src:=by
   have:(N.zip src)[j]? =some (x,some i):=by rw[List.getElem?_zip_eq_some];exact⟨e1,e2⟩
   exact RT this
  have q:=h7 _ hm;simpa using q
noncomputable def cxC(X:Cx)(scope:O0)(N:List Str)(s:NN)(H:Hp)(ex:List Addr):Cx:=
 {X with
  N:=N
  s₀:=s
  H₀:=H
  env:=compEnvC scope (j8 X.env scope.names []) s.heap.objs.size X.env
  Nz:=X.stack
  ex:=ex
  fn:=λ_=>false
  pn:=[]
  xe:=λ_ _=>False}
noncomputable def fO(src:List (Option Nat))(σ:St):St:=src.map λo=>match o with|none=>none|some i=>(σ[i]?).join
section
variable{X:Cx}{gV:NJ}{σ:St}{H:Hp}{s:NN}{N:List Str}{src:List (Option Nat)}{scope:O0}{ex:List Addr}
theorem cp.cells(S:cp X N src scope)(ok:X.Ok):∀x∈scope.names,x.2=.free->∃c,X.env.cells.lookup x.1=some c:=λx hx e=>ok.has _ (S.fre x hx e)
theorem aM.enterC(I:aM X gV σ H s)(S:cp X N src scope)(hf:∀b∈ex,jz X gV H b)(hlt:∀b∈ex,b<s.heap.objs.size){h1:NZ}{m:NH}{tk:Nat}
  (hns:h1.Ns s.heap.objs.size m) (hk:∀b o,s.heap.get? b=some o->h1.get? b=some o):aM (cxC X scope N s H ex) [] (fO src σ) H {s with heap:=h1,toks:=tk}:=by
 have neC:∀b o,s.heap.get? b=some o->b≠s.heap.objs.size:=λb o e=>Tk (NQ e);have sub:∀x c,(j8 X.env scope.names []).lookup x=some c->X.env.cells.lookup x=some c:=λx c e=>mY X.env _ _ x c (λy d z=>by simp at z) e;refine⟨⟨I.ok.mod,S.kind,I.ok.glob,I.ok.blt,Tj _,λx y c e1 e2=>I.ok.inj x y c (sub x c e1) (sub y c e2),λx hx=>?_,λx c z=>NG z (by simp[cxC]),I.ok.hd,I.ok.frames,.inl rfl,λb hb=>?_,I.bs,Tn I.ok.bsz I.sz,λb o e hb=>?_,λb hb hz=>?_,I.stack,I.stkFree⟩,
  rfl,I.bare,Un.kept hk,⟨m,hns,λj x v e1 e2 e3=>?_⟩,λx c e=>?_,I.hok.fresh (Tj _),λx c e=>I.freeC x c (sub x c e),λp hp=>NG (show p∈([]:NJ)from hp) (by simp),I.hok.kept hk,?_⟩
 .have hx:(Rf scope X.env).names.lookup x=some .cell\/(Rf scope X.env).names.lookup x=some .free:=hx;have hm:(x,OP)∈scope.names:=by
   rw[jP]at hx;cases q:scope.names.lookup x with
   |none=>rw[q]at hx;simp at hx
   |some k=>
    have hm:=PySem.mem_of_lookup q;cases k with
    |free=>exact hm
    |cell=>exact NG rfl (S.nocell _ hm)
    |_=>rw[q]at hx;simp at hx
  obtain⟨c,hc⟩:=S.cells I.ok _ hm rfl;exact⟨c,mZ X.env _ _ x c hm hc⟩
 .obtain⟨f0,f1,f2,f3,f4,f5⟩:=hf b hb;exact⟨Tk (hlt b hb),λx c e=>f4 x c (sub x c e)⟩
 .obtain⟨f0,f1,f2,f3,f4,f5⟩:=hf b hb
  rcases f3 with z|z
  .exact I.ok.noex b o e z
  .exact NG (To (NQ (I.ok.bs b o e).1) z) (Tq _)
 .obtain⟨f0,f1,f2,f3,f4,f5⟩:=hf b hb
  rcases RB.mp (I.stkSub b hz)with z|z
  .exact f1 z
  .exact f2 z
 .have e2:(fO src σ)[j]? =some (some v):=e2;unfold fO at e2;rw[RE]at e2;cases q:src[j]? with
  |none=>rw[q]at e2;simp at e2
  |some o=>
   rw[q]at e2;cases o with
   |none=>simp at e2
   |some i=>
    have e2:(σ[i]?).join=some v:=by simpa using e2
    have e2:σ[i]? =some (some v):=by
     cases z:σ[i]? with
     |none=>rw[z]at e2;simp at e2
     |some w=>rw[z]at e2;simp at e2;rw[e2]
    obtain⟨hX,hfr⟩:=S.src j i x e1 q;have hm:=PySem.mem_of_lookup hfr;have hk2:=S.fre _ hm rfl;obtain⟨mX,hnX,hl⟩:=I.loc;have hvis:MU X.env.scope x:=.inr hk2;obtain⟨u,r,l⟩:=hl i x v hX e2 hvis;refine⟨u,r,?_⟩
    rcases l with⟨l1,_⟩|⟨_,c,hc,hcell⟩
    .rcases hk2 with z|z
     .have:X.env.kindOf x=some .cell:=z;rw[l1]at this;cases this
     .have:X.env.kindOf x=some .free:=z;rw[l1]at this;cases this
    .refine .inr ⟨?_,c,mZ X.env _ _ x c hm hc,?_⟩
     .show(Rf scope X.env).names.lookup x=some .cell\/(Rf scope X.env).names.lookup x=some .free;rw[jP,hfr]
      by_cases hcc:(OP == .free&&X.env.scope.kind == .function&&X.env.kindOf x == some .cell)=true
      .left
       show some (if _ then _ else _)=_;rw[ND hcc]
      .right
       show some (if _ then _ else _)=_;rw[NC hcc]
     .exact hcell.keeps hk
 .obtain⟨v,z⟩:=I.cell x c (sub x c e);exact⟨v,z.keeps hk⟩
 .show(fO src σ).length=N.length;unfold fO;rw[Rz];exact S.len
end
def tf(X:Cx)(ifs:List N5)(t:TT):Prop:=
 ∀(gV:NJ)(s:NN)(σ:St)(H:Hp)(Q:Bool->Hp->Prop),aM X gV σ H s->t σ H Q->
  NS (NX X.prog X.w) X.A (forIn ifs true λc r=>if r=true then do let ok<-isTrue c X.env (Om c X.env);pure (ForInStep.yield ok)else pure (ForInStep.yield r)) (TP X gV σ Q) X.xe s
def lT:TT:=λ_ H Q=>Q true H
theorem bZ{X:Cx}:tf X [] lT:=λ_ _ _ H _ I h=>wpAny_tests_nil ⟨H,I,h⟩
theorem jT{X:Cx}{c:N5}{t:TT}(h:PT X c t):tf X [c] t:=λgV s σ H Q I hw=>wpAny_tests_one (h gV s σ H Q I hw)
def eG(g:TG)(tt:TT)(te:TE)(src:List (Option Nat))(σ:St)(Q:VK)(J:It)(H1:Hp):Prop:=
 ∃W:Nat->Nat->List V->St->Hp->Prop,(∃m,W 0 m [] (fO src σ) H1)/\∀i m ys σ' H',W i m ys σ' H'->
  (J.stop i H'/\∀p,H' p=none->Q (.ref p) (upd H' p (.lst ys)))\/
  (J.go i H'/\ys.length<sizeLine/\∀x H2,J.yld i H' x H2->g x σ' H2 λσ3 H3=>tt σ3 H3 λb H4=>
   if b=true then te σ3 H4 λv H5=>∃m',m'<m/\W (i+1) m' (ys++[v]) σ3 H5 else∃m',m'<m/\W (i+1) m' ys σ3 H4)
def tComp(wi:TI)(g:TG)(tt:TT)(te:TE)(src:List (Option Nat)):TE:=λσ H Q=>wi σ H (eG g tt te src σ Q)
def wD(X:Cx)(gV:NJ)(σ:St)(Q:VK)(acc:Value)(C:Addr)(r:Ra)(s':NN):Prop:=
 (∃f,r=.ok f)/\∃D H',acc=.ref D/\aM X gV σ H' s'/\(∃m,s'.heap.Ns C m)/\jz X gV H' C/\Q (.ref D) H'
theorem qy{prog:NP}{w:NT}{A:N1}{R:Ra->NN->Prop}{s:NN}{elt target iter:N5}{ifs:List N5}{scope:O0}{pos:Px}{it acc:Value}{env:QK}(I:Nat->NN->Prop)
  (turn:∀n s,I n s->NS (NX prog w) A (Pb it) (λr s₁=>match r with
   |none=>R (.ok .next) s₁
   |some v=>NS (NX prog w) A (PJ target it v) (λ_ s₂=>NS (NX prog w) A (Q6 target env v) (λ_ s₃=>
     NS (NX prog w) A (forIn ifs true λc r=>if r=true then do let ok<-isTrue c env (Om c env);pure (ForInStep.yield ok)else pure (ForInStep.yield r)) (λok s₄=>
      if ok=true then NS (NX prog w) A (Om elt env) (λx s₅=>NS (NX prog w) A (call (.builtin "list.append") [acc,x]) (λ_ s₆=>∃m,m<n/\I m s₆) (λ_ _=>False) s₅) (λ_ _=>False) s₄
      else∃m,m<n/\I m s₄) (λ_ _=>False) s₃) (λ_ _=>False) s₂) (λ_ _=>False) s₁) (λ_ _=>False) s)
  (n:Nat) (h:I n s):O7 (NX prog w) A (.compLoop (.ListComp elt [⟨target,iter,ifs,0⟩] scope pos) 0 it acc env) R s:=by
 refine codeAny_loop rfl I (λn s hI=>?_) n h;show NS _ A ((compTurn (.ListComp elt [⟨target,iter,ifs,0⟩] scope pos) 0 it acc env).onRaise (λx=>do noteFrame x env;theTreesLotGoes x)) _ _ s;refine wpAny_noted ?_;rw[compTurn_list];refine NK (QU (NK (Oq (turn n s hI) (λr s₁ h₁=>?_) λ_ _ f=>f.elim)));cases r with
 |none=>exact NL h₁
 |some v=>
  refine NK (Oq h₁ (λ_ s₂ h₂=>?_) λ_ _ f=>f.elim);refine NK (Oq h₂ (λ_ s₃ h₃=>NK (Oq h₃ (λok s₄ h₄=>?_) λ_ _ f=>f.elim)) λ_ _ f=>f.elim);cases ok with
  |false=>exact NL ⟨rfl,h₄⟩
  |true=>
   exact NK (NK (Oq h₄ (λx s₅ h₅=>NK (Oq h₅ (λ_ s₆ h₆=>NL (NL ⟨rfl,h₆⟩)) λ_ _ f=>f.elim)) λ_ _ f=>f.elim))
abbrev je(us:List Value)(k:Nat):Obj:={cls:=.type "list",data:=.seq us.toArray k}
section
variable{X:Cx}{N:List Str}{src:List (Option Nat)}{scope:O0}{elt tg iter:N5}{ifs:List N5}{pos:Px}{wi:TI}{g:TG}{tt:TT}{te:TE}
theorem sN(hc:X.calm=true)(S:cp X N src scope)(hg:∀s H ex,PG (cxC X scope N s H ex) tg g)(ht:∀s H ex,tf (cxC X scope N s H ex) ifs tt)(he:∀s H ex,PE (cxC X scope N s H ex) elt te)
  {gV:NJ} {σ:St} {Q:VK} {itv:Value} {s2:NN} {E:NI} (h:Nq X gV σ tg (eG g tt te src σ Q) itv s2):
  NS (NX X.prog X.w) X.A (newList []) (λacc s₃=>NS (NX X.prog X.w) X.A (newFunctionEnv scope X.env.globals (j8 X.env scope.names []) [] X.env.qual none .none (some X.env)) (λcenv s₄=>
   O7 (NX X.prog X.w) X.A (.compStart (.ListComp elt [⟨tg,iter,ifs,0⟩] scope pos) 0 itv acc {cenv with scope:=Rf scope X.env}) (wD X gV σ Q acc cenv.locals) s₄) E s₃) E s2:=by
 obtain⟨it,fp,tn,J,H1,e,I2,T,st2,f2,W,⟨m0,w0⟩,turn⟩:=h;subst e;refine N9 (wpAny_newFunctionEnv S.nocell (by intro y hy;simp at hy) (λh₁ hns₁ hsb₁=>?_) S.kind);dsimp only at hns₁ hsb₁ ⊢;generalize hH2:s2.heap.push {cls:=.type "list",dict:=none,data:=.seq ([]:List Value).toArray}=H2 at hns₁ hsb₁ ⊢;have hC:H2.objs.size=s2.heap.objs.size+1:=by rw[<-hH2,Op]
 have push:∀b o,s2.heap.get? b=some o->H2.get? b=some o:=λb o e=>hH2▸NO _ e;have hD2:H2.get? s2.heap.objs.size=some (je [] 0):=hH2▸NW _ rfl;have hk:∀b o,H2.get? b=some o->h₁.get? b=some o:=λb o e=>hsb₁.extBut b o (Tk (NQ e)) (NO _ e);generalize hD:s2.heap.objs.size=D at*;have I3:aM X gV σ H1 {s2 with heap:=H2}:=I2.kept (t':=s2.toks) push;have fD:jz X gV H1 D:=I2.fpOk (Tu hD) (I2.hok.fresh (Tu hD));have fpl:∀b∈fp,b<D:=λb hb=>by obtain⟨o,e,_⟩:=T.obj _ _ st2 b hb;rw[<-hD];exact NQ e
 have fex:∀b∈D::fp,jz X gV H1 b:=λb hb=>by
  rcases RB.mp hb with z|z
  .rw[z];exact fD
  .exact f2 b z
 have lex:∀b∈D::fp,b<({s2 with heap:=H2}:NN).heap.objs.size:=λb hb=>by
  show b<H2.objs.size
  rcases RB.mp hb with z|z
  .rw[z,hC];exact Tz _
  .rw[hC];exact Tw (fpl b z)
 have I4:=I3.enterC (N:=N) S fex lex (h1:=h₁) (tk:=s2.toks+([]:List (Str×Value)).length) hns₁ hk;generalize hY:cxC X scope N {s2 with heap:=H2} H1 (D::fp)=Y at*;have yP:Y.prog=X.prog:=by rw[<-hY];rfl
 have yw:Y.w=X.w:=by rw[<-hY];rfl
 have yA:Y.A=X.A:=by rw[<-hY];rfl
 have yC:Y.env.locals=H2.objs.size:=by rw[<-hY];rfl
 have yK:Y.K=X.K:=by rw[<-hY];rfl
 have yc:Y.calm=true:=by rw[<-hY];exact hc
 have yfs:Y.fs=jA X.stack:=by rw[<-hY];rfl
 have yex:Y.ex=D::fp:=by rw[<-hY];rfl
 have ypn:Y.pn=[]:=by rw[<-hY];rfl
 have yxe:Y.xe=λ_ _=>False:=by rw[<-hY];rfl
 have ycl:∀x c,Y.env.cells.lookup x=some c->X.env.cells.lookup x=some c:=by rw[<-hY];exact λx c e=>mY X.env _ _ x c (λy d z=>by simp at z) e
 have ye:Y.env=compEnvC scope (j8 X.env scope.names []) H2.objs.size X.env:=by rw[<-hY];rfl
 have ys0:Y.s₀={s2 with heap:=H2}:=by rw[<-hY];rfl
 have yH0:Y.H₀=H1:=by rw[<-hY];rfl
 have hgY:PG Y tg g:=by rw[<-hY];exact hg _ _ _
 have htY:tf Y ifs tt:=by rw[<-hY];exact ht _ _ _
 have heY:PE Y elt te:=by rw[<-hY];exact he _ _ _
 have nfs:∀b∈D::fp,b∉Y.fs:=λb hb z=>by
  rw[yfs]at z;obtain⟨f0,f1,f2',_⟩:=fex b hb
  rcases RB.mp (I2.stkSub b z)with q|q
  .exact f1 q
  .exact f2' q
 have ncl:∀b∈D::fp,∀x c,Y.env.cells.lookup x=some c->c≠b:=λb hb x c e=>(fex b hb).2.2.2.2.1 x c (ycl x c e);have nC:∀b∈D::fp,b≠Y.env.locals:=λb hb=>by rw[yC];exact Tk (lex b hb)
 have stat:∀{H':Hp}{us:List Value}{k:Nat},(∀b∈fp,H' b=none)->∀b∈fp,jz Y [(D,je us k)] H' b:=λ{H' us k} hn b hb=>
  ⟨hn b hb,nC b (RF _ hb),nfs b (RF _ hb),.inl (by rw[yex];exact RF _ hb),ncl b (RF _ hb),λp hp=>by
   rw[ypn]at hp;have hp1:p=(D,je us k):=by simpa using hp
   rw[hp1];exact Tr (fpl b hb)⟩
 have pinD:∀{σ':St}{H':Hp}{s':NN}{pl:NJ}{us:List Value}{k:Nat},aM Y pl σ' H' s'->s'.heap.get? D=some (je us k)->H' D=none->aM Y [(D,je us k)] σ' H' s':=λ{σ' H' s' pl us k} I' e n=>
  I'.pins_of λp hp=>by
   have hp1:p=(D,je us k):=by simpa using hp
   subst hp1;exact⟨e,n,nC D RK,nfs D RK,λv z=>by cases z⟩
 have I4':aM Y [(D,je [] 0)] (fO src σ) H1 {s2 with heap:=h₁,toks:=s2.toks+([]:List (Str×Value)).length}:=pinD I4 (hk _ _ hD2) fD.1;have loop:O7 (NX X.prog X.w) X.A (.compLoop (.ListComp elt [⟨tg,iter,ifs,0⟩] scope pos) 0 (.ref it) (.ref D) Y.env) (wD X gV σ Q (.ref D) H2.objs.size) {s2 with heap:=h₁,toks:=s2.toks+([]:List (Str×Value)).length}:=by
  refine qy (λn s'=>∃i ys us k σ' H',aM Y [(D,je us k)] σ' H' s'/\tn i s'.heap/\(∀b∈fp,H' b=none)/\aZ ys us/\ys.length<=sizeLine/\W i n ys σ' H') ?_ m0
   ⟨0,[],[],0,_,H1,I4',T.keep _ _ _ st2 λb hb o e=>hk _ _ (push b o e),λb hb=>(f2 b hb).1,.nil,Tl _,w0⟩
  rintro n s3 ⟨i,ys,us,k,σ3,H3,I3',st3,fr3,rv,hz,w3⟩
  rcases turn i n ys σ3 H3 w3 with⟨stop,q⟩|⟨go,hlen,step⟩
  .have hd:=T.done Y yP yw yK yc i _ s3 σ3 H3 (λ_ _=>False) I3' (stat fr3) st3 stop;rw[yA]at hd;refine bU hd λr s4 ⟨hr,I4⟩=>?_;subst hr;obtain⟨eD,nD,_⟩:=I4.pin (D,je us k) (by simp);have eD:s4.heap.get? D=some (je us k):=eD;have nD:H3 D=none:=nD;have Ny:Un (jA X.stack) (D::fp) H1 H3 H2 s4.heap:=by have b:=I4.Ny;rw[yex,yH0,ys0,yfs]at b;exact b
   have hnD:∀b o,s2.heap.get? b=some o->b≠D:=λb o e=>by rw[<-hD];exact Tk (NQ e)
   have nx:∀b o,s2.heap.get? b=some o->b∉fp->b∉D::fp:=λb o e hb z=>(RB.mp z).elim (hnD b o e) hb;have un:Un (jA X.stack) fp H1 (upd H3 D (.lst ys)) s2.heap s4.heap:=
    ⟨λb o e n hb hx=>Ny.keep b o (push b o e) n hb (nx b o e hx),λb o e n hb hx=>Ny.slot b o (push b o e) n hb (nx b o e hx),λb o e n hx=>by rw[av (hnD b o e)];exact Ny.free b o (push b o e) n (nx b o e hx),
     λb o e hx=>Ny.there b o (push b o e) (nx b o e hx),λb xs e=>by rw[av (aC e fD.1)];exact Ny.tups b xs e,λb o u e=>by rw[av (aC e fD.1)];exact Ny.frzs b o u e,
     λb ps e=>by rw[av (aC e fD.1)];exact Ny.tbls b ps e⟩
   have hok:jC X.prog X.w (upd H3 D (.lst ys)) s4.heap:=λb u e=>by
    by_cases hb:b=D
    .subst hb;rw[ah]at e;cases e;exact⟨hz,us,k,rv,eD⟩
    .rw[av hb]at e;have x:=I4.hok b u e;rw[yP,yw]at x;exact x.stay (λc v _ z=>z) (λc z=>by rw[av (aC z nD)];exact z) λc xs z=>by rw[av (aC z nD)];exact z
   have ho:s4.os=s2.os:=by rw[I4.os,ys0]
   have J':aM X gV σ (upd H3 D (.lst ys)) s4:=I2.call' (ch:=fp) ho un hok I4.bare λb hb=>⟨(f2 b hb).2.2.2.1,(f2 b hb).2.1,(f2 b hb).2.2.2.2.1,(f2 b hb).2.2.2.2.2⟩;refine⟨⟨_,rfl⟩,D,_,rfl,J',?_,?_,q D nD⟩
   .obtain⟨m,hm,_⟩:=I4.loc;rw[yC]at hm;exact⟨m,hm⟩
   .refine I2.fpOk (by rw[hC,hD];exact Tp _) ?_;rw[av (by rw[hC];exact TB D)];have z:=I4.free;rw[yC]at z;exact z
  .have hd:=T.item Y yP yw yK yc i _ s3 σ3 H3 (λ_ _=>False) I3' (stat fr3) st3 go;rw[yA]at hd;refine bU hd λr s4 ⟨u,hr,h4⟩=>?_;subst hr;refine bU h4 λ_ s5 ⟨x,H5,I5,r5,y5,st5,fr5⟩=>?_;have I5':=I5.pinned (stat fr5) (T.obj _ _ st5);have hg':=hgY _ s5 σ3 H5 x u _ I5' r5 (step x H5 y5);rw[yP,yw,yA,yxe]at hg';refine bU hg' λ_ s6 ⟨σ6,H6,I6,q6⟩=>?_;have ht':=htY _ s6 σ6 H6 _ I6 q6;rw[yP,yw,yA,yxe]at ht';refine bU ht' λok s7 ⟨H7,I7,q7⟩=>?_;have again:∀{σ8:St}{H8:Hp}{s8:NN}{ys':List V}{us':List Value}{k' m':Nat},aM Y ([(D,je us' k')]++iO fp s5.heap) σ8 H8 s8->aZ ys' us'->ys'.length<=sizeLine->m'<n->W (i+1) m' ys' σ8 H8->
     ∃m,m<n/\∃i ys us k σ' H',aM Y [(D,je us k)] σ' H' s8/\tn i s8.heap/\(∀b∈fp,H' b=none)/\aZ ys us/\ys.length<=sizeLine/\W i m ys σ' H':=λ{σ8 H8 s8 ys' us' k' m'} I8 rv' hz' hm w8=>by
    refine⟨m',hm,i+1,ys',us',k',σ8,H8,I8.unpinned,T.keep _ _ _ st5 λb hb o e=>(I8.pin (b,o) (RS _ (RS _ (ik hb e)))).1,λb hb=>?_,rv',hz',w8⟩;obtain⟨o,e,d⟩:=T.obj _ _ st5 b hb;exact(I8.pin (b,o) (RS _ (RS _ (ik hb e)))).2.1
   cases ok with
   |false=>
    obtain⟨m',hm,w8⟩:=q7;exact again I7 rv hz hm w8
   |true=>
    rw[ND rfl];have he':=heY _ s7 σ6 H7 _ I7 q7;rw[yP,yw,yA,yxe]at he';refine bU he' λu8 s8 ⟨v,H8,I8,r8,m',hm,w8⟩=>?_;obtain⟨eD,nD,_⟩:=I8.pin (D,je us k) (by simp);have eD:s8.heap.get? D=some (je us k):=eD;have nD:H8 D=none:=nD;have hl:=rv.length;refine Qx F.slot_list_append ⟨_,eD,rfl⟩ F.entry_list_append (F.args_list_append_2 _ _) (PySem.list_append D us.toArray k u8 (by rw[RD];lia)) ⟨eD,?_⟩;have q:=PySem.IsL.update eD (λa=>a.push u8);have eu:us.toArray.push u8=(us++[u8]).toArray:=by simp
    rw[eu]at q;obtain⟨k',q⟩:∃k',(s8.heap.update D (On λa=>a.push u8)).get? D=some (je (us++[u8]) k'):=⟨_,q⟩;have I8':aM Y (iO fp s5.heap) σ6 H8 s8:=I8.pins_of λp hp=>I8.pin p (RS _ (RS _ hp));have I9:aM Y (iO fp s5.heap) σ6 H8 {s8 with heap:=s8.heap.update D (On λa=>a.push u8)}:=I8'.turned (it:=D) (t':=s8.toks) (λb o hb e=>(OG s8.heap _ (Ne.symm hb)).trans e) nD (nC D RK)
     (.inl (by rw[yex];exact RK)) (ncl D RK) λp hp=>by
      rw[ypn]at hp;have hp:p∈iO fp s5.heap:=by simpa using hp
      exact Tk (fpl _ (og hp).1)
    refine again (us':=us++[u8]) (ys':=ys++[v]) (m':=m') (k':=k') (I9.pins_of λp hp=>?_) (rv.append (.cons r8 .nil)) (by rw[RI,SR];lia) hm w8
    rcases RM.mp hp with z|z
    .have hp1:p=(D,je (us++[u8]) k'):=by simpa using z
     subst hp1;exact⟨q,nD,nC D RK,nfs D RK,λv z=>by cases z⟩
    .exact I9.pin p (RS _ z)
 rw[ye]at loop;exact codeAny_compStart_list loop (T.self _ 0 _ _ _ (T.keep _ _ _ st2 λb hb o e=>hk _ _ (push b o e)) loop)
theorem Dh(hc:X.calm=true)(S:cp X N src scope)(hi:PI X tg iter wi)(hg:∀s H ex,PG (cxC X scope N s H ex) tg g)(ht:∀s H ex,tf (cxC X scope N s H ex) ifs tt)(he:∀s H ex,PE (cxC X scope N s H ex) elt te)
  (hs:∀x,Pr iter X.env x=pure x:=by intro _;rfl):PE X (.ListComp elt [⟨tg,iter,ifs,0⟩] scope pos) (tComp wi g tt te src):=by
 intro gV s σ H Q I h;rw[eval_ListComp];refine Qf (use:=none) rfl hs (jn (S.cells I.ok)) S.kind S.names (bU (hi gV s σ H _ I h) λv s1 h1=>bU h1 λit s2 h2=>?_);refine bU (sN hc S hg ht he h2) λacc s3 h3=>bU h3 λcenv s4 h4=>Ou h4 λr s' hr=>?_;obtain⟨⟨f,rfl⟩,D,H',rfl,J,⟨m,hm⟩,hf,q⟩:=hr;refine⟨m,hm,λh' sb=>?_⟩;exact⟨.ref D,H',J.turned (t':=s'.toks) (λb o hb e=>(sb.2 b hb).trans e) hf.1 hf.2.1 hf.2.2.2.1 hf.2.2.2.2.1 hf.2.2.2.2.2,rfl,q⟩
theorem jS{i:Nat}{y:Str}{py spos:Px}(hc:X.calm=true)(S:cp X N src scope)(hi:PI X tg iter wi)(hg:∀s H ex,PG (cxC X scope N s H ex) tg g)(ht:∀s H ex,tf (cxC X scope N s H ex) ifs tt)(he:∀s H ex,PE (cxC X scope N s H ex) elt te)
  (hN:X.N.Nodup) (hy:X.N[i]? =some y) (hx:Kz X.env.scope y) (hsw:Qq (.ListComp elt [⟨tg,iter,ifs,0⟩] scope pos) (some (.Name y py)) spos.line X.env=pure true) (hf:X.fn y=true\/X.env.scope.names.lookup y=some .local)
  (hs:∀x,Pr iter X.env x=pure x:=by intro _;rfl):PS X (.Assign [.Name y py] (.ListComp elt [⟨tg,iter,ifs,0⟩] scope pos) spos) (tAsg (tComp wi g tt te src) (gName i)):=by
 intro gV s σ H D I h;rw[exec_Assign_Name_used _ _ _ _ hsw];refine NK (QU (NK ?_));show NS _ X.A (do let _<-comprehension (.ListComp elt [⟨tg,iter,ifs,0⟩] scope pos) scope X.env _ (newList []) false (Om iter X.env) (some (Q6 (.Name y py) X.env))) _ _ s;refine NK (Oq (Qf (use:=some (Q6 (.Name y py) X.env)) (Q:=λ_ s'=>SP X gV D .next s') rfl hs (jn (S.cells I.ok)) S.kind S.names (bU (hi gV s σ H _ I h) λv s1 h1=>bU h1 λit s2 h2=>?_)) (λ_ s' hq=>NL (NL hq)) λ_ _ e=>e);refine bU (sN hc S hg ht he h2) λacc s3 h3=>bU h3 λcenv s4 h4=>Ou h4 λr s' hr=>?_;obtain⟨⟨f,rfl⟩,D',H',rfl,J,⟨m,hm⟩,hfp,q⟩:=hr;show NS _ X.A (Q6 (.Name y py) X.env (.ref D')) _ _ _;refine wpAny_assign_Name (nU J hN hy hx (v:=.ref D') rfl (λs5 I5 ⟨a,sb,ha⟩=>?_) hf);have hne:cenv.locals≠a:=by
  rcases ha with z|z
  .rw[z];exact hfp.2.1
  .exact Ne.symm (hfp.2.2.2.2.1 y a z)
 refine⟨m,hm.sameBut sb hne,λh' sb'=>?_⟩;exact⟨_,H',I5.turned (t':=s5.toks) (λb o hb e=>(sb'.2 b hb).trans e) hfp.1 hfp.2.1 hfp.2.2.2.1 hfp.2.2.2.2.1 hfp.2.2.2.2.2,q⟩
end
section
variable{X:Cx}
theorem PE.imp{e:N5}{t t':TE}(h:PE X e t)(i:∀σ H Q,t' σ H Q->t σ H Q):PE X e t':=λgV s σ H Q I q=>h gV s σ H Q I (i σ H Q q)
theorem bn.imp{f:Value}{r r':List V->Hp->VK->Prop}(h:bn X f r)(i:∀xs H Q,r' xs H Q->r xs H Q):bn X f r':=λgV s σ H xs us Q I r q=>h gV s σ H xs us Q I r (i xs H Q q)
theorem qR.imp{id:String}{r r':V->List V->Hp->VK->Prop}(h:qR X id r)(i:∀x xs H Q,r' x xs H Q->r x xs H Q):qR X id r':=λgV s σ H x xs v us Q I rx r q=>h gV s σ H x xs v us Q I rx r (i x xs H Q q)
abbrev Str.tl(x:Str):List Nat:=x.cps.toList
theorem pc{x y:Str}(h:x.cps.toList=y.cps.toList):x=y:=by obtain⟨a⟩:=x;obtain⟨b⟩:=y;have:a=b:=Ur.mp h;rw[this]
theorem dN(x:Str):x.length=x.cps.toList.length:=by simp[Str.length]
theorem pd(x y:Str):(x++y).cps.toList=x.cps.toList++y.cps.toList:=by show(x.cps++y.cps).toList=_;simp
theorem xi:iD X (Ol .LtE) (λx y H Q=>∃i j,x=.str i/\y=.str j/\Q (.bl (!decide (j.cps.toList<i.cps.toList))) H):=by intro gV s σ H x y v u Q I rx ry h;obtain⟨i,j,rfl,rfl,q⟩:=h;obtain⟨t,rfl⟩:=rx;obtain⟨t',rfl⟩:=ry;exact PySem.P.le_str (fin_bl I q rfl)
theorem A7:qR X "str.upper" (λx vs H Q=>∃a,x=.str a/\vs=[]/\a.length<=sizeLine/\(∀c∈a.cps.toList,c<128)/\Q (.str ⟨a.cps.map up1⟩) H):=by
 intro gV s σ H x xs v us Q I rx r h;obtain⟨a,rfl,rfl,hz,ha,q⟩:=h;obtain⟨t,rfl⟩:=rx;cases r;have e:placed a (λ_ c=>Unicode.upperOf c)=a.cps.map up1:=placed_single a _ up1 λi c hc=>upperOf_ascii c (ha c (RT hc));have hfit:Pj (placed a λ_ c=>Unicode.upperOf c).size=false:=by rw[e,Uq];unfold Pj;exact NB (by show¬a.cps.size > sizeLine;have:a.length=a.cps.size:=rfl;lia)
 refine call_gives F.slot_str_upper (PV _ _ _) F.entry_str_upper (F.args_str_upper_1 _) (gives_str_upper a t hfit) ?_;rw[e];exact⟨by show(a.cps.map up1).size<=sizeLine;rw[Uq];exact hz,⟨.str _,H,I.tok _,⟨_,rfl⟩,q⟩⟩
def j5(x:Str)(lo hi:Option Int):Str:=⟨((x.cps.toList.drop (HT.sIx x.length 0 lo)).take (HT.sIx x.length x.length hi - HT.sIx x.length 0 lo)).toArray⟩
theorem vT(l:List Nat):∀(k i:Nat),i+k<=l.length->(List.range' i k).filterMap (λm=>l[m]?)=(l.drop i).take k
 |0,i,_=>by simp
 |k+1,i,h=>by have ih:=vT l k (i+1) (by lia);rw[List.range'_succ,Sm,RC (by lia),SB (by lia),List.take_succ_cons];show l[i]::_=_;rw[ih]
theorem AX(x:Str)(i k:Nat)(h:i+k<=x.length):((List.range k).map λ(m:Nat)=>i+m).filterMap (x.cps[·]?)=(x.cps.toList.drop i).take k:=by have hx:x.cps.toList.length=x.length:=(dN x).symm;rw[<-List.range'_eq_map_range,<-vT _ _ _ (by lia)];congr 1;funext m;rw[Ul]
theorem wa(lo hi:Option Int)(n:Nat):Og lo hi 1 n=(List.range (HT.sIx n n hi - HT.sIx n 0 lo)).map λm=>HT.sIx n 0 lo+m:=by
 have cl:∀(v:Int)(d:Nat),max 0 (min (if v<0 then v+(n:Int)else v) (n:Int))=((HT.sIx n d (some v):Nat):Int):=λv d=>by
  show _=(((if v<0 then(v+(n:Int)).toNat else min v.toNat n):Nat):Int)
  by_cases hv:v<0
  .simp only[ND hv];lia
  .simp only[NC hv];lia
 have main:∀(a b:Nat),Q4 (a:Int) (b:Int) 1=(List.range (b - a)).map λm=>a+m:=λa b=>by
  have e:(if(1:Int) > 0 then(if(a:Int)<(b:Int)then((b:Int) - a+1 - 1) / 1 else 0)else(if(a:Int) > b then((a:Int) - b - 1 - 1) / (-1)else 0)).toNat=b - a:=by rw[ND (by decide)];split<;>lia
  show(List.range (if(1:Int) > 0 then(if(a:Int)<(b:Int)then((b:Int) - a+1 - 1) / 1 else 0)else(if(a:Int) > b then((a:Int) - b - 1 - 1) / (-1)else 0)).toNat).map (λ(k:Nat)=>((a:Int)+1*(k:Int)).toNat)=_;rw[e];apply R9;intro m _;lia
 have e1:HT.sIx n 0 none=0:=rfl;have e2:HT.sIx n n none=n:=rfl;unfold Og;simp only[show(1:Int) > 0 by decide,if_true];cases lo with
 |none=>
  cases hi with
  |none=>exact main 0 n
  |some h=>show Q4 ((0:Nat):Int) (max 0 (min (if h<0 then h+(n:Int)else h) (n:Int))) 1=_;rw[cl h n];exact main _ _
 |some l=>
  cases hi with
  |none=>show Q4 (max 0 (min (if l<0 then l+(n:Int)else l) (n:Int))) (n:Int) 1=_;rw[cl l 0];exact main _ _
  |some h=>show Q4 (max 0 (min (if l<0 then l+(n:Int)else l) (n:Int))) (max 0 (min (if h<0 then h+(n:Int)else h) (n:Int))) 1=_;rw[cl l 0,cl h n];exact main _ _
theorem wO(x:Str)(lo hi:Option Int):(⟨((Og lo hi 1 x.length).filterMap (x.cps[·]?)).toArray⟩:Str)=j5 x lo hi:=by
 unfold j5;rw[wa];have h1:=HT.sIx_le x.length 0 (Tl _) lo;have h2:=HT.sIx_le x.length x.length (Tj _) hi
 by_cases h:HT.sIx x.length 0 lo<=HT.sIx x.length x.length hi
 .rw[AX x _ _ (by lia)]
 .have e:HT.sIx x.length x.length hi - HT.sIx x.length 0 lo=0:=by lia
  rw[e];simp
theorem jb(x:Str)(lo hi:Option Int):(j5 x lo hi).cps.toList=(x.cps.toList.drop (HT.sIx x.length 0 lo)).take (HT.sIx x.length x.length hi - HT.sIx x.length 0 lo):=by unfold j5;simp
theorem mU(x:Str)(lo hi:Option Int):(j5 x lo hi).length<=x.length:=by rw[dN,jb,dN x,RV,Sj];lia
theorem uU{x:Str}{lo hi:Option Int}(h:(Og lo hi 1 x.length).length=x.length):j5 x lo hi=x:=by
 rw[wa,Rz,Sa]at h;have h1:=HT.sIx_le x.length 0 (Tl _) lo;have h2:=HT.sIx_le x.length x.length (Tj _) hi;apply pc;rw[jb]
 by_cases z:x.length=0
 .have e:x.cps.toList=[]:=SS.mp (by rw[<-dN];exact z);rw[e];simp
 .have e1:HT.sIx x.length 0 lo=0:=by lia
  rw[h,e1,SC,S9 (by rw[<-dN];exact Tj _)]
def M6:V->Option Int->Option Int->Hp->VK->Prop:=λx lo hi H Q=>∃z,x=.str z/\z.length<=sizeLine/\Q (.str (j5 z lo hi)) H
theorem rJ{v:Value}{o:Option Int}(p:Qj v o):∃q:Option (Int×Tok),v=partValue q/\q.map (·.1)=o:=by
 cases p with
 |none=>exact⟨none,rfl,rfl⟩
 |int i t=>exact⟨some (i,t),rfl,rfl⟩
theorem IN:xX X M6:=by
 intro gV s σ H x v vl vu lo hi sl Q I rx hs pl pu h;obtain⟨z,rfl,hz,q⟩:=h;obtain⟨t,rfl⟩:=rx;obtain⟨l,rfl,el⟩:=rJ pl;obtain⟨u,rfl,eu⟩:=rJ pu;refine⟨"str",_,F.slot_str_getitem.lookup,PV _ _ _,?_⟩;obtain⟨o,ho,hc,hd⟩:=hs;refine wpAny_getItem_str_slice (l:=l) (u:=u) (st:=none) ⟨o,ho,hc,hd⟩ rfl ?_;unfold sliceMade slicePicked;rw[el,eu];split
 .rename_i hw;have hw:(Og lo hi 1 z.length).length=z.length:=by simpa using hw
  rw[uU hw]at q;exact⟨.str z,H,I,⟨t,rfl⟩,q⟩
 .have e:=wO z lo hi;have e':(⟨((Og lo hi ((Option.map (·.1) (none:Option (Int×Tok))).getD 1) z.length).filterMap (z.cps[·]?)).toArray⟩:Str)=j5 z lo hi:=e;rw[e'];exact⟨Tn (mU z lo hi) hz,⟨.str _,H,I.tok _,⟨_,rfl⟩,q⟩⟩
theorem nN:bn X (.type "int") (λxs H Q=>∃x n,xs=[.str x]/\PySem.intText? x=some n/\x.length<=640/\Q (.int n) H):=by intro gV s σ H xs us Q I r h;obtain⟨x,n,rfl,hn,hl,q⟩:=h;obtain⟨u,rfl,t,rfl⟩:=dL r;exact PySem.W.KIN.call_text hn hl ⟨.int n,H,I.tok _,⟨_,rfl⟩,q⟩
theorem lV:∀{ys:List Str}{us:List Value},aZ (ys.map V.str) us->StrsAre us ys
 | [],us,r=>by rw[SQ]at r;cases r;exact .nil
 |y::ys,us,r=>by
  rw[RY]at r;cases r with
  |cons r1 r2=>
   obtain⟨t,e⟩:=r1;subst e;exact .cons y t (lV r2)
theorem Dx:qR X "str.join" (λx vs H Q=>∃sep p ys,x=.str sep/\vs=[.ref p]/\aY X.K H p (ys.map V.str)/\(ys.map (·.length)).sum+ys.length*sep.length<=16777216/\Q (.str (Rj sep ys)) H):=by intro gV s σ H x xs v us Q I rx r h;obtain⟨sep,p,ys,rfl,rfl,hp,hz,q⟩:=h;obtain⟨t,rfl⟩:=rx;obtain⟨u,rfl,ru⟩:=dL r;cases ru;obtain⟨its,rv,pl,hl⟩:=I.list hp;exact join_list pl.isList (by simpa using lV rv) hz λt' k=>⟨.str _,H,I.tok _,⟨t',rfl⟩,q⟩
theorem qU{P:NP}{w:NT}{A:N1}{its:List Value}{ks:List Bool}(r:aZ (ks.map V.bl) its):TruthOf P w A (λi v=>its.toArray[i]? =some v) (λi=>ks.getD i false):=by
 intro i v s Q E hv hq;have hv:its[i]? =some v:=by simpa using hv
 have hlen:=r.length;rw[Rz]at hlen;have hi:i<its.length:=(RO.mp hv).1;have hk:(ks.map V.bl)[i]? =some (V.bl (ks.getD i false)):=by rw[RE,RC (by lia),RH,RC (by lia)];rfl
 obtain⟨u,hu,ru⟩:=r.get hk;rw[hv]at hu;cases hu;cases ru;exact Of hq
theorem w4(ks:List Bool):(List.range ks.length).all (λi=>ks.getD i false)=ks.all id:=by
 rw[T7,R1,R1]
 constructor
 .intro h b hb;obtain⟨i,hi,e⟩:=Ta.mp hb;have:=h i (RJ.mpr hi);rw[RH,RC hi]at this;rw[<-e];exact this
 .intro h i hi;have hi:=RJ.mp hi;rw[RH,RC hi];exact h _ (RU hi)
theorem B9(hc:X.calm=true):bn X (.builtin "all") (λxs H Q=>∃(p:Addr)(ks:List Bool),xs=[.ref p]/\aY X.K H p (ks.map V.bl)/\Q (.bl (ks.all id)) H):=by
 intro gV s σ H xs us Q I r h;obtain⟨p,ks,rfl,hp,q⟩:=h;obtain⟨u,rfl,ru⟩:=dL r;cases ru;obtain⟨its,rv,pl,hl⟩:=I.list hp;have hlen:=rv.length;rw[Rz]at hlen;refine call_all_walk (OO pl.isList ?_);have hne:p≠s.heap.objs.size:=by obtain⟨o,ho,_⟩:=pl.isList;exact Tk (NQ ho)
 have W:=Q7 (prog:=X.prog) (w:=X.w) (A:=X.A.in1) (show X.A.in1.handled=none from I.ok.hd hc) s.heap.objs.size p hne its.toArray;have hpush:∀o b ob,s.heap.get? b=some ob->(s.heap.push o).get? b=some ob:=λo b ob e=>NO _ e;refine⟨_,_,_,_,_,_,λi=>ks.getD i false,rfl,W,⟨⟨_,NW _ rfl,rfl,rfl⟩,pl.isList.at λo e=>hpush _ _ o e⟩,qU rv,λh' tk k=>?_⟩;have e:(List.range its.toArray.size).all (λi=>ks.getD i false)=ks.all id:=by rw[<-w4,RD,<-hlen]
 rw[e];refine⟨.bl _,H,I.kept (t':=tk) (h':=h') λb ob e=>k b ob ?_ (hpush _ b ob e),rfl,q⟩;intro hb;have:b=s.heap.objs.size:=by simpa using hb
 subst this;exact NG (NQ e) (Tq _)
end
inductive wC(K:Frag)(H:Hp):Nat->V->V->Bool->Prop
 |flat {n:Nat} {x y:V} (hx:flatV x=true) (hy:flatV y=true):wC K H n x y (eqV x y)
 |same {n:Nat} {a:Addr}:wC K H n (.ref a) (.ref a) true
 |len {n:Nat} {a b:Addr} {xs ys:List V} (ha:aY K H a xs) (hb:aY K H b ys) (hab:a≠b) (hl:xs.length≠ys.length):wC K H (n+1) (.ref a) (.ref b) false
 |lst {n:Nat} {a b:Addr} {xs ys:List V} {es:Nat->Bool} (ha:aY K H a xs) (hb:aY K H b ys) (hab:a≠b) (hl:xs.length=ys.length)
   (he:∀i x y,xs[i]? =some x->ys[i]? =some y->wC K H n x y (es i)):wC K H (n+1) (.ref a) (.ref b) ((List.range xs.length).all es)
 |tup {n:Nat} {a b:Addr} {xs ys:List V} {es:Nat->Bool} (ha:cr K H a xs) (hb:cr K H b ys) (hab:a≠b)
   (he:∀i x y,xs[i]? =some x->ys[i]? =some y->wC K H n x y (es i)):wC K H (n+1) (.ref a) (.ref b) ((List.range (min xs.length ys.length)).all es&&xs.length == ys.length)
 |nref {n:Nat} {x:V} {a:Addr} {xs:List V} (hx:flatV x=true) (ha:aY K H a xs\/cr K H a xs):wC K H n x (.ref a) false
 |refn {n:Nat} {x:V} {a:Addr} {xs:List V} (hx:flatV x=true) (ha:aY K H a xs\/cr K H a xs):wC K H n (.ref a) x false
section
variable{X:Cx}{gV:NJ}{σ:St}{H:Hp}{s:NN}
theorem fK{xs:List V}{its:List Value}(r:aZ xs its){j:Nat}(h:j<its.toArray.size):∃x,xs[j]? =some x/\aV x its.toArray[j]:=by
 have hl:=r.length;have hj:j<its.length:=by simpa using h
 have hx:xs[j]? =some (xs[j]'(by lia)):=RC (by lia);obtain⟨u,hu,ru⟩:=r.get hx;refine⟨_,hx,?_⟩;have e:its.toArray[j]=u:=by rw[RC hj]at hu;simpa using Option.some.inj hu
 rw[e];exact ru
theorem mS(I:aM X gV σ H s):∀{n:Nat}{x y:V}{k:Bool},wC X.K H n x y k->∀(A:N1),A.units+n<OH->∀{u v:Value},aV x u->aV y v->Q9 A s u v k:=by
 intro n x y k h
 induction h with
 |flat hx hy=>exact λA _ u v ru rv=>BR ru rv hx hy
 |same=>
  intro A _ u v ru rv;cases ru;cases rv;exact SeqAt.EqAt.same _
 |len ha hb hab hl=>
  intro A hu u v ru rv;cases ru;cases rv;obtain⟨its,r1,p1,_⟩:=I.list ha;obtain⟨its2,r2,p2,_⟩:=I.list hb;have l1:=r1.length;have l2:=r2.length;refine .of_refs hab (.lists_lengths p1.isList p2.isList (by simp;lia) (by lia))
 | @lst n a b xs ys es ha hb hab hl he ih=>
   intro A hu u v ru rv;cases ru;cases rv;obtain⟨its,r1,p1,_⟩:=I.list ha;obtain⟨its2,r2,p2,_⟩:=I.list hb;have l1:=r1.length;have l2:=r2.length;have e:(List.range xs.length).all es=(List.range its.toArray.size).all es:=by rw[RD,l1]
   rw[e];refine .of_refs hab (.lists p1.isList p2.isList (by simp;lia) (by lia) λj h1 h2=>?_);obtain⟨x,hx,rx⟩:=fK r1 h1;obtain⟨y,hy,ry⟩:=fK r2 h2;exact ih j x y hx hy A.in1 (by show A.units+1+n<OH;lia) rx ry
 | @tup n a b xs ys es ha hb hab he ih=>
   intro A hu u v ru rv;cases ru;cases rv;obtain⟨its,r1,p1,_⟩:=I.tuple ha;obtain⟨its2,r2,p2,_⟩:=I.tuple hb;have l1:=r1.length;have l2:=r2.length;have e:((List.range (min xs.length ys.length)).all es&&xs.length == ys.length)=((List.range (min its.toArray.size its2.toArray.size)).all es&&its.toArray.size == its2.toArray.size):=by rw[RD,RD,l1,l2]
   rw[e];refine .of_refs hab (.tuples (show s.heap.IsTuple a its.toArray from p1) (show s.heap.IsTuple b its2.toArray from p2) (by lia) λj h1 h2=>?_);obtain⟨x,hx,rx⟩:=fK r1 h1;obtain⟨y,hy,ry⟩:=fK r2 h2;exact ih j x y hx hy A.in1 (by show A.units+1+n<OH;lia) rx ry
 | @nref n x a xs hx ha=>
   intro A hu u v ru rv;cases rv
   rcases ha with ha|ha
   .obtain⟨its,r1,p1,_⟩:=I.list ha;have hl:=p1.isList;cases x with
    |non=>cases ru;exact .none_list hl (by lia)
    |bl b=>cases ru;exact .bool_list b hl (by lia)
    |int b=>obtain⟨t,rfl⟩:=ru;exact .int_list b t hl (by lia)
    |str b=>obtain⟨t,rfl⟩:=ru;exact .str_list b t hl (by lia)
    |_=>simp[flatV]at hx
   .obtain⟨its,r1,p1,_⟩:=I.tuple ha;have hl:s.heap.IsTuple a its.toArray:=p1;cases x with
    |non=>cases ru;exact .none_tuple hl (by lia)
    |bl b=>cases ru;exact .bool_tuple b hl (by lia)
    |int b=>obtain⟨t,rfl⟩:=ru;exact .int_tuple b t hl (by lia)
    |str b=>obtain⟨t,rfl⟩:=ru;exact .str_tuple b t hl (by lia)
    |_=>simp[flatV]at hx
 | @refn n x a xs hx ha=>
   intro A hu u v ru rv;cases ru
   rcases ha with ha|ha
   .obtain⟨its,r1,p1,_⟩:=I.list ha;have hl:=p1.isList;cases x with
    |non=>cases rv;exact .list_none hl (by lia)
    |bl b=>cases rv;exact .list_bool b hl (by lia)
    |int b=>obtain⟨t,rfl⟩:=rv;exact .list_int b t hl (by lia)
    |str b=>obtain⟨t,rfl⟩:=rv;exact .list_str b t hl (by lia)
    |_=>simp[flatV]at hx
   .obtain⟨its,r1,p1,_⟩:=I.tuple ha;have hl:s.heap.IsTuple a its.toArray:=p1;cases x with
    |non=>cases rv;exact .tuple_none hl (by lia)
    |bl b=>cases rv;exact .tuple_bool b hl (by lia)
    |int b=>obtain⟨t,rfl⟩:=rv;exact .tuple_int b t hl (by lia)
    |str b=>obtain⟨t,rfl⟩:=rv;exact .tuple_str b t hl (by lia)
    |_=>simp[flatV]at hx
end
inductive x6(K:Frag)(H:Hp):Nat->V->V->Bool->Prop
 |len {n:Nat} {a b:Addr} {xs ys:List V} (ha:aY K H a xs) (hb:aY K H b ys) (hl:xs.length≠ys.length):x6 K H (n+1) (.ref a) (.ref b) false
 |lst {n:Nat} {a b:Addr} {xs ys:List V} {es:Nat->Bool} (ha:aY K H a xs) (hb:aY K H b ys) (hl:xs.length=ys.length)
   (he:∀i x y,xs[i]? =some x->ys[i]? =some y->wC K H n x y (es i)):x6 K H (n+1) (.ref a) (.ref b) ((List.range xs.length).all es)
 |tup {n:Nat} {a b:Addr} {xs ys:List V} {es:Nat->Bool} (ha:cr K H a xs) (hb:cr K H b ys)
   (he:∀i x y,xs[i]? =some x->ys[i]? =some y->wC K H n x y (es i)):x6 K H (n+1) (.ref a) (.ref b) ((List.range (min xs.length ys.length)).all es&&xs.length == ys.length)
section
variable{X:Cx}
theorem Jk{n:Nat}(hu:X.A.units+n<OH):iD X (Ol .Eq) (λx y H Q=>∃k,x6 X.K H n x y k/\Q (.bl k) H):=by
 intro gV s σ H x y v u Q I rx ry h;obtain⟨k,h,q⟩:=h;cases h with
 | @len n a b xs ys ha hb hl=>
   cases rx;cases ry;obtain⟨its,r1,p1,_⟩:=I.list ha;obtain⟨its2,r2,p2,_⟩:=I.list hb;have l1:=r1.length;have l2:=r2.length;exact SeqAt.eq_list_lengthsAt p1.isList p2.isList (by simp;lia) (by lia) (fin_bl I q rfl)
 | @lst n a b xs ys es ha hb hl he=>
   cases rx;cases ry;obtain⟨its,r1,p1,_⟩:=I.list ha;obtain⟨its2,r2,p2,_⟩:=I.list hb;have l1:=r1.length;have l2:=r2.length;refine SeqAt.eq_listAt (e:=es) p1.isList p2.isList (by simp;lia) (by lia) (λj h1 h2=>?_) (fin_bl I q (by rw[RD,l1]));obtain⟨x,hx,rx⟩:=fK r1 h1;obtain⟨y,hy,ry⟩:=fK r2 h2;exact mS I (he j x y hx hy) X.A.in1 (by show X.A.units+1+n<OH;lia) rx ry
 | @tup n a b xs ys es ha hb he=>
   cases rx;cases ry;obtain⟨its,r1,p1,_⟩:=I.tuple ha;obtain⟨its2,r2,p2,_⟩:=I.tuple hb;have l1:=r1.length;have l2:=r2.length;refine SeqAt.eq_tupleAt (e:=es) (show s.heap.IsTuple a its.toArray from p1) (show s.heap.IsTuple b its2.toArray from p2) (by lia) (λj h1 h2=>?_) (fin_bl I q (by rw[RD,RD,l1,l2]));obtain⟨x,hx,rx⟩:=fK r1 h1;obtain⟨y,hy,ry⟩:=fK r2 h2;exact mS I (he j x y hx hy) X.A.in1 (by show X.A.units+1+n<OH;lia) rx ry
theorem Jf{n:Nat}(hu:X.A.units+n<OH):iD X (Ol .NotEq) (λx y H Q=>∃k,x6 X.K H n x y k/\Q (.bl (!k)) H):=by
 intro gV s σ H x y v u Q I rx ry h;obtain⟨k,h,q⟩:=h;cases h with
 | @len n a b xs ys ha hb hl=>
   cases rx;cases ry;obtain⟨its,r1,p1,_⟩:=I.list ha;obtain⟨its2,r2,p2,_⟩:=I.list hb;have l1:=r1.length;have l2:=r2.length;exact Qe (SeqAt.RcNeAt.lists_lengths p1.isList p2.isList (by simp;lia) (by lia)) (fin_bl I q rfl)
 | @lst n a b xs ys es ha hb hl he=>
   cases rx;cases ry;obtain⟨its,r1,p1,_⟩:=I.list ha;obtain⟨its2,r2,p2,_⟩:=I.list hb;have l1:=r1.length;have l2:=r2.length;refine Qe (SeqAt.RcNeAt.lists (e:=es) p1.isList p2.isList (by simp;lia) (by lia) (λj h1 h2=>?_)) (fin_bl I q (by rw[RD,l1]));obtain⟨x,hx,rx⟩:=fK r1 h1;obtain⟨y,hy,ry⟩:=fK r2 h2;exact mS I (he j x y hx hy) X.A.in1 (by show X.A.units+1+n<OH;lia) rx ry
 | @tup n a b xs ys es ha hb he=>
   cases rx;cases ry;obtain⟨its,r1,p1,_⟩:=I.tuple ha;obtain⟨its2,r2,p2,_⟩:=I.tuple hb;have l1:=r1.length;have l2:=r2.length;refine Qe (SeqAt.RcNeAt.tuples (e:=es) (show s.heap.IsTuple a its.toArray from p1) (show s.heap.IsTuple b its2.toArray from p2) (by lia) (λj h1 h2=>?_)) (fin_bl I q (by rw[RD,RD,l1,l2]));obtain⟨x,hx,rx⟩:=fK r1 h1;obtain⟨y,hy,ry⟩:=fK r2 h2;exact mS I (he j x y hx hy) X.A.in1 (by show X.A.units+1+n<OH;lia) rx ry
end
def D8(op:Rl)(x y:V)(H:Hp)(Q:VK):Prop:=match op,x,y with
 | .Add,.int i,.int j=>Q (.int (i+j)) H
 | .Add,.str i,.str j=>i.length+j.length<=sizeLine/\Q (.str (i++j)) H
 | .Add,.ref a,.ref b=>LD (.ref a) (.ref b) H Q
 | .Sub,.int i,.int j=>Q (.int (i - j)) H
 | .Mult,.int i,.int j=>Cs i j/\Q (.int (i*j)) H
 | .FloorDiv,.int i,.int j=>Kw i j/\Q (.int (i / j)) H
 | .Mod,.int i,.int j=>0<j/\Q (.int (i % j)) H
 | .Pow,.int i,.int j=>Kv i j/\Q (.int (i ^ j.toNat)) H
 |_,_,_=>False
section
variable{X:Cx}{a b c:N5}{ta tb tc:TE}{pos:Px}
theorem Jm(op:Rl):iD X (OZ op) (D8 op):=by
 intro gV s σ H x y v u Q I rx ry h;unfold D8 at h;split at h
 .exact Jn gV s σ H _ _ v u Q I rx ry ⟨_,_,rfl,rfl,h⟩
 .exact ug gV s σ H _ _ v u Q I rx ry ⟨_,_,rfl,rfl,h.1,h.2⟩
 .exact Jl gV s σ H _ _ v u Q I rx ry h
 .exact Jd gV s σ H _ _ v u Q I rx ry ⟨_,_,rfl,rfl,h⟩
 .exact Jg gV s σ H _ _ v u Q I rx ry ⟨_,_,rfl,rfl,h.1,h.2⟩
 .exact Dl gV s σ H _ _ v u Q I rx ry ⟨_,_,rfl,rfl,h.1,h.2⟩
 .exact Jh gV s σ H _ _ v u Q I rx ry ⟨_,_,rfl,rfl,h.1,h.2⟩
 .exact Je gV s σ H _ _ v u Q I rx ry ⟨_,_,rfl,rfl,h.1,h.2⟩
 .exact h.elim
noncomputable def eqB:V->V->Option Bool
 | .non,.non=>some true
 | .int i,.int j=>some (decide (i=j))
 | .bl i,.bl j=>some (decide (i=j))
 | .str i,.str j=>some (decide (i=j))
 | .non,.int _=>some false| .int _,.non=>some false| .non,.bl _=>some false| .bl _,.non=>some false| .non,.str _=>some false| .str _,.non=>some false
 | .int _,.str _=>some false| .str _,.int _=>some false| .bl _,.str _=>some false| .str _,.bl _=>some false
 |_,_=>none
theorem sK{x y:V}{k:Bool}(h:eqB x y=some k):scal x y=true/\decide (x=y)=k:=by
 cases x<;>cases y<;>simp[eqB,scal]at h ⊢ <;>first|exact h|(subst h;rfl)
def fT(K:Frag)(op:O8)(x y:V)(H:Hp)(Q:VK):Prop:=match op,x,y with
 | .Eq,.ref a,.ref b=>∃k,x6 K H 20 (.ref a) (.ref b) k/\Q (.bl k) H
 | .NotEq,.ref a,.ref b=>∃k,x6 K H 20 (.ref a) (.ref b) k/\Q (.bl (!k)) H
 | .Eq,x,y=>match eqB x y with|some k=>Q (.bl k) H|none=>False
 | .NotEq,x,y=>match eqB x y with|some k=>Q (.bl (!k)) H|none=>False
 | .Lt,.int i,.int j=>Q (.bl (decide (i<j))) H
 | .LtE,.int i,.int j=>Q (.bl (decide (i<=j))) H
 | .Gt,.int i,.int j=>Q (.bl (decide (j<i))) H
 | .GtE,.int i,.int j=>Q (.bl (decide (j<=i))) H
 | .Lt,.str i,.str j=>Q (.bl (decide (i.cps.toList<j.cps.toList))) H
 | .LtE,.str i,.str j=>Q (.bl (!decide (j.cps.toList<i.cps.toList))) H
 | .In,.str i,.str j=>Q (.bl (!(OC j i 0 j.length 1).isEmpty)) H
 | .NotIn,.str i,.str j=>Q (.bl (!(!(OC j i 0 j.length 1).isEmpty))) H
 | .In,x,.ref p=>IZ K false x (.ref p) H Q
 | .NotIn,x,.ref p=>IZ K true x (.ref p) H Q
 | .Is,x,.non=>Q (.bl (decide (x=.non))) H
 | .IsNot,x,.non=>Q (.bl (!decide (x=.non))) H
 |_,_,_=>False
theorem kM(op:O8)(hu:X.A.units+20<OH):iD X (Ol op) (fT X.K op):=by
 intro gV s σ H x y v u Q I rx ry h;unfold fT at h;split at h
 .exact Jk hu gV s σ H _ _ v u Q I rx ry h
 .exact Jf hu gV s σ H _ _ v u Q I rx ry h
 .split at h
  .rename_i k e;obtain⟨h1,h2⟩:=sK e;exact LR gV s σ H _ _ v u Q I rx ry ⟨h1,by rw[h2];exact h⟩
  .exact h.elim
 .split at h
  .rename_i k e;obtain⟨h1,h2⟩:=sK e;exact LM gV s σ H _ _ v u Q I rx ry ⟨h1,by rw[h2];exact h⟩
  .exact h.elim
 .exact LN gV s σ H _ _ v u Q I rx ry ⟨_,_,rfl,rfl,h⟩
 .exact LO gV s σ H _ _ v u Q I rx ry ⟨_,_,rfl,rfl,h⟩
 .exact LP gV s σ H _ _ v u Q I rx ry ⟨_,_,rfl,rfl,h⟩
 .exact LQ gV s σ H _ _ v u Q I rx ry ⟨_,_,rfl,rfl,h⟩
 .exact xh gV s σ H _ _ v u Q I rx ry ⟨_,_,rfl,rfl,h⟩
 .exact xi gV s σ H _ _ v u Q I rx ry ⟨_,_,rfl,rfl,h⟩
 .exact xj gV s σ H _ _ v u Q I rx ry ⟨_,_,rfl,rfl,h⟩
 .exact pX gV s σ H _ _ v u Q I rx ry ⟨_,_,rfl,rfl,h⟩
 .exact xk gV s σ H _ _ v u Q I rx ry h
 .exact pY gV s σ H _ _ v u Q I rx ry h
 .exact Ji gV s σ H _ _ v u Q I rx ry ⟨rfl,h⟩
 .exact Dk gV s σ H _ _ v u Q I rx ry ⟨rfl,h⟩
 .exact h.elim
def fM(i:Nat):TE:=λσ H Q=>match σ[i]? with|some (some v)=>Q v H|_=>False
theorem cv(i:Nat){x:Str}{pos:Px}(hN:X.N[i]? =some x:=by rfl)(hv:MU X.env.scope x:=by first|exact Or.inl rfl|exact Or.inr (Or.inl rfl)|exact Or.inr (Or.inr rfl))(hd:(x == ("__debug__":Str))=false:=by decide)
  (hcd:(x == ("__classdict__":Str))=false:=by decide):PE X (.Name x pos) (fM i):=(Jc hN hv hd hcd).imp λσ H Q h=>by
 unfold fM at h;split at h
 .rename_i v e;exact⟨v,e,h⟩
 .exact h.elim
def qF(op:Rl)(ta tb:TE):TE:=λσ H Q=>ta σ H λx H1=>tb σ H1 λy H2=>D8 op x y H2 Q
theorem au{op:Rl}(ha:PE X a ta)(hb:PE X b tb):PE X (.BinOp a op b pos) (qF op ta tb):=GZ (Jm op) ha hb
def fG(K:Frag)(op:O8)(ta tb:TE):TE:=λσ H Q=>ta σ H λx H1=>tb σ H1 λy H2=>fT K op x y H2 Q
def cL(Q:Bool->Hp->Prop):VK:=λx H=>match x with| .bl k=>Q k H|_=>False
theorem eJ{Q:Bool->Hp->Prop}{x:V}{H:Hp}(h:cL Q x H):∃k,x=.bl k/\Q k H:=by
 unfold cL at h;split at h
 .exact⟨_,rfl,h⟩
 .exact h.elim
theorem J6{op:O8}(hu:X.A.units+20<OH)(ha:PE X a ta)(hb:PE X b tb)(hm:behindInMarks op b=false:=by first|exact mI _|with_unfolding_all rfl):PE X (.Compare a [op] [b] pos) (fG X.K op ta tb):=Di (kM op hu) ha hb hm
def ia(t:TE):TT:=λσ H Q=>t σ H (cL Q)
theorem J3{op:O8}(hu:X.A.units+20<OH)(ha:PE X a ta)(hb:PE X b tb)(hm:behindInMarks op b=false:=by first|exact mI _|with_unfolding_all rfl):PT X (.Compare a [op] [b] pos) (ia (fG X.K op ta tb)):=by
 intro gV s σ H Q I h;refine QF (bU (ha gV s σ H _ I h) λv s1 ⟨x,H1,I1,r1,q1⟩=>bU (hb gV s1 σ H1 _ I1 q1) λu s2 ⟨y,H2,I2,r2,q2⟩=>
  bU (kM op hu gV s2 σ H2 x y v u _ I2 r1 r2 q2) λc s3 ⟨z,H3,I3,r3,q3⟩=>?_) hm
 obtain⟨k,e,q3⟩:=eJ q3;subst e;cases r3;exact Of ⟨H3,I3,q3⟩
def qE(K:Frag)(op op':O8)(ta tb tc:TE):TE:=λσ H Q=>ta σ H λx H1=>tb σ H1 λy H2=>fT K op x y H2 (cL λk H3=>if k=true then tc σ H3 λw' H4=>fT K op' y w' H4 Q else Q (.bl false) H3)
theorem B8{op op':O8}(hu:X.A.units+20<OH)(ha:PE X a ta)(hb:PE X b tb)(hc:PE X c tc)(hm:Rr [op,op'] [b,c]=false:=by with_unfolding_all rfl):PE X (.Compare a [op,op'] [b,c] pos) (qE X.K op op' ta tb tc):=by
 intro gV s σ H Q I h;refine Compare_chain (bU (ha gV s σ H _ I h) λv s1 ⟨x,H1,I1,r1,q1⟩=>chain_link (bU (hb gV s1 σ H1 _ I1 q1) λu s2 ⟨y,H2,I2,r2,q2⟩=>
  bU (kM op hu gV s2 σ H2 x y v u _ I2 r1 r2 q2) λd s3 ⟨z,H3,I3,r3,q3⟩=>?_)) hm
 obtain⟨k,e,q3⟩:=eJ q3;subst e;cases r3;refine Of ?_;cases k with
 |false=>exact ite_ff ⟨.bl false,H3,I3,rfl,q3⟩
 |true=>exact ite_tt (chain_last (bU (hc gV s3 σ H3 _ I3 q3) λw' s4 ⟨z',H4,I4,r4,q4⟩=>kM op' hu gV s4 σ H4 y z' u w' Q I4 r2 r4 q4))
def qD(K:Frag)(op op':O8)(ta tb tc:TE):TT:=λσ H Q=>ta σ H λx H1=>tb σ H1 λy H2=>fT K op x y H2 (cL λk H3=>if k=true then tc σ H3 λw' H4=>fT K op' y w' H4 (cL Q)else Q false H3)
theorem BZ{op op':O8}(hu:X.A.units+20<OH)(ha:PE X a ta)(hb:PE X b tb)(hc:PE X c tc)(hm:Rr [op,op'] [b,c]=false:=by with_unfolding_all rfl):PT X (.Compare a [op,op'] [b,c] pos) (qD X.K op op' ta tb tc):=by
 intro gV s σ H Q I h;refine isTrue_chain (bU (ha gV s σ H _ I h) λv s1 ⟨x,H1,I1,r1,q1⟩=>test_link (bU (hb gV s1 σ H1 _ I1 q1) λu s2 ⟨y,H2,I2,r2,q2⟩=>
  bU (kM op hu gV s2 σ H2 x y v u _ I2 r1 r2 q2) λd s3 ⟨z,H3,I3,r3,q3⟩=>?_)) hm
 obtain⟨k,e,q3⟩:=eJ q3;subst e;cases r3;refine Of ?_;cases k with
 |false=>exact ite_ff ⟨H3,I3,q3⟩
 |true=>
  refine ite_tt (test_last (bU (hc gV s3 σ H3 _ I3 q3) λw' s4 ⟨z',H4,I4,r4,q4⟩=>bU (kM op' hu gV s4 σ H4 y z' u w' _ I4 r2 r4 q4) λd' s5 ⟨z2,H5,I5,r5,q5⟩=>?_));obtain⟨k2,e2,q5⟩:=eJ q5;subst e2;cases r5;exact Of ⟨H5,I5,q5⟩
theorem bL{e:N5}{t:TE}(h:PE X e t)(he:∀whole,isTrue e X.env whole=(do let v<-whole;standAt e.pos;Qc [v] (truthy v)):=by intro _;rfl):PT X e (ia t):=by intro gV s σ H Q I hw;refine isTrue_plain (bU (h gV s σ H _ I hw) λv s1 ⟨x,H1,I1,r1,q1⟩=>?_) (he _);obtain⟨d,rfl,q⟩:=eJ q1;cases r1;exact Of ⟨H1,I1,q⟩
variable{rest:List N5}
def wx(ta tb:TE):TE:=λσ H Q=>ta σ H (cL λc H1=>if c=true then tb σ H1 Q else Q (.bl false) H1)
def J7(ta tb:TE):TE:=λσ H Q=>ta σ H (cL λc H1=>if c=true then Q (.bl true) H1 else tb σ H1 Q)
def Hx(ta:TE):TE:=λσ H Q=>ta σ H (cL λc H1=>Q (.bl (!c)) H1)
theorem eH(ha:PE X a ta)(hb:PE X (.BoolOp .And (b::rest) pos) tb):PE X (.BoolOp .And (a::b::rest) pos) (wx ta tb):=by
 intro gV s σ H Q I h;refine BoolOp_and (bU (ha gV s σ H _ I h) λv s1 ⟨x,H1,I1,r1,q1⟩=>?_);obtain⟨c,rfl,q1⟩:=eJ q1;cases r1;refine Of ?_;cases c with
 |true=>exact hb gV s1 σ H1 Q I1 q1
 |false=>exact⟨.bl false,H1,I1,rfl,q1⟩
theorem Hv(ha:PE X a ta)(hb:PE X (.BoolOp .Or (b::rest) pos) tb):PE X (.BoolOp .Or (a::b::rest) pos) (J7 ta tb):=by
 intro gV s σ H Q I h;refine BoolOp_or (bU (ha gV s σ H _ I h) λv s1 ⟨x,H1,I1,r1,q1⟩=>?_);obtain⟨c,rfl,q1⟩:=eJ q1;cases r1;refine Of ?_;cases c with
 |false=>exact hb gV s1 σ H1 Q I1 q1
 |true=>exact⟨.bl true,H1,I1,rfl,q1⟩
theorem B6(ha:PE X a ta):PE X (.UnaryOp .Not a pos) (Hx ta):=by intro gV s σ H Q I h;refine UnaryOp_ (bU (ha gV s σ H _ I h) λv s1 ⟨x,H1,I1,r1,q1⟩=>?_);obtain⟨c,rfl,q1⟩:=eJ q1;cases r1;exact not_of (Of ⟨.bl (!c),H1,I1,rfl,q1⟩)
def Mz(ta:TE):TE:=λσ H Q=>ta σ H λx H1=>match x with| .int i=>Q (.int (-i)) H1|_=>False
theorem jy(ha:PE X a ta):PE X (.UnaryOp .USub a pos) (Mz ta):=by
 intro gV s σ H Q I h;refine UnaryOp_ (bU (ha gV s σ H _ I h) λv s1 ⟨x,H1,I1,r1,q1⟩=>?_);cases x with
 |int i=>exact Iz gV s1 σ H1 _ v Q I1 r1 ⟨i,rfl,q1⟩
 |_=>exact q1.elim
end
theorem bT:N2 "len"=some (.builtin "len"):=by decide+kernel
theorem Kc:N2 "max"=some (.builtin "max"):=by decide+kernel
theorem qK:N2 "all"=some (.builtin "all"):=by decide+kernel
theorem Kd:N2 "any"=some (.builtin "any"):=by decide+kernel
theorem bq:N2 "isinstance"=some (.builtin "isinstance"):=by decide+kernel
theorem kY:N2 "sorted"=some (.builtin "sorted"):=by decide+kernel
theorem qI:N2 "int"=some (.type "int"):=by decide+kernel
theorem wz:N2 "bool"=some (.type "bool"):=by decide+kernel
theorem vd:N2 "str"=some (.type "str"):=by decide+kernel
theorem ir:N2 "list"=some (.type "list"):=by decide+kernel
theorem sU:N2 "tuple"=some (.type "tuple"):=by decide+kernel
theorem wy:N2 "dict"=some (.type "dict"):=by decide+kernel
theorem qH:N2 "set"=some (.type "set"):=by decide+kernel
theorem qJ:N2 "enumerate"=some (.type "enumerate"):=by decide+kernel
inductive BT|int|bool|str|list|tuple|dict
 deriving DecidableEq
def BT.s:BT->String
 | .int=>"int" | .bool=>"bool" | .str=>"str" | .list=>"list" | .tuple=>"tuple" | .dict=>"dict"
def dF:BT->BT->Bool
 | .bool,.int=>true
 | .int,.int=>true| .bool,.bool=>true| .str,.str=>true| .list,.list=>true| .tuple,.tuple=>true| .dict,.dict=>true
 |_,_=>false
theorem kit_bt(K:Frag)(a T:BT):UB K (.type a.s) (.type T.s)=some (dF a T):=by cases a<;>cases T<;>kernel_rfl
theorem DC(K:Frag)(T:BT):UB K (.type "NoneType") (.type T.s)=some false:=by cases T<;>kernel_rfl
def Bp(T:BT)(x:V)(H:Hp)(Q:VK):Prop:=match x with
 | .non=>Q (.bl false) H
 | .bl _=>Q (.bl (dF .bool T)) H
 | .int _=>Q (.bl (dF .int T)) H
 | .str _=>Q (.bl (dF .str T)) H
 | .ref a=>match H a with
   |some (.lst _)=>Q (.bl (dF .list T)) H
   |some (.frz _ (.lst _))=>Q (.bl (dF .list T)) H
   |some (.tup _)=>Q (.bl (dF .tuple T)) H
   |some (.dK _)=>Q (.bl (dF .dict T)) H
   |_=>False
 |_=>False
section
variable{X:Cx}{a b c e o:N5}{ta tb tc te to:TE}{p p2 pos:Px}{es:List N5}{t:TA}
theorem L7(T:BT){gV:NJ}{s:NN}{σ:St}{H:Hp}{x:V}{u:Value}{Q:VK}(I:aM X gV σ H s)(rx:aV x u)(h:Bp T x H Q):NS (NX X.prog X.w) X.A (call (.builtin "isinstance") [u,.type T.s]) (EP X gV σ Q) X.xe s:=by
 have fin:∀{k:Bool}{tv:Value},k4 X.K H x tv->UB X.K tv (.type T.s)=some k->Q (.bl k) H->NS (NX X.prog X.w) X.A (call (.builtin "isinstance") [u,.type T.s]) (EP X gV σ Q) X.xe s:=λty e q=>
  xC I rx ty e λtk=>⟨.bl _,H,I.tok tk,rfl,q⟩
 unfold Bp at h;cases x with
 |non=>exact fin .non (DC _ T) h
 |bl y=>exact fin (.bl y) (kit_bt _ .bool T) h
 |int y=>exact fin (.int y) (kit_bt _ .int T) h
 |str y=>exact fin (.str y) (kit_bt _ .str T) h
 |ref d=>
  dsimp only at h;split at h
  .rename_i e;exact fin (.lst e) (kit_bt _ .list T) h
  .rename_i e;exact fin (.frz e) (kit_bt _ .list T) h
  .rename_i e;exact fin (.tup e) (kit_bt _ .tuple T) h
  .rename_i e;exact fin (.dK e) (kit_bt _ .dict T) h
  .exact h.elim
 |_=>exact h.elim
def J9(T:BT)(ta:TE):TE:=λσ H Q=>ta σ H λx H1=>Bp T x H1 Q
theorem Mv(T:BT){n:Str}(ha:PE X a ta)(hg:Gl X "isinstance")(hm:X.mg "isinstance"=none)(hgT:Gl X n)(hmT:X.mg n=none)(hv:N2 n=some (.type T.s))(hn:n≠"__name__":=by decide)(hdb:(n == ("__debug__":Str))=false:=by decide)
  (he:NU [a,.Name n p2] X.env=(false,Om a X.env)::NU [.Name n p2] X.env:=by rfl) (he2:NU [.Name n p2] X.env=(false,Om (.Name n p2) X.env)::NU [] X.env:=by rfl) (hpl:(Oh pos (NU [.Name n p2] X.env)).any (·.1)=false:=by rfl):
  PE X (.Call (.Name "isinstance" p) [a,.Name n p2] [] pos) (J9 T ta):=by
 intro gV s σ H Q I h;refine Ox (kR I hg hm bq ?_ (by decide) (by decide));have hA:PA X [a,.Name n p2] (bx ta (bx (tC (.ty T.s)) df)):=pa_cons ha (pa_cons (vW hgT hmT hv rfl hn hdb) pa_nil he2) he;refine PyProof.Rows.callWith_builtin1 (bU (hA pos gV s σ H (λvs H1=>∃x,vs=[x,.ty T.s]/\Bp T x H1 Q) I ?_) λus s1 ⟨vs,H1,I1,r1,x,e,q1⟩=>?_) he hpl
 .have mono:(λ(x:V) H1=>Bp T x H1 Q)=λx H1=>(bx (tC (.ty T.s)) df) σ H1 λxs H2=>∃y,x::xs=[y,.ty T.s]/\Bp T y H2 Q:=by
   funext x H1;apply propext
   constructor
   .intro q;exact⟨x,rfl,q⟩
   .rintro⟨y,e,q⟩;have:x=y:=by injection e
    subst this;exact q
  show ta σ H _;rw[<-mono];exact h
 .subst e;obtain⟨u,w',rfl,ru,rt⟩:=GF r1;cases rt;exact L7 T I1 ru q1
theorem wB.imp{r r':R2}(h:wB X r)(i:∀x y H Q,r' x y H Q->r x y H Q):wB X r':=λva sl gV s σ H x y v u Q I rx ry q hs=>h va sl gV s σ H x y v u Q I rx ry (i x y H Q q) hs
def Nd(K:Frag)(x y:V)(H:Hp)(Q:VK):Prop:=match x,y with
 | .str z,.int i=>z.length<=sizeLine/\∃c,km z.cps.toList i=some c/\Q (.str ⟨#[c]⟩) H
 | .ref q,.int i=>∃xs v,(aY K H q xs\/cr K H q xs)/\km xs i=some v/\Q v H
 |_,_=>False
theorem Nc:wB X (Nd X.K):=(JH (X:=X)).imp λx y H Q h=>by
 unfold Nd at h;split at h
 .obtain⟨h1,c,h2,q⟩:=h;exact .inr (.inr ⟨_,_,c,rfl,rfl,h1,h2,q⟩)
 .obtain⟨xs,v,h1,h2,q⟩:=h
  rcases h1 with h1|h1
  .exact .inl ⟨_,xs,_,v,rfl,rfl,h1,h2,q⟩
  .exact .inr (.inl ⟨_,xs,_,v,rfl,rfl,h1,h2,q⟩)
 .exact h.elim
def Cd(K:Frag)(ta tb:TE):TE:=λσ H Q=>ta σ H λx H1=>tb σ H1 λy H2=>Nd K x y H2 Q
theorem Mu(ha:PE X a ta)(hb:PE X b tb)(hs:qM b:=by exact λ_ _=>rfl):PE X (.Subscript a b pos) (Cd X.K ta tb):=LF Nc ha hb hs
def Hw(t:TE):TO:=λσ H Q=>t σ H λx H1=>match x with| .int i=>Q (some i) H1|_=>False
theorem cK(h:PE X e te):PO X (some e) (Hw te):=by
 intro gV s σ H Q I hw;rw[evalPart_some];refine bU (h gV s σ H _ I hw) λu s1 ⟨x,H1,I1,r1,q1⟩=>?_;cases x with
 |int i=>
  obtain⟨t,rfl⟩:=r1;exact⟨some i,H1,I1,.int i t,q1⟩
 |_=>exact q1.elim
theorem xX.imp{r r':V->Option Int->Option Int->Hp->VK->Prop}(h:xX X r)(i:∀x lo hi H Q,r' x lo hi H Q->r x lo hi H Q):xX X r':=λgV s σ H x v vl vu lo hi sl Q I rx hs pl pu q=>h gV s σ H x v vl vu lo hi sl Q I rx hs pl pu (i x lo hi H Q q)
def MO(K:Frag)(x:V)(lo hi:Option Int)(H:Hp)(Q:VK):Prop:=match x with
 | .str z=>z.length<=sizeLine/\Q (.str (j5 z lo hi)) H
 | .ref d=>∃xs,aY K H d xs/\∀q,H q=none->Q (.ref q) (upd H q (.lst (cutV xs lo hi)))
 |_=>False
theorem M3:xX X (MO X.K):=((IN (X:=X)).or C5).imp λx lo hi H Q h=>by
 unfold MO at h;split at h
 .exact .inl ⟨_,rfl,h.1,h.2⟩
 .obtain⟨xs,h1,h2⟩:=h;exact .inr ⟨_,xs,rfl,h1,h2⟩
 .exact h.elim
def My(K:Frag)(te:TE)(tl th:TO):TE:=λσ H Q=>te σ H λx H1=>tl σ H1 λl H2=>th σ H2 λu H3=>MO K x l u H3 Q
theorem Mt{lo hi:Option N5}{tl th:TO}(he:PE X e te)(hl:PO X lo tl)(hu:PO X hi th):PE X (.Subscript e (.Slice lo hi none p2) pos) (My X.K te tl th):=rH M3 he hl hu
def cB(r:List V->Hp->VK->Prop)(t:TA):TE:=λσ H Q=>t σ H λvs H1=>r vs H1 Q
def Bg(K:Frag)(xs:List V)(H:Hp)(Q:VK):Prop:=match xs with
 | [.str z]=>z.length<=sizeLine/\Q (.int z.length) H
 | [.ref d]=>∃ys,(aY K H d ys\/cr K H d ys)/\Q (.int ys.length) H
 |_=>False
theorem xR:bn X (.builtin "len") (Bg X.K):=((qC (X:=X)).or qB).imp λxs H Q h=>by
 unfold Bg at h;split at h
 .exact .inr ⟨_,rfl,h.1,h.2⟩
 .obtain⟨ys,h1,h2⟩:=h;exact .inl ⟨_,ys,rfl,h1,h2⟩
 .exact h.elim
def JI(xs:List V)(H:Hp)(Q:VK):Prop:=match xs with
 | [.str x]=>∃n,PySem.intText? x=some n/\x.length<=640/\Q (.int n) H
 | [.bl k]=>Q (.int (if k then 1 else 0)) H
 |_=>False
theorem oP:bn X (.type "int") JI:=((nN (X:=X)).or xS).imp λxs H Q h=>by
 unfold JI at h;split at h
 .obtain⟨n,h1,h2,q⟩:=h;exact .inl ⟨_,n,rfl,h1,h2,q⟩
 .exact .inr (.inr ⟨_,rfl,h⟩)
 .exact h.elim
def Kn(K:Frag)(xs:List V)(H:Hp)(Q:VK):Prop:=match xs with
 | [.ref d]=>∃ks:List Bool,aY K H d (ks.map V.bl)/\Q (.bl (ks.all id)) H
 |_=>False
theorem xU(hc:X.calm=true):bn X (.builtin "all") (Kn X.K):=(B9 hc).imp λxs H Q h=>by
 unfold Kn at h;split at h
 .obtain⟨ks,h1,q⟩:=h;exact⟨_,ks,rfl,h1,q⟩
 .exact h.elim
theorem Nl{id:String}{x:Str}{r:List V->Hp->VK->Prop}(hc:bn X (.builtin id) r)(hv:N2 x=some (.builtin id))(hm:X.mg x=none)(ha:PA X (e::es) t)(hg:Gl X x:=by rfl)(hn:x≠"__name__":=by decide)(hdb:(x == ("__debug__":Str))=false:=by decide)
  (he:NU (e::es) X.env=(false,Om e X.env)::NU es X.env:=by rfl) (hpl:(Oh pos (NU es X.env)).any (·.1)=false:=by rfl):PE X (.Call (.Name x p) (e::es) [] pos) (cB r t):=A1 hc hg hm hv ha hn hdb he hpl
theorem Mw{T:String}{x:Str}{r:List V->Hp->VK->Prop}(hc:bn X (.type T) r)(hv:N2 x=some (.type T))(hm:X.mg x=none)(ha:PA X (e::es) t)(hg:Gl X x:=by rfl)(hn:x≠"__name__":=by decide)(hdb:(x == ("__debug__":Str))=false:=by decide)
  (he:NU (e::es) X.env=(false,Om e X.env)::NU es X.env:=by rfl) (hpl:(Oh pos (NU es X.env)).any (·.1)=false:=by rfl):PE X (.Call (.Name x p) (e::es) [] pos) (cB r t):=xf hc hg hm hv ha hn hdb he hpl
def Nm(r:V->List V->Hp->VK->Prop)(to:TE)(t:TA):TE:=λσ H Q=>to σ H λx H1=>match x with| .str z=>t σ H1 λxs H2=>r (.str z) xs H2 Q|_=>False
theorem Ms{name:Str}{apos cpos:Px}{id:String}{r:V->List V->Hp->VK->Prop}(slot:Slot "str" name id)(hty:Rp (.builtin id)=pure (.type "method_descriptor"))(hm:qR X id r)(ho:PE X o to)(ha:PA X (e::es) t)
  (hbase:Ot o name X.env (Om o X.env)=Om o X.env:=by rfl)
  (hfew:((Oh cpos (NU (e::es) X.env)).all (λx=> !x.1)&&(P1 cpos (Pc [] X.env)).all (λx=>x.1.isSome)
   &&decide ((e::es).length+([]:List Ph).length+(if([]:List Ph).isEmpty then 0 else 1)<30))=true:=by rfl)
  (hline:(apos.endLine == cpos.line)=true:=by rfl) (hs:NU (e::es) X.env=(false,Om e X.env)::NU es X.env:=by rfl) (hplain:(Oh cpos (NU es X.env)).any (·.1)=false:=by rfl):
  PE X (.Call (.Attribute o name apos) (e::es) [] cpos) (Nm r to t):=by
 intro gV s σ H Q I h;refine OF hbase hfew hline rfl (bU (ho gV s σ H _ I h) λv s1 ⟨x,H1,I1,r1,q1⟩=>?_);cases x with
 |str z=>
  have ty:IA X.K "str" (.str z) H1:=rfl;obtain⟨h1,h2⟩:=ko I1 r1 ty;refine⟨"str",id,PySem.F.plainAttrs_str,slot,hty,h1,h2,?_⟩;have hA:=ha cpos gV s1 σ H1 _ I1 q1;rw[hs]at hA ⊢;refine Ow (by show(false||(Oh cpos (NU es X.env)).any (·.1))=false;rw[hplain]<;>rfl) (OA ?_)
  exact bU hA λus s2 ⟨vs,H2,I2,r2,q2⟩=>hm gV s2 σ H2 _ vs v us Q I2 r1 r2 q2
 |_=>exact q1.elim
def D3(r:V->List V->Hp->VK->Prop)(to:TE):TE:=λσ H Q=>to σ H λx H1=>match x with| .str z=>r (.str z) [] H1 Q|_=>False
theorem jx{name:Str}{apos cpos:Px}{id:String}{r:V->List V->Hp->VK->Prop}(slot:Slot "str" name id)(hty:Rp (.builtin id)=pure (.type "method_descriptor"))(hm:qR X id r)(ho:PE X o to)
  (hbase:Ot o name X.env (Om o X.env)=Om o X.env:=by rfl) (hline:(apos.endLine == cpos.line)=true:=by rfl):PE X (.Call (.Attribute o name apos) [] [] cpos) (D3 r to):=by
 intro gV s σ H Q I h;refine wpAny_Call_method0_late hbase hline (bU (ho gV s σ H _ I h) λv s1 ⟨x,H1,I1,r1,q1⟩=>?_);cases x with
 |str z=>
  have ty:IA X.K "str" (.str z) H1:=rfl;obtain⟨h1,h2⟩:=ko I1 r1 ty;exact⟨"str",id,PySem.F.plainAttrs_str,slot,hty,h1,h2,Ow rfl (PySem.evalArgs_none (hm gV s1 σ H1 _ [] v [] Q I1 r1 .nil q1))⟩
 |_=>exact q1.elim
def sA(K:Frag)(x:V)(vs:List V)(H:Hp)(Q:VK):Prop:=match x,vs with
 | .str sep,[.ref d]=>∃ys:List Str,aY K H d (ys.map V.str)/\(ys.map (·.length)).sum+ys.length*sep.length<=16777216/\Q (.str (Rj sep ys)) H
 |_,_=>False
theorem A8:qR X "str.join" (sA X.K):=(Dx (X:=X)).imp λx vs H Q h=>by
 unfold sA at h;split at h
 .obtain⟨ys,h1,h2,q⟩:=h;exact⟨_,_,ys,rfl,rfl,h1,h2,q⟩
 .exact h.elim
def Lo(x:V)(vs:List V)(H:Hp)(Q:VK):Prop:=match x,vs with
 | .str a,[]=>a.length<=sizeLine/\(∀c∈a.cps.toList,c<128)/\Q (.str ⟨a.cps.map up1⟩) H
 |_,_=>False
theorem uw:qR X "str.upper" Lo:=(A7 (X:=X)).imp λx vs H Q h=>by
 unfold Lo at h;split at h
 .exact⟨_,rfl,rfl,h.1,h.2.1,h.2.2⟩
 .exact h.elim
def D4(to te:TE):TE:=λσ H Q=>to σ H λx H1=>match x with
 | .ref l=>(∃xs,H1 l=some (.lst xs))/\te σ H1 λy H2=>∃xs,H2 l=some (.lst xs)/\xs.length<sizeLine/\Q .non (upd H2 l (.lst (xs++[y])))
 |_=>False
theorem gQ{apos cpos:Px}(ho:PE X o to)(he:PE X e te)(hbase:Ot o "append" X.env (Om o X.env)=Om o X.env:=by rfl)
  (hfew:((Oh cpos (NU [e] X.env)).all (λx=> !x.1)&&(P1 cpos (Pc [] X.env)).all (λx=>x.1.isSome)
   &&decide ([e].length+([]:List Ph).length+(if([]:List Ph).isEmpty then 0 else 1)<30))=true:=by rfl)
  (hline:(apos.endLine == cpos.line)=true:=by rfl) (hs:NU [e] X.env=(false,Om e X.env)::NU [] X.env:=by rfl) (hplain:(Oh cpos (NU [] X.env)).any (·.1)=false:=by rfl):
  PE X (.Call (.Attribute o "append" apos) [e] [] cpos) (D4 to te):=by
 intro gV s σ H Q I h;refine OF hbase hfew hline rfl (bU (ho gV s σ H _ I h) λv s1 ⟨x,H1,I1,r1,q1⟩=>?_);cases x with
 |ref l=>
  obtain⟨⟨xs0,e0⟩,q1⟩:=q1;have ty:IA X.K "list" (.ref l) H1:=.inl ⟨rfl,xs0,aY.of e0⟩;obtain⟨h1,h2⟩:=ko I1 r1 ty;refine⟨"list","list.append",PySem.F.plainAttrs_list,PySem.F.slot_list_append,PySem.F.type_list_append,h1,h2,?_⟩;have hA:=(pa_cons he pa_nil hs:PA X [e] (bx te df)) cpos gV s1 σ H1 (λvs H2=>∃y,vs=[y]/\∃xs,H2 l=some (.lst xs)/\xs.length<sizeLine/\Q .non (upd H2 l (.lst (xs++[y])))) I1 (by
   show te σ H1 λy H2=>∃y',[y]=[y']/\_;have:(λ(y:V)(H2:Hp)=>∃xs,H2 l=some (.lst xs)/\xs.length<sizeLine/\Q .non (upd H2 l (.lst (xs++[y]))))=λy H2=>∃y',[y]=[y']/\∃xs,H2 l=some (.lst xs)/\xs.length<sizeLine/\Q .non (upd H2 l (.lst (xs++[y']))):=by
    funext y H2;apply propext
    constructor
    .intro z;exact⟨y,rfl,z⟩
    .rintro⟨y',e,z⟩;have:y=y':=by injection e
     subst this;exact z
   rw[<-this];exact q1)
  rw[hs]at hA ⊢;refine Ow (by show(false||(Oh cpos (NU [] X.env)).any (·.1))=false;rw[hplain]<;>rfl) (OA ?_)
  exact bU hA λus s2 ⟨vs,H2,I2,r2,y,e,xs,q3,q4,q5⟩=>xp gV s2 σ H2 _ vs v us Q I2 r1 r2 ⟨l,xs,y,rfl,e,q3,q4,q5⟩
 |_=>exact q1.elim
structure dg(P:NP)(w:NT)(K:Frag)(mg:NH)(Ny:NZ)(name:Str)(ps:List Str)(k:Nat)(sp:Sp):Prop where
 ex:∃f fd,bg P w K mg Ny cV k f fd ps sp/\mg name=some (.ref f)/\UF K (.ref f)=true/\gG K fd ps []
def fH(sp:Sp)(t:TA):TE:=λσ H Q=>t σ H λvs H1=>sp vs H1 Q E0
theorem D2{name:Str}{ps:List Str}{k j:Nat}{sp:Sp}(C:dg X.prog X.w X.K X.mg X.Ny name ps k sp)(hr:cI j X.A)(hkj:k<=j)(ha:PA X (e::es) t)(hg:Gl X name:=by rfl)(hdb:(name == ("__debug__":Str))=false:=by decide)
  (he:NU (e::es) X.env=(false,Om e X.env)::NU es X.env:=by rfl) (hpl:(Oh pos (NU es X.env)).any (·.1)=false:=by rfl):PE X (.Call (.Name name p) (e::es) [] pos) (fH sp t):=by
 obtain⟨f,fd,F,hm,hk,hb⟩:=C.ex;refine(Dj F (hr.mono hkj) hg hm hk hb .nil A2 ha hdb he hpl:PE X _ (Au sp [] E0 t)).imp λσ H Q h=>?_;unfold Au;simp only[RP];exact h
end
section
variable{X:Cx}
theorem A0{x:Str}{v:V}{pos:Px}(hg:Gl X x)(h:∃u,X.mg x=some u/\aV v u)(hd:(x == ("__debug__":Str))=false:=by decide):PE X (.Name x pos) (tC v):=by obtain⟨u,hm,r⟩:=h;exact Dg hg hm r hd
end
theorem bS{A:N1}{k:Nat}(hr:cI k A):A.units+20<OH:=by have:=hr.units;lia
theorem ak.upd{H H':Hp}{d:Addr}{o:HO}(h:ak H H')(hd:H' d=none):ak H (upd H' d o):=λb ob e=>by have e':=h b ob e;rw[av (aC e' hd)];exact e'
section
variable{X:Cx}{a b c e o:N5}{ta tb tc te to:TE}{p p2 pos:Px}{es:List N5}{t:TA}
theorem jv(K:Frag){op:O8}(hu:X.A.units+20<OH)(ha:PE X a ta)(hb:PE X b tb)(hm:behindInMarks op b=false:=by first|exact mI _|with_unfolding_all rfl)(hK:X.K=K:=by rfl):PE X (.Compare a [op] [b] pos) (fG K op ta tb):=by subst hK;exact J6 hu ha hb hm
theorem aT(K:Frag){op:O8}(hu:X.A.units+20<OH)(ha:PE X a ta)(hb:PE X b tb)(hm:behindInMarks op b=false:=by first|exact mI _|with_unfolding_all rfl)(hK:X.K=K:=by rfl):PT X (.Compare a [op] [b] pos) (ia (fG K op ta tb)):=by subst hK;exact J3 hu ha hb hm
theorem uG(K:Frag){op op':O8}(hu:X.A.units+20<OH)(ha:PE X a ta)(hb:PE X b tb)(hc:PE X c tc)(hm:Rr [op,op'] [b,c]=false:=by with_unfolding_all rfl)(hK:X.K=K:=by rfl):PE X (.Compare a [op,op'] [b,c] pos) (qE K op op' ta tb tc):=by subst hK;exact B8 hu ha hb hc hm
theorem lO(K:Frag){op op':O8}(hu:X.A.units+20<OH)(ha:PE X a ta)(hb:PE X b tb)(hc:PE X c tc)(hm:Rr [op,op'] [b,c]=false:=by with_unfolding_all rfl)(hK:X.K=K:=by rfl):PT X (.Compare a [op,op'] [b,c] pos) (qD K op op' ta tb tc):=by subst hK;exact BZ hu ha hb hc hm
theorem bR(K:Frag)(ha:PE X a ta)(hb:PE X b tb)(hs:qM b:=by exact λ_ _=>rfl)(hK:X.K=K:=by rfl):PE X (.Subscript a b pos) (Cd K ta tb):=by subst hK;exact Mu ha hb hs
theorem Bi(K:Frag){lo hi:Option N5}{tl th:TO}(he:PE X e te)(hl:PO X lo tl)(hu:PO X hi th)(hK:X.K=K:=by rfl):PE X (.Subscript e (.Slice lo hi none p2) pos) (My K te tl th):=by subst hK;exact Mt he hl hu
theorem klen(K:Frag)(hK:X.K=K:=by rfl):bn X (.builtin "len") (Bg K):=by subst hK;exact xR
theorem DD(K:Frag)(hc:X.calm=true:=by rfl)(hK:X.K=K:=by rfl):bn X (.builtin "all") (Kn K):=by subst hK;exact xU hc
theorem Hg(K:Frag)(hK:X.K=K:=by rfl):qR X "str.join" (sA K):=by subst hK;exact A8
theorem qQ(K:Frag){tg l:N5}{tl:TE}(hl:PE X l tl)(hK:X.K=K:=by rfl):PI X tg l (oE K tl):=by subst hK;exact Dc hl
theorem L5(K:Frag){n:Nat}{k:Nat}{t:Hz}(h:Ky X es t)(hc:X.calm=true:=by rfl)(hn:(Pn es X.env).length=n:=by rfl)(hst:List.findIdx? (λx=>x.1) (Pn es X.env)=none:=by rfl)(hK:X.K=K:=by rfl):PG X (.Tuple es k pos) (xF K n t):=by subst hK;exact Jb hc h hn hst
theorem kg{x:Str}{v:V}(h:∃u,X.mg x=some u/\aV v u)(hg:Gl X x:=by rfl)(hd:(x == ("__debug__":Str))=false:=by decide):PE X (.Name x pos) (tC v):=A0 hg h hd
theorem Bj(T:BT){n:Str}(hm:X.mg "isinstance"=none)(hmT:X.mg n=none)(hv:N2 n=some (.type T.s))(ha:PE X a ta)(hg:Gl X "isinstance":=by rfl)(hgT:Gl X n:=by rfl)(hn:n≠"__name__":=by decide)(hdb:(n == ("__debug__":Str))=false:=by decide)
  (he:NU [a,.Name n p2] X.env=(false,Om a X.env)::NU [.Name n p2] X.env:=by rfl) (he2:NU [.Name n p2] X.env=(false,Om (.Name n p2) X.env)::NU [] X.env:=by rfl) (hpl:(Oh pos (NU [.Name n p2] X.env)).any (·.1)=false:=by rfl):
  PE X (.Call (.Name "isinstance" p) [a,.Name n p2] [] pos) (J9 T ta):=Mv T ha hg hm hgT hmT hv hn hdb he he2 hpl
theorem Cu{tg:N5}{ta:TA}(hm:X.mg "range"=none)(ha:PA X [a] ta)(hg:Gl X "range":=by rfl)(hs:NU [a] X.env=[(false,Om a X.env)]:=by rfl):PI X tg (.Call (.Name "range" p) [a] [] pos) (mP ta):=xb hg hm ha hs
theorem cC{N:List Str}{src:List (Option Nat)}{scope:O0}(dsc:O0)(XN:List Str)(h:uV dsc XN N src scope=true:=by decide+kernel)(he:X.env.scope=dsc:=by rfl)(hN:X.N=XN:=by rfl):cp X N src scope:=cp.of he hN h
theorem bD{i:Nat}{x:Str}(N:List Str)(hN:N.Nodup:=by decide+kernel)(hi:X.N[i]? =some x:=by rfl)(hx:Kz X.env.scope x:=by first|exact Or.inl rfl|exact Or.inr rfl)(hf:X.fn x=true\/X.env.scope.names.lookup x=some .local:=by first|exact .inl rfl|exact .inr rfl)(hNX:X.N=N:=by rfl):PG X (.Name x pos) (gName i):=
 bN (hNX▸hN) hi hx hf
theorem gB{N:List Str}{src:List (Option Nat)}{scope:O0}{tg iter:N5}{ifs:List N5}{wi:TI}{g:TG}{tt:TT}(S:cp X N src scope)(hi:PI X tg iter wi)(hg:∀s H ex,PG (cxC X scope N s H ex) tg g)(ht:∀s H ex,tf (cxC X scope N s H ex) ifs tt)(he:∀s H ex,PE (cxC X scope N s H ex) e te)
  (hc:X.calm=true:=by rfl) (hs:∀x,Pr iter X.env x=pure x:=by intro _;rfl):PE X (.ListComp e [⟨tg,iter,ifs,0⟩] scope pos) (tComp wi g tt te src):=Dh hc S hi hg ht he hs
end
theorem n6{K:Frag}{i j:Int}{H:Hp}{Q:VK}:(fT K .LtE (.int i) (.int j) H Q)=(Q (.bl (decide (i<=j))) H):=rfl
theorem w5{K:Frag}{i j:Str}{H:Hp}{Q:VK}:(fT K .LtE (.str i) (.str j) H Q)=(Q (.bl (!decide (j.cps.toList<i.cps.toList))) H):=rfl
theorem AO{K:Frag}{i j:Str}{H:Hp}{Q:VK}:(fT K .In (.str i) (.str j) H Q)=(Q (.bl (!(OC j i 0 j.length 1).isEmpty)) H):=rfl
theorem pP{K:Frag}{i:Int}{d:Addr}{H:Hp}{Q:VK}:(fT K .In (.int i) (.ref d) H Q)=(IZ K false (.int i) (.ref d) H Q):=rfl
theorem ly{K:Frag}{i:Int}{d:Addr}{H:Hp}{Q:VK}:(fT K .NotIn (.int i) (.ref d) H Q)=(IZ K true (.int i) (.ref d) H Q):=rfl
theorem jQ{K:Frag}{i:Str}{d:Addr}{H:Hp}{Q:VK}:(fT K .In (.str i) (.ref d) H Q)=(IZ K false (.str i) (.ref d) H Q):=rfl
theorem IX{K:Frag}{a:Str}{d:Addr}{H:Hp}{Q:VK}:(sA K (.str a) [.ref d] H Q)=(∃ys:List Str,aY K H d (ys.map V.str)/\(ys.map (·.length)).sum+ys.length*a.length<=16777216/\Q (.str (Rj a ys)) H):=rfl
theorem M4{a:Str}{H:Hp}{Q:VK}:(Lo (.str a) [] H Q)=(a.length<=sizeLine/\(∀c∈a.cps.toList,c<128)/\Q (.str ⟨a.cps.map up1⟩) H):=rfl
theorem r_b{k:Bool}{Q:Bool->Hp->Prop}{H:Hp}:cL Q (.bl k) H=Q k H:=rfl
def eS:N5->Bool
 | .Starred _ _=>false
 |_=>true
theorem dO{e:N5}{es:List N5}{env:QK}(h:eS e=true):NU (e::es) env=(false,Om e env)::NU es env:=by
 cases e<;>first|rfl|cases h
theorem fU{pos:Px}{env:QK}:∀{es:List N5},es.all eS=true->(Oh pos (NU es env)).any (·.1)=false
 | [],_=>rfl
 |e::es,h=>by
  rw[RZ,T6]at h;rw[dO h.1];show(false||(Oh pos (NU es env)).any (·.1))=false
  rw[fU h.2];rfl
theorem Cm{pos:Px}{env:QK}:∀{es:List N5},es.all eS=true->(Oh pos (NU es env)).all (λx=> !x.1)=true
 | [],_=>rfl
 |e::es,h=>by rw[RZ,T6]at h;rw[dO h.1];show(!false&&(Oh pos (NU es env)).all (λx=> !x.1))=true;rw[Cm h.2];rfl
section
variable{X:Cx}{a b c e o:N5}{ta tb tc te to:TE}{p p2 pos:Px}{es:List N5}{t:TA}
theorem az(ha:PE X e te)(hr:PA X es t)(h:eS e=true:=by rfl):PA X (e::es) (bx te t):=pa_cons ha hr (dO h)
theorem aH{name:Str}{ps:List Str}{k j:Nat}{sp:Sp}(C:dg X.prog X.w X.K X.mg X.Ny name ps k sp)(hr:cI j X.A)(ha:PA X (e::es) t)(hkj:k<=j:=by decide)(hp:(e::es).all eS=true:=by rfl)(hg:Gl X name:=by rfl)(hdb:(name == ("__debug__":Str))=false:=by decide):PE X (.Call (.Name name p) (e::es) [] pos) (fH sp t):=by have hp':=hp;rw[RZ,T6]at hp';exact D2 C hr hkj ha hg hdb (dO hp'.1) (fU hp'.2)
theorem kB{id:String}{x:Str}{r:List V->Hp->VK->Prop}(hc:bn X (.builtin id) r)(hv:N2 x=some (.builtin id))(hm:X.mg x=none)(ha:PA X (e::es) t)(hp:(e::es).all eS=true:=by rfl)(hg:Gl X x:=by rfl)(hn:x≠"__name__":=by decide)(hdb:(x == ("__debug__":Str))=false:=by decide):PE X (.Call (.Name x p) (e::es) [] pos) (cB r t):=by have hp':=hp;rw[RZ,T6]at hp';exact Nl hc hv hm ha hg hn hdb (dO hp'.1) (fU hp'.2)
theorem xA{T:String}{x:Str}{r:List V->Hp->VK->Prop}(hc:bn X (.type T) r)(hv:N2 x=some (.type T))(hm:X.mg x=none)(ha:PA X (e::es) t)(hp:(e::es).all eS=true:=by rfl)(hg:Gl X x:=by rfl)(hn:x≠"__name__":=by decide)(hdb:(x == ("__debug__":Str))=false:=by decide):PE X (.Call (.Name x p) (e::es) [] pos) (cB r t):=by have hp':=hp;rw[RZ,T6]at hp';exact Mw hc hv hm ha hg hn hdb (dO hp'.1) (fU hp'.2)
theorem ksm{name:Str}{apos cpos:Px}{id:String}{r:V->List V->Hp->VK->Prop}(slot:Slot "str" name id)(hty:Rp (.builtin id)=pure (.type "method_descriptor"))(hm:qR X id r)(ho:PE X o to)(ha:PA X (e::es) t)(hp:(e::es).all eS=true:=by rfl)(hl:(e::es).length<20:=by decide)
  (hbase:Ot o name X.env (Om o X.env)=Om o X.env:=by rfl) (hline:(apos.endLine == cpos.line)=true:=by rfl):PE X (.Call (.Attribute o name apos) (e::es) [] cpos) (Nm r to t):=by
 have hp':=hp;rw[RZ,T6]at hp';refine Ms slot hty hm ho ha hbase ?_ hline (dO hp'.1) (fU hp'.2);rw[Cm hp];show(true&&true&&decide ((e::es).length+0+0<30))=true;rw[NA (by lia)];rfl
end
end L2
namespace L2
open PySem
theorem cb{t u:TS}{D:dq}{σ:St}{H:Hp}(P:St->Hp->Prop)(h:∀K:St->Hp->Prop,(∀σ' H',P σ' H'->K σ' H')->t {D with nx:=K} σ H)(h2:∀σ' H',P σ' H'->u D σ' H'):bp t u D σ H:=h (u D) h2
theorem bI{te:TE}{i:Nat}{u:TS}{D:dq}{σ:St}{H:Hp}(P:V->Hp->Prop)(h:∀Q:VK,(∀v H',P v H'->Q v H')->te σ H Q)(h2:∀v H',P v H'->u D (σ.set i (some v)) H'):bp (tAsg te (gName i)) u D σ H:=h _ h2
theorem dP{c:TT}{t u:TS}{D:dq}{σ:St}{H:Hp}(P:Bool->Hp->Prop)(hc:∀Q:Bool->Hp->Prop,(∀b H',P b H'->Q b H')->c σ H Q)(h1:∀H',P true H'->t {D with nx:=u D} σ H')(h2:∀H',P false H'->u D σ H'):bp (lU c t qV) u D σ H:=by
 refine hc _ λb H' p=>?_;cases b with
 |true=>exact iR (h1 H' p)
 |false=>exact iB (h2 H' p)
noncomputable def jc:List N5->Option (List V)
 | []=>some []
 | .Constant (.int i) _ _::r=>(jc r).map (V.int i:: ·)
 | .Constant (.str x) _ _::r=>(jc r).map (V.str x:: ·)
 | .Constant (.bool b) _ _::r=>(jc r).map (V.bl b:: ·)
 | .Constant .none _ _::r=>(jc r).map (V.non:: ·)
 |_=>none
def cCs(vs:List V):TA:=λ_ H Q=>Q vs H
theorem dc{X:Cx}:∀{es:List N5}{vs:List V},jc es=some vs->PA X es (cCs vs):=by
 intro es
 induction es with
 |nil=>intro vs h;cases h;exact pa_nil
 |cons e r ih=>
  intro vs h;unfold jc at h;split at h
  .rename_i e1;cases e1
  .rename_i e1;cases e1;obtain⟨ws,h1,h2⟩:=Uv.mp h;subst h2;exact az ag (ih h1)
  .rename_i e1;cases e1;obtain⟨ws,h1,h2⟩:=Uv.mp h;subst h2;exact az bz (ih h1)
  .rename_i e1;cases e1;obtain⟨ws,h1,h2⟩:=Uv.mp h;subst h2;exact az gq (ih h1)
  .rename_i e1;cases e1;obtain⟨ws,h1,h2⟩:=Uv.mp h;subst h2;exact az dw (ih h1)
  .cases h
theorem mW{g:TG}{tt:TT}{te:TE}{src:List (Option Nat)}{σ:St}{Q:VK}{J:It}{H1:Hp}(n:Nat)(N:Nat->List V->St->Hp->Prop)(hn:n<=sizeLine)(hlen:∀i ys σ H,N i ys σ H->ys.length<=i)
  (hgo:∀i ys σ H,N i ys σ H->i<n->J.go i H) (hstop:∀ys σ H,N n ys σ H->J.stop n H) (h0:N 0 [] (fO src σ) H1)
  (hturn:∀i ys σ' H' x H2,i<n->N i ys σ' H'->J.yld i H' x H2->∀(Kt:V->St->Hp->Prop)(Kf:St->Hp->Prop),(∀v σ3 H5,N (i+1) (ys++[v]) σ3 H5->Kt v σ3 H5)->(∀σ3 H4,N (i+1) ys σ3 H4->Kf σ3 H4)->
   g x σ' H2 λσ3 H3=>tt σ3 H3 λb H4=>if b=true then te σ3 H4 λv H5=>Kt v σ3 H5 else Kf σ3 H4)
  (hQ:∀ys σ' H' d,N n ys σ' H'->H' d=none->Q (.ref d) (upd H' d (.lst ys))):eG g tt te src σ Q J H1:=by
 refine⟨λi m ys σ' H'=>m=n - i/\i<=n/\N i ys σ' H',⟨n,by simp,Tl _,h0⟩,?_⟩;rintro i m ys σ' H' ⟨rfl,hi,hN⟩
 by_cases hlt:i<n
 .refine .inr ⟨hgo i ys σ' H' hN hlt,?_,λx H2 y=>?_⟩
  .have:=hlen i ys σ' H' hN;lia
  .exact hturn i ys σ' H' x H2 hlt hN y _ _ (λv σ3 H5 h=>⟨n - (i+1),by lia,rfl,hlt,h⟩) (λσ3 H4 h=>⟨n - (i+1),by lia,rfl,hlt,h⟩)
 .have e:i=n:=by lia
  subst e;exact .inl ⟨hstop ys σ' H' hN,λd hd=>hQ ys σ' H' d hN hd⟩
theorem BF{ta:TA}{g:TG}{tb:TS}{D:dq}{σ:St}{H:Hp}(n:Int)(hta:∀Q:List V->Hp->Prop,Q [.int n] H->ta σ H Q)(h0: -(2 ^ 62)<=n)(h1:n<2 ^ 62)(Pv:Nat->St->Hp->Prop)(hp0:Pv 0 σ H)
  (hs:∀i σ H,i<n.toNat->Pv i σ H->g (.int (0+i)) σ H λσ2 H2=>tb {D with nx:=Pv (i+1),ct:=Pv (i+1),bk:=D.nx} σ2 H2) (hd:∀σ H,Pv n.toNat σ H->D.nx σ H):tFor (mP ta) g tb D σ H:=
 hta _ ⟨n,rfl,h0,h1,oG Pv hp0 hs hd⟩
theorem hZ{K:Frag}{tl:TE}{g:TG}{tb:TS}{D:dq}{σ:St}{H:Hp}(P:V->Hp->Prop)(htl:∀Q:VK,(∀v H',P v H'->Q v H')->tl σ H Q)
  (h:∀v H',P v H'->∃d xs,v=.ref d/\aY K H' d xs/\∃Pv:Nat->St->Hp->Prop,Pv 0 σ H'/\(∀i σ H,i<=xs.length->Pv i σ H->aY K H d xs)/\
   (∀(i:Nat) x σ H,xs[i]? =some x->Pv i σ H->g x σ H λσ2 H2=>tb {D with nx:=Pv (i+1),ct:=Pv (i+1),bk:=D.nx} σ2 H2)/\(∀σ H,Pv xs.length σ H->D.nx σ H)):tFor (oE K tl) g tb D σ H:=
 htl _ λv H' p=>by obtain⟨d,xs,rfl,hq,Pv,a,b,c,e⟩:=h v H' p;exact⟨d,rfl,⟨xs,hq⟩,BG Pv a b c e⟩
theorem tK{c:TT}{t:TS}{D:dq}{σ:St}{H:Hp}(P:Bool->Hp->Prop)(hc:∀Q:Bool->Hp->Prop,(∀b H',P b H'->Q b H')->c σ H Q)(h1:∀H',P true H'->t D σ H')(h2:∀H',P false H'->D.nx σ H'):lU c t qV D σ H:=by
 refine hc _ λb H' p=>?_;cases b with
 |true=>exact iR (h1 H' p)
 |false=>exact iB (h2 H' p)
end L2
namespace L2
open PySem PySem.Spec PyProof.Rows
def uniq(ns:List Int):List Int:=firstMet (λi=>ns.getD i 0) ns.length
theorem uc(ns:List Int):(List.range ns.length).map (λi=>ns.getD i 0)=ns:=by
 apply So;intro i;rw[RE]
 by_cases h:i<ns.length
 .rw[Sb h,RC h];show some (ns.getD i 0)=_;rw[RH,RC h];rfl
 .rw[R5 (by rw[Sa];lia),R5 (by lia)];rfl
theorem iU(val:Nat->Int):∀i,(firstMet val i).length=i<->((List.range i).map val).Nodup
 |0=>by simp[firstMet_zero]
 |i+1=>by
  have ih:=iU val i;have hle:=firstMet_length_le val i;have ha:=firstMet_any val i (val i);rw[firstMet_succ,Sq,RQ,Sv];unfold step_dedup
  by_cases h:(firstMet val i).any (· == val i)=true
  .rw[ND h]
   constructor
   .intro e;lia
   .intro e;rw[ha,R6]at h;obtain⟨x,hx,e2⟩:=h;have:x=val i:=beq_iff_eq.mp e2;exact NG this (e.2.2 x hx (val i) (by simp))
  .rw[NC h,RI,SR]
   constructor
   .intro e;refine⟨ih.mp (by lia),by simp,λx hx y hy=>?_⟩;have hy':y=val i:=by simpa using hy
    subst hy';intro e3;apply h;rw[ha,R6];exact⟨x,hx,beq_iff_eq.mpr e3⟩
   .intro e;rw[ih.mpr e.1]
theorem Ao(ns:List Int):(uniq ns).length=ns.length<->ns.Nodup:=by unfold uniq;rw[iU,uc]
section
variable{X:Cx}
def IQ(K:Frag)(xs:List V)(H:Hp)(Q:VK):Prop:=match xs with
 | [.ref d]=>∃ns:List Int,aY K H d (ns.map V.int)/\ns.length+1<scanBound/\∀q,H q=none->Q (.ref q) (upd H q (.set (λk=>(uniq ns).any (· == k)) (uniq ns).length))
 |_=>False
theorem xO(hh:X.A.handled=none):bn X (.type "set") (IQ X.K):=by
 intro gV s σ H xs us Q I r h;unfold IQ at h;split at h
 .rename_i d;obtain⟨ns,hq,hb,q⟩:=h;obtain⟨u,rfl,rx⟩:=dL r;cases rx;obtain⟨its,r',pl,hz⟩:=I.list hq;have hlen:=r'.length;rw[Rz]at hlen;have hi:QS its.toArray.toList ns:=mO r';have hs:its.toArray.size=ns.length:=by rw[RD,<-hlen]
  refine call_set_list hh pl.isList hi (by rw[hs];exact hb) λh' tk hS kp=>?_;rw[hs]at hS;have k2:∀b u,s.heap.get? b=some u->h'.get? b=some u:=λb u e=>kp b u (NQ e) e;exact⟨.ref s.heap.objs.size,_,I.laid (t':=tk) k2 (Tj _) (show bH X.prog X.w _ h' _ (.set _ _)from hS),rfl,q _ (I.hok.fresh (Tj _))⟩
 .exact h.elim
def Hd(xs:List V)(H:Hp)(Q:VK):Prop:=match xs with
 | [.ref d]=>∃S n,H d=some (.set S n)/\Q (.int n) H
 |_=>False
theorem vb:bn X (.builtin "len") Hd:=by
 intro gV s σ H xs us Q I r h;unfold Hd at h;split at h
 .rename_i d;obtain⟨S,n,hd,q⟩:=h;obtain⟨u,rfl,rx⟩:=dL r;cases rx;obtain⟨o,es,ep,t,h1,h2,h3,_,_,h6,h7,h8⟩:=(show bH X.prog X.w H s.heap d (.set S n)from I.hok d _ hd);subst h8;have hb:es.size<4096:=h6;exact PySem.call_len_set h1 h2 h3 h7 (by lia) ⟨.int es.size,H,I.tok _,⟨_,rfl⟩,q⟩
 .exact h.elim
def AG(K:Frag)(xs:List V)(H:Hp)(Q:VK):Prop:=match xs with
 | [.ref d]=>∃ns:List Int,aY K H d (ns.map V.int)/\ns.length<64/\∀(ns':List Int) q,ns'.Perm ns->ns'.Pairwise (·<=·)->H q=none->Q (.ref q) (upd H q (.lst (ns'.map V.int)))
 |_=>False
theorem uX:bn X (.builtin "sorted") (AG X.K):=by
 intro gV s σ H xs us Q I r h;unfold AG at h;split at h
 .rename_i d;obtain⟨ns,hq,hb,q⟩:=h;obtain⟨u,rfl,rx⟩:=dL r;cases rx;obtain⟨its,r',pl,hz⟩:=I.list hq;have hlen:=r'.length;rw[Rz]at hlen;refine sorted_ints pl.isList (mO r') (by lia) λout ns' a1 a2 a3=>?_;obtain⟨e,he⟩:=sortedAll_at s.heap its out;have hl:=a2.length_eq;have hz':(ns'.map V.int).length<=sizeLine:=by rw[Rz,hl,NR];lia
  exact⟨.ref (s.heap.objs.size+1),_,I.laid (t':=s.toks) (λ_ _=>sortedAll_old) (Tp _) (show bH X.prog X.w _ _ _ (.lst (ns'.map V.int))from⟨hz',out.toList,e,kn a1,by simpa[seqObj]using he⟩),rfl,q ns' _ a2 a3 (I.hok.fresh (Tp _))⟩
 .exact h.elim
def v2(K:Frag)(xs:List V)(H:Hp)(Q:VK):Prop:=match xs with
 | [.ref d]=>∃ys,(aY K H d ys\/cr K H d ys)/\∀l,H l=none->Q (.ref l) (upd H l (.lst ys))
 |_=>False
theorem u7:bn X (.type "list") (v2 X.K):=(qA (X:=X)).imp λxs H Q h=>by
 unfold v2 at h;split at h
 .obtain⟨ys,h1,q⟩:=h;exact⟨_,ys,rfl,h1,q⟩
 .exact h.elim
theorem M9(K:Frag){j:Nat}(hr:cI j X.A)(hK:X.K=K:=by rfl):bn X (.type "set") (IQ K):=by subst hK;exact xO hr.hd
theorem LY(K:Frag)(hK:X.K=K:=by rfl):bn X (.builtin "sorted") (AG K):=by subst hK;exact uX
theorem v6(K:Frag)(hK:X.K=K:=by rfl):bn X (.type "list") (v2 K):=by subst hK;exact u7
theorem DH{T:BT}{a:Addr}{xs:List V}{H:Hp}{Q:VK}(h:H a=some (.lst xs))(q:Q (.bl (dF .list T)) H):Bp T (.ref a) H Q:=by simp only[Bp,h];exact q
theorem DG{T:BT}{a:Addr}{xs:List V}{H:Hp}{Q:VK}(h:H a=some (.tup xs))(q:Q (.bl (dF .tuple T)) H):Bp T (.ref a) H Q:=by simp only[Bp,h];exact q
end
theorem BQ{x:V}(h:flatV x=true):eqV x x=true:=by cases x<;>simp_all[flatV,eqV]
theorem oH(zs:List Int):(zs.map V.int).all flatV=true:=R1.mpr λx hx=>by obtain⟨z,_,rfl⟩:=RA.mp hx;rfl
def Fl(K:Frag)(H:Hp)(p:Addr)(f:Str)(v:V):Prop:= ∃C dx fs,H p=some (.ins C dx fs)/\tu K C/\cm K C f/\fs.lookup f=some v
def Nj(K:Frag)(x:V)(f:Str)(H:Hp)(Q:VK):Prop:=match x with
 | .ref a=>∃v,Fl K H a f v/\Q v H
 |_=>False
def Kb(K:Frag)(to:TE)(f:Str):TE:=λσ H Q=>to σ H λx H1=>Nj K x f H1 Q
def tj(C:Addr)(m:Str)(H:Hp)(a:Addr):Prop:= ∃dx fs,H a=some (.ins C dx fs)/\fs.lookup m=none
structure qO(P:NP)(w:NT)(K:Frag)(mg:NH)(Ny:NZ)(C:Addr)(m:Str)(ps:List Str)(k:Nat)(sp:Sp):Prop where
 ex:∃f fd,bg P w K mg Ny cV k f fd ps sp/\MI K C m f/\gG K fd ps []
 cl:tu K C
structure oX(P:NP)(w:NT)(K:Frag)(mg:NH)(Ny:NZ)(name:Str)(C:Addr)(ps:List Str)(k:Nat)(sp:Sp):Prop where
 ex:∃f fd,Mk K C f/\bg P w K mg Ny cV k f fd ps sp/\mg name=some (.ref C)/\gG K fd ps []
def LU(C:Addr)(m:Str)(x:V)(H:Hp)(R:Addr->Prop):Prop:=match x with
 | .ref a=>tj C m H a/\R a
 |_=>False
def Cc(C:Addr)(m:Str)(sp:Sp)(to:TE)(t:TA):TE:=λσ H Q=>to σ H λx H1=>LU C m x H1 λa=>t σ H1 λvs H2=>sp (.ref a::vs) H2 Q E0
def ww(C:Addr)(sp:Sp)(t:TA):TE:=λσ H Q=>t σ H λvs H1=>∀x dx,H1 x=none->H1 dx=none->dx≠x->sp (.ref x::vs) (upd (upd H1 dx (.own x)) x (.ins C dx [])) (λv H2=>v=.non/\Q (.ref x) H2) E0
section
variable{X:Cx}{e o value:N5}{te to tv:TE}{p pos pos' apos:Px}{es:List N5}{t:TA}{f m:Str}
theorem ck(K:Frag)(ho:PE X o to)(hb:Ot o f X.env (Om o X.env)=Om o X.env:=by rfl)(hK:X.K=K:=by rfl):PE X (.Attribute o f pos) (Kb K to f):=by
 subst hK;intro gV s σ H Q I h;refine Ec hb (bU (ho gV s σ H _ I h) λu s1 ⟨x,H1,I1,rx,q1⟩=>?_);cases x with
 |ref a=>
  obtain⟨v,⟨C,dx,fs,ea,c,n,l⟩,q⟩:=q1;obtain rfl:u=NY a:=rx;exact uK I1 ea c n l λu' s2 I2 ru=>⟨v,H1,I2,ru,q⟩
 |_=>exact q1.elim
theorem jl(K:Frag)(ho:PE X o to)(hv:PE X value tv)(hs:Qq value (some (.Attribute o f pos')) pos.line X.env=pure false:=by rfl)(hK:X.K=K:=by rfl):PS X (.Assign [.Attribute o f pos'] value pos) (wV K to tv f):=by subst hK;exact Ja ho hv hs
theorem sx{C:Addr}{ps:List Str}{k j:Nat}{sp:Sp}{pl:Sem Bool}(M:qO X.prog X.w X.K X.mg X.Ny C m ps k sp)(hr:cI j X.A)(ho:PE X o to)(ha:PA X (e::es) t)(hkj:k<=j:=by decide)(hp:(e::es).all eS=true:=by rfl)
  (ht:Om (.Call (.Attribute o m apos) (e::es) [] pos) X.env=(do
   let ov<-Om o X.env
   standAt apos.atName
   let (f,first)<-Qc [ov] (getMethod ov m pl)
   callWith pos f first (Oh pos (NU (e::es) X.env)) (P1 pos (Pc [] X.env))):=by rfl):PE X (.Call (.Attribute o m apos) (e::es) [] pos) (Cc C m sp to t):=by
 obtain⟨f,fd,F,hm,hb⟩:=M.ex;have hp':=hp;rw[RZ,T6]at hp';intro gV s σ H Q I h;refine PySem.W.methodCall_KW (pl:=pl) (bU (ho gV s σ H _ I h) λu s1 ⟨x,H1,I1,rx,q⟩=>?_) ht;cases x with
 |ref a=>
  obtain⟨⟨dx,fs,ea,l⟩,q⟩:=q;obtain rfl:u=NY a:=rx;refine uJ I1 ea M.cl hm l ?_;refine UO (first:=[.ref a]) (h₀:=X.Ny) I.ok.mod.kin hm.kp (bU (ha pos gV s1 σ H1 _ I1 q) λus s2 ⟨vs,H2,I2,r,q2⟩=>⟨I2.kIn,?_⟩) (dO hp'.1) (fU hp'.2);refine AM (us:=.ref a::us) (vs:=.ref a::vs) (dvs:=[]) (ds:=[]) F (hr.mono hkj) hb .nil A2 I2 (.cons rfl r) ?_;rw[RP];exact q2
 |_=>exact q.elim
theorem Hf{name:Str}{C:Addr}{ps:List Str}{k j:Nat}{sp:Sp}(M:oX X.prog X.w X.K X.mg X.Ny name C ps k sp)(hr:cI j X.A)(ha:PA X (e::es) t)(hkj:k+1<=j:=by decide)(hp:(e::es).all eS=true:=by rfl)(hg:Gl X name:=by rfl)(hdb:(name == ("__debug__":Str))=false:=by decide):
  PE X (.Call (.Name name p) (e::es) [] pos) (ww C sp t):=by
 obtain⟨f,fd,MK,F,hm,hb⟩:=M.ex;have hp':=hp;rw[RZ,T6]at hp';refine(Df MK F (hr.mono hkj) hg hm hb .nil A2 ha hdb (dO hp'.1) (fU hp'.2):PE X _ (At C sp [] E0 t)).imp λσ H Q h=>?_;unfold At;simp only[RP];exact h
end
def SameBut(k:Addr)(H H':Hp):Prop:= ∀b o,H b=some o->b≠k->H' b=some o
theorem SameBut.refl{k:Addr}(H:Hp):SameBut k H H:=λ_ _ h _=>h
theorem ak.but{k:Addr}{H H':Hp}(h:ak H H'):SameBut k H H':=λb o e _=>h b o e
theorem SameBut.trans{k:Addr}{H H1 H2:Hp}(a:SameBut k H H1)(b:SameBut k H1 H2):SameBut k H H2:=λc o e n=>b c o (a c o e n) n
theorem SameBut.self{k:Addr}{H H':Hp}{o:HO}(a:SameBut k H H'):SameBut k H (upd H' k o):=λc ob e n=>by rw[av n];exact a c ob e n
theorem SameBut.new{k d:Addr}{H H':Hp}{o:HO}(a:SameBut k H H')(hd:H d=none):SameBut k H (upd H' d o):=λc ob e n=>by rw[av (aC e hd)];exact a c ob e n
theorem ak.put{d:Addr}{H H':Hp}{o:HO}(a:ak H H')(hd:H d=none):ak H (L2.upd H' d o):=λc ob e=>by rw[av (aC e hd)];exact a c ob e
theorem hJ{H:Hp}{a b:Addr}{o o':HO}(ha:H a=some o)(hb:H b=some o')(h:o≠o'):a≠b:=λe=>by subst e;rw[ha]at hb;exact h (Option.some.inj hb)
theorem C2{to tv:TE}{f:Str}{K:Frag}{u:TS}{D:dq}{σ:St}{H:Hp}(P:V->Hp->Prop)(h:∀Q:VK,(∀v H',P v H'->Q v H')->tv σ H Q)(p C dx:Addr)(hto:∀H'(Q:VK),Q (.ref p) H'->to σ H' Q)(hc:tu K C)(hn:cm K C f)
  (h2:∀v H',P v H'->∃fs,H' p=some (.ins C dx fs)/\fs.length<1000/\u D σ (upd H' p (.ins C dx (putF f v fs)))):bp (wV K to tv f) u D σ H:=
 h _ λv H' q=>by obtain⟨fs,e,l,r⟩:=h2 v H' q;exact hto _ _ ⟨p,C,dx,fs,rfl,e,hc,hn,l,r⟩
theorem vz{to tv:TE}{f:Str}{K:Frag}{D:dq}{σ:St}{H:Hp}(P:V->Hp->Prop)(h:∀Q:VK,(∀v H',P v H'->Q v H')->tv σ H Q)(p C dx:Addr)(hto:∀H'(Q:VK),Q (.ref p) H'->to σ H' Q)(hc:tu K C)(hn:cm K C f)
  (h2:∀v H',P v H'->∃fs,H' p=some (.ins C dx fs)/\fs.length<1000/\D.nx σ (upd H' p (.ins C dx (putF f v fs)))):wV K to tv f D σ H:=
 h _ λv H' q=>by obtain⟨fs,e,l,r⟩:=h2 v H' q;exact hto _ _ ⟨p,C,dx,fs,rfl,e,hc,hn,l,r⟩
def Ev(t:TE)(σ:St)(H:Hp)(v:V):Prop:= ∀Q:VK,Q v H->t σ H Q
def Tv(t:TT)(σ:St)(H:Hp)(b:Bool):Prop:= ∀Q:Bool->Hp->Prop,Q b H->t σ H Q
def Av(t:TA)(σ:St)(H:Hp)(vs:List V):Prop:= ∀Q:List V->Hp->Prop,Q vs H->t σ H Q
section
variable{K:Frag}{σ:St}{H:Hp}{ta tb tc te to:TE}{t u:TT}{x y:V}{i j k:Int}{a b:Bool}{z z':Str}
theorem ar:Ev (tC x) σ H x:=λQ q=>q
theorem aa{n:Nat}(h:σ[n]? =some (some x)):Ev (fM n) σ H x:=λQ q=>by unfold fM;rw[h];exact q
theorem bK(ha:Ev ta σ H (.int i))(hb:Ev tb σ H (.int j)):Ev (qF .Add ta tb) σ H (.int (i+j)):=λQ q=>ha _ (hb _ q)
theorem eT(ha:Ev ta σ H (.int i))(hb:Ev tb σ H (.int j)):Ev (qF .Sub ta tb) σ H (.int (i - j)):=λQ q=>ha _ (hb _ q)
theorem eU(ha:Ev ta σ H (.int i))(hb:Ev tb σ H (.int j))(h:Cs i j):Ev (qF .Mult ta tb) σ H (.int (i*j)):=λQ q=>ha _ (hb _ ⟨h,q⟩)
theorem bw(ha:Ev ta σ H (.int i))(hb:Ev tb σ H (.int j))(h:Kw i j):Ev (qF .FloorDiv ta tb) σ H (.int (i / j)):=λQ q=>ha _ (hb _ ⟨h,q⟩)
theorem aR(ha:Ev ta σ H (.int i))(hb:Ev tb σ H (.int j))(h:0<j):Ev (qF .Mod ta tb) σ H (.int (i % j)):=λQ q=>ha _ (hb _ ⟨h,q⟩)
theorem jw(ha:Ev ta σ H (.int i)):Ev (Mz ta) σ H (.int (-i)):=λQ q=>ha _ q
theorem wl(ha:Ev ta σ H (.str z))(hb:Ev tb σ H (.str z'))(h:z.length+z'.length<=sizeLine):Ev (qF .Add ta tb) σ H (.str (z++z')):=λQ q=>ha _ (hb _ ⟨h,q⟩)
theorem ba{p:Addr}{f:Str}(ho:Ev to σ H (.ref p))(h:Fl K H p f x):Ev (Kb K to f) σ H x:=λQ q=>ho _ ⟨x,h,q⟩
theorem aQ{p:Addr}{xs:List V}(ho:Ev to σ H (.ref p))(hi:Ev ta σ H (.int i))(h:aY K H p xs\/cr K H p xs)(e:km xs i=some x):Ev (Cd K to ta) σ H x:=λQ q=>ho _ (hi _ ⟨xs,x,h,e,q⟩)
theorem cT{c:Nat}(ho:Ev to σ H (.str z))(hi:Ev ta σ H (.int i))(h:z.length<=sizeLine)(e:km z.cps.toList i=some c):Ev (Cd K to ta) σ H (.str ⟨#[c]⟩):=λQ q=>ho _ (hi _ ⟨h,c,e,q⟩)
theorem cS{p:Addr}{xs:List V}(ho:Ev to σ H (.ref p))(h:aY K H p xs\/cr K H p xs):Ev (cB (Bg K) (bx to df)) σ H (.int xs.length):=λQ q=>ho _ ⟨xs,h,q⟩
theorem qw(ho:Ev to σ H (.str z))(h:z.length<=sizeLine):Ev (cB (Bg K) (bx to df)) σ H (.int z.length):=λQ q=>ho _ ⟨h,q⟩
theorem JU{p:Addr}{xs:List V}{T:BT}(ho:Ev to σ H (.ref p))(h:H p=some (.lst xs)):Ev (J9 T to) σ H (.bl (dF .list T)):=λQ q=>ho _ (DH h q)
theorem BL{T:BT}(ho:Ev to σ H (.int i)):Ev (J9 T to) σ H (.bl (dF .int T)):=λQ q=>ho _ q
theorem JT{T:BT}(ho:Ev to σ H (.str z)):Ev (J9 T to) σ H (.bl (dF .str T)):=λQ q=>ho _ q
theorem BJ(ha:Ev ta σ H (.bl a)):Ev (Hx ta) σ H (.bl (!a)):=λQ q=>ha _ q
theorem cJ(ha:Ev ta σ H (.bl a))(hb:a=true->Ev tb σ H (.bl b)):Ev (wx ta tb) σ H (.bl (a&&b)):=λQ q=>ha _ (by
 cases a with
 |true=>exact hb rfl Q q
 |false=>exact q)
theorem Mm(ha:Ev ta σ H (.bl a))(hb:a=false->Ev tb σ H (.bl b)):Ev (J7 ta tb) σ H (.bl (a||b)):=λQ q=>ha _ (by
 cases a with
 |true=>exact q
 |false=>exact hb rfl Q q)
theorem sI(ht:Tv t σ H b)(h1:b=true->Ev ta σ H x)(h2:b=false->Ev tb σ H y):Ev (MN t ta tb) σ H (if b=true then x else y):=λQ q=>ht _ (by
 cases b with
 |true=>exact iR (h1 rfl _ q)
 |false=>exact iB (h2 rfl _ q))
theorem gC(ha:Ev ta σ H (.int i))(hb:Ev tb σ H (.int j)):Ev (fG K .Eq ta tb) σ H (.bl (decide (i=j))):=λQ q=>ha _ (hb _ q)
theorem mQ(ha:Ev ta σ H (.int i))(hb:Ev tb σ H (.int j)):Ev (fG K .NotEq ta tb) σ H (.bl (!decide (i=j))):=λQ q=>ha _ (hb _ q)
theorem sH(ha:Ev ta σ H (.int i))(hb:Ev tb σ H (.int j)):Ev (fG K .Lt ta tb) σ H (.bl (decide (i<j))):=λQ q=>ha _ (hb _ q)
theorem Hs(ha:Ev ta σ H (.int i))(hb:Ev tb σ H (.int j)):Ev (fG K .GtE ta tb) σ H (.bl (decide (j<=i))):=λQ q=>ha _ (hb _ q)
theorem eC(ha:Ev ta σ H (.str z))(hb:Ev tb σ H (.str z')):Ev (fG K .Eq ta tb) σ H (.bl (decide (z=z'))):=λQ q=>ha _ (hb _ q)
theorem kW(ha:Ev ta σ H (.str z))(hb:Ev tb σ H (.str z')):Ev (fG K .NotEq ta tb) σ H (.bl (!decide (z=z'))):=λQ q=>ha _ (hb _ q)
theorem sD(i:Int)(ns:List Int):DI (.int i) (ns.map V.int)=decide (i∈ns):=by
 unfold DI;rw[SD]
 by_cases h:i∈ns
 .rw[NA h];exact R6.mpr ⟨i,h,by simp[eqV]⟩
 .rw[NB h];apply Sd.mpr;intro y hy;have:y≠i:=λe=>h (e▸hy);simp[eqV,this]
theorem BN{p:Addr}{ns:List Int}(ha:Ev ta σ H (.int i))(hb:Ev tb σ H (.ref p))(h:aY K H p (ns.map V.int)\/cr K H p (ns.map V.int)):Ev (fG K .In ta tb) σ H (.bl (decide (i∈ns))):=λQ q=>ha _ (hb _ (by
 rw[pP];refine⟨p,_,rfl,h,rfl,oH ns,?_⟩;rw[sD];exact q))
theorem uN{p:Addr}{ns:List Int}(ha:Ev ta σ H (.int i))(hb:Ev tb σ H (.ref p))(h:aY K H p (ns.map V.int)\/cr K H p (ns.map V.int)):Ev (fG K .NotIn ta tb) σ H (.bl (!decide (i∈ns))):=λQ q=>ha _ (hb _ (by
 rw[ly];refine⟨p,_,rfl,h,rfl,oH ns,?_⟩;rw[sD];exact q))
theorem io(ha:Ev ta σ H (.int i))(hb:Ev tb σ H .non):Ev (fG K .IsNot ta tb) σ H (.bl true):=λQ q=>ha _ (hb _ q)
theorem gt(ha:Ev ta σ H .non)(hb:Ev tb σ H .non):Ev (fG K .IsNot ta tb) σ H (.bl false):=λQ q=>ha _ (hb _ q)
theorem DV(ha:Ev ta σ H (.int i))(hb:Ev tb σ H .non):Ev (fG K .Is ta tb) σ H (.bl false):=λQ q=>ha _ (hb _ q)
theorem DU(ha:Ev ta σ H .non)(hb:Ev tb σ H .non):Ev (fG K .Is ta tb) σ H (.bl true):=λQ q=>ha _ (hb _ q)
theorem wj(ha:Ev ta σ H (.int i))(hb:Ev tb σ H (.int j))(hc:i<=j->Ev tc σ H (.int k)):Ev (qE K .LtE .LtE ta tb tc) σ H (.bl (decide (i<=j/\j<=k))):=λQ q=>ha _ (hb _ (by
 rw[n6]
 by_cases h:i<=j
 .rw[NA h];refine hc h _ ?_;have e:decide (i<=j/\j<=k)=decide (j<=k):=by simp[h]
  rw[e]at q;exact q
 .rw[NB h];have e:decide (i<=j/\j<=k)=false:=by simp[h]
  rw[e]at q;exact q))
theorem aK{sp:Sp}{t:TA}{vs:List V}(ht:Av t σ H vs)(h:∀Q:VK,Q x H->sp vs H Q E0):Ev (fH sp t) σ H x:=λQ q=>ht _ (h Q q)
theorem aw:Av df σ H []:=λQ q=>q
theorem ae{t:TA}{vs:List V}(ha:Ev ta σ H x)(ht:Av t σ H vs):Av (bx ta t) σ H (x::vs):=λQ q=>ha _ (ht _ q)
theorem jo{vs:List V}:Av (cCs vs) σ H vs:=λQ q=>q
theorem bb(h:Ev te σ H (.bl b)):Tv (ia te) σ H b:=λQ q=>h _ q
theorem ci(h:Tv t σ H b):Tv (CZ t) σ H (!b):=λQ q=>h _ q
theorem ic(ha:Tv t σ H a)(hb:a=true->Tv u σ H b):Tv (IG t u) σ H (a&&b):=λQ q=>ha _ (by
 cases a with
 |true=>exact iR (hb rfl _ q)
 |false=>exact iB q)
theorem gy(ha:Tv t σ H a)(hb:a=false->Tv u σ H b):Tv (Ls t u) σ H (a||b):=λQ q=>ha _ (by
 cases a with
 |true=>exact iR q
 |false=>exact iB (hb rfl _ q))
theorem lH(ha:Ev ta σ H (.int i))(hb:Ev tb σ H (.int j))(hc:i<=j->Ev tc σ H (.int k)):Tv (qD K .LtE .Lt ta tb tc) σ H (decide (i<=j/\j<k)):=λQ q=>ha _ (hb _ (by
 rw[n6]
 by_cases h:i<=j
 .rw[NA h];refine hc h _ ?_;have e:decide (i<=j/\j<k)=decide (j<k):=by simp[h]
  rw[e]at q;exact q
 .rw[NB h];have e:decide (i<=j/\j<k)=false:=by simp[h]
  rw[e]at q;exact q))
end
section
variable{te:TE}{c:TT}{t u:TS}{D:dq}{σ:St}{H:Hp}{v:V}{b:Bool}
theorem aU{i:Nat}(h:Ev te σ H v)(h2:u D (σ.set i (some v)) H):bp (tAsg te (gName i)) u D σ H:=h _ h2
theorem ii{i:Nat}(h:Ev te σ H v)(h2:D.nx (σ.set i (some v)) H):tAsg te (gName i) D σ H:=h _ h2
theorem aO(h:Ev te σ H v)(h2:D.rt v H):cM te D σ H:=h _ h2
theorem bh(hc:Tv c σ H b)(h1:b=true->t {D with nx:=u D} σ H)(h2:b=false->u D σ H):bp (lU c t qV) u D σ H:=hc _ (by
 cases b with
 |true=>exact iR (h1 rfl)
 |false=>exact iB (h2 rfl))
theorem jE(hc:Tv c σ H b)(h1:b=true->t D σ H)(h2:b=false->D.nx σ H):lU c t qV D σ H:=hc _ (by
 cases b with
 |true=>exact iR (h1 rfl)
 |false=>exact iB (h2 rfl))
end
section
variable{K:Frag}{σ rest:St}{H:Hp}{tl te:TE}{tt:TT}{src:List (Option Nat)}{Q:VK}
theorem dM:Tv lT σ H true:=λQ q=>q
theorem j7{J:It}{xs:List V}(hz:xs.length<=sizeLine)(hs:fO src σ=none::rest)(p:V->Bool)(f:V->V)(hgo:∀i,i<xs.length->J.go i H)(hstop:J.stop xs.length H)(hyld:∀i v H',i<xs.length->J.yld i H v H'->H'=H/\xs[i]? =some v)
  (ht:∀x∈xs,Tv tt (some x::rest) H (p x)) (he:∀x∈xs,p x=true->Ev te (some x::rest) H (f x)) (q:∀d',H d'=none->Q (.ref d') (upd H d' (.lst ((xs.filter p).map f)))):eG (gName 0) tt te src σ Q J H:=by
 refine⟨λi m ys σ' H'=>m=xs.length - i/\i<=xs.length/\ys=((xs.take i).filter p).map f/\(∃o,σ'=o::rest)/\H'=H,⟨xs.length,by simp,Tl _,by simp,⟨none,hs⟩,rfl⟩,?_⟩;rintro i m ys σ' H' ⟨rfl,hi,rfl,⟨o,rfl⟩,rfl⟩
 by_cases hlt:i<xs.length
 .refine .inr ⟨hgo i hlt,?_,λx H2 y=>?_⟩
  .rw[Rz];have h1:=Sf p (xs.take i);rw[RV]at h1;lia
  .obtain⟨rfl,hx⟩:=hyld i x H2 hlt y;have tk:(xs.take (i+1)).filter p=(xs.take i).filter p++(if p x then [x]else []):=take_succ_filter p xs i x hx;have hm:x∈xs:=RT hx;show tt (some x::rest) H2 _;refine ht x hm _ ?_;cases hp:p x with
   |true=>
    refine iR (he x hm hp _ ?_);refine⟨xs.length - (i+1),by lia,rfl,hlt,?_,⟨_,rfl⟩,rfl⟩;rw[tk,hp,ND rfl,RQ];rfl
   |false=>
    refine iB ?_;refine⟨xs.length - (i+1),by lia,rfl,hlt,?_,⟨_,rfl⟩,rfl⟩;rw[tk,hp,NC (by simp),RP]
 .have e:i=xs.length:=by lia
  subst e;refine .inl ⟨hstop,λd hd=>?_⟩;rw[SE];exact q d hd
theorem gF{d:Addr}{xs:List V}(hl:Ev tl σ H (.ref d))(hx:aY K H d xs)(hz:xs.length<=sizeLine)(hs:fO src σ=none::rest)(p:V->Bool)(f:V->V)
  (ht:∀x∈xs,Tv tt (some x::rest) H (p x)) (he:∀x∈xs,p x=true->Ev te (some x::rest) H (f x)) (q:∀d',H d'=none->Q (.ref d') (upd H d' (.lst ((xs.filter p).map f)))):tComp (oE K tl) (gName 0) tt te src σ H Q:=
 hl _ ⟨d,rfl,⟨xs,hx⟩,j7 hz hs p f (λi hi=>⟨xs,xs[i],hx,RC hi⟩) ⟨xs,hx,Tj _⟩ (λi v H' _ y=>⟨y.1,y.2 xs hx⟩) ht he q⟩
theorem j6{ta:TA}{n:Int}(hl:Av ta σ H [.int n])(h0:0<=n)(hz:n.toNat<=sizeLine)(h1:n<2 ^ 62)(hs:fO src σ=none::rest)(p:V->Bool)(f:V->V)
  (ht:∀i:Nat,i<n.toNat->Tv tt (some (.int (0+(i:Int)))::rest) H (p (.int (0+(i:Int))))) (he:∀i:Nat,i<n.toNat->p (.int (0+(i:Int)))=true->Ev te (some (.int (0+(i:Int)))::rest) H (f (.int (0+(i:Int)))))
  (q:∀d',H d'=none->Q (.ref d') (upd H d' (.lst ((((List.range n.toNat).map λ(i:Nat)=>V.int (0+(i:Int))).filter p).map f)))):tComp (mP ta) (gName 0) tt te src σ H Q:=by
 have hin:∀x∈(List.range n.toNat).map λ(i:Nat)=>V.int (0+(i:Int)),∃i:Nat,i<n.toNat/\x=.int (0+(i:Int)):=λx hx=>by obtain⟨i,hi,rfl⟩:=RA.mp hx;exact⟨i,RJ.mp hi,rfl⟩
 have hlen:((List.range n.toNat).map λ(i:Nat)=>V.int (0+(i:Int))).length=n.toNat:=by simp
 refine hl _ ⟨n,rfl,by lia,h1,j7 (xs:=(List.range n.toNat).map λ(i:Nat)=>V.int (0+(i:Int))) (by rw[hlen];exact hz) hs p f (λi hi=>by rw[hlen]at hi;exact hi) (by rw[hlen];exact Tj _) (λi v H' hi y=>⟨y.1,?_⟩) (λx hx=>?_) (λx hx hp=>?_) q⟩
 .rw[hlen]at hi;rw[RE,Sb hi,y.2];rfl
 .obtain⟨i,hi,rfl⟩:=hin x hx;exact ht i hi
 .obtain⟨i,hi,rfl⟩:=hin x hx;exact he i hi hp
end
section
variable{K:Frag}{te to tv:TE}{t:TA}{c:TT}{u:TS}{D:dq}{σ:St}{H:Hp}{v x y:V}
theorem qv{C p:Addr}{m:Str}{sp:Sp}{vs:List V}(ho:Ev to σ H (.ref p))(hi:tj C m H p)(ht:Av t σ H vs)(h:∀Q:VK,Q x H->sp (.ref p::vs) H Q E0):Ev (Cc C m sp to t) σ H x:=λQ q=>ho _ ⟨hi,ht _ (h Q q)⟩
theorem II{l:Addr}{xs:List V}(ho:Ev to σ H (.ref l))(he:Ev te σ H y)(hl:H l=some (.lst xs))(hz:xs.length<sizeLine)(h2:u D σ (upd H l (.lst (xs++[y])))):bp (jD (D4 to te)) u D σ H:=ho _ ⟨⟨xs,hl⟩,he _ ⟨xs,hl,hz,h2⟩⟩
theorem C3{l:Addr}{xs:List V}(ho:Ev to σ H (.ref l))(he:Ev te σ H y)(hl:H l=some (.lst xs))(hz:xs.length<sizeLine)(h2:D.nx σ (upd H l (.lst (xs++[y])))):jD (D4 to te) D σ H:=ho _ ⟨⟨xs,hl⟩,he _ ⟨xs,hl,hz,h2⟩⟩
theorem tL{f:Str}{p C dx:Addr}{fs:List (Str×V)}(h:Ev tv σ H v)(ho:Ev to σ H (.ref p))(hp:H p=some (.ins C dx fs))(hc:tu K C)(hn:cm K C f)(hl:fs.length<1000)(h2:u D σ (upd H p (.ins C dx (putF f v fs)))):bp (wV K to tv f) u D σ H:=h _ (ho _ ⟨p,C,dx,fs,rfl,hp,hc,hn,hl,h2⟩)
theorem gH{i:Nat}(h2:∀q,H q=none->u D (σ.set i (some (.ref q))) (upd H q (.lst []))):bp (tAsg (wL df) (gName i)) u D σ H:=⟨Tl _,λq hq=>h2 q hq⟩
end
section
variable{K:Frag}{te to ta tb ti:TE}{t:TA}{c:TT}{σ:St}{H:Hp}{Q:VK}{R:Bool->Hp->Prop}{v x y:V}{vs:List V}{sp:Sp}
theorem uM(h:Ev te σ H v)(q:Q v H):te σ H Q:=h Q q
theorem eI(h:Av t σ H vs)(q:sp vs H Q E0):fH sp t σ H Q:=h _ q
theorem kX(h:Av t σ H vs)(q:sp vs H (cL λc H1=>R (!c) H1) E0):CZ (ia (fH sp t)) σ H R:=h _ q
theorem Nn{r:List V->Hp->VK->Prop}(h:Ev to σ H v)(q:r [v] H Q):cB r (bx to df) σ H Q:=h _ q
theorem ig(ha:Ev ta σ H x)(hb:Ev tb σ H y)(q:∀p,H p=none->Q (.ref p) (upd H p (.tup [x,y]))):Ar (bx ta (bx tb df)) σ H Q:=ha _ (hb _ ⟨by show 2<=sizeLine;decide,q⟩)
theorem iQ{i:Int}(h:Av t σ H vs)(hz:vs.length<=1000)(hi:∀H',Ev ti σ H' (.int i))(e:km vs i=some v)(q:∀H',ak H H'->Q v H'):Cd K (wL t) ti σ H Q:=h _ ⟨Tn hz (by decide),λp hp=>hi _ _ ⟨vs,v,.inl (aY.of ah),e,q _ ((ak.refl H).upd hp)⟩⟩
end
section
variable{K:Frag}{te to ta tb:TE}{D:dq}{σ:St}{H:Hp}{Q:VK}{x y:V}
theorem lv{l:Addr}(ho:Ev to σ H (.ref l))(hl:∃xs,H l=some (.lst xs))(q:te σ H λy H2=>∃xs,H2 l=some (.lst xs)/\xs.length<sizeLine/\D.nx σ (upd H2 l (.lst (xs++[y])))):jD (D4 to te) D σ H:=ho _ ⟨hl,q⟩
end
def oI:Option Int->V
 |some n=>.int n
 |none=>.non
structure kj(K:Frag)(C:Addr):Prop where
 cl:tu K C
 wide:cm K C "wide"
 high:cm K C "high"
 holes:cm K C "holes"
 firm:cm K C "firm"
def iV(wi hi:Int)(ph pf:Addr):List (Str×V):=putF "firm" (.ref pf) (putF "holes" (.ref ph) (putF "high" (.int hi) (putF "wide" (.int wi) [])))
theorem D9(wi hi:Int)(ph pf:Addr):(iV wi hi ph pf).lookup ("wide":Str)=some (.int wi):=by unfold iV;rw[aB,NC (by decide+kernel),aB,NC (by decide+kernel),aB,NC (by decide+kernel),aB,ND rfl]
theorem Ea(wi hi:Int)(ph pf:Addr):(iV wi hi ph pf).lookup ("high":Str)=some (.int hi):=by unfold iV;rw[aB,NC (by decide+kernel),aB,NC (by decide+kernel),aB,ND rfl]
theorem Ce(wi hi:Int)(ph pf:Addr):(iV wi hi ph pf).lookup ("holes":Str)=some (.ref ph):=by unfold iV;rw[aB,NC (by decide+kernel),aB,ND rfl]
theorem Eb(wi hi:Int)(ph pf:Addr):(iV wi hi ph pf).lookup ("firm":Str)=some (.ref pf):=by unfold iV;rw[aB,ND rfl]
theorem MD(wi hi:Int)(ph pf:Addr){m:Str}(h1:¬m="wide")(h2:¬m="high")(h3:¬m="holes")(h4:¬m="firm"):(iV wi hi ph pf).lookup m=none:=by unfold iV;rw[aB,NC h4,aB,NC h3,aB,NC h2,aB,NC h1];rfl
noncomputable def firmL(wi hi:Int)(hs:List Int):List Bool:=(List.range (wi*hi).toNat).map λ(s:Nat)=> !decide ((s:Int)∈hs)
structure cu(K:Frag)(C:Addr)(H:Hp)(p:Addr)(wi hi:Int)(hs:List Int):Prop where
 ex:∃dx ph pf,H p=some (.ins C dx (iV wi hi ph pf))/\H ph=some (.lst (hs.map V.int))/\H pf=some (.lst ((firmL wi hi hs).map V.bl))
 w1:1<=wi
 w8:wi<=8
 h1:1<=hi
 h8:hi<=8
 good:∀h∈hs,0<=h/\h<wi*hi
 srt:hs.Pairwise (·<=·)
 nd:hs.Nodup
section
variable{K:Frag}{C:Addr}{H H':Hp}{p:Addr}{wi hi:Int}{hs:List Int}
theorem cu.same(B:cu K C H p wi hi hs)(s:ak H H'):cu K C H' p wi hi hs:=by obtain⟨⟨dx,ph,pf,a,b,c⟩,w1,w8,h1,h8,g,sr,nd⟩:=B;exact⟨⟨dx,ph,pf,s _ _ a,s _ _ b,s _ _ c⟩,w1,w8,h1,h8,g,sr,nd⟩
theorem cu.wide(B:cu K C H p wi hi hs)(D:kj K C):Fl K H p "wide" (.int wi):=by obtain⟨dx,ph,pf,a,_,_⟩:=B.ex;exact⟨C,dx,_,a,D.cl,D.wide,D9 _ _ _ _⟩
theorem cu.high(B:cu K C H p wi hi hs)(D:kj K C):Fl K H p "high" (.int hi):=by obtain⟨dx,ph,pf,a,_,_⟩:=B.ex;exact⟨C,dx,_,a,D.cl,D.high,Ea _ _ _ _⟩
theorem cu.firm(B:cu K C H p wi hi hs)(D:kj K C):∃pf,Fl K H p "firm" (.ref pf)/\H pf=some (.lst ((firmL wi hi hs).map V.bl)):=by obtain⟨dx,ph,pf,a,_,c⟩:=B.ex;exact⟨pf,⟨C,dx,_,a,D.cl,D.firm,Eb _ _ _ _⟩,c⟩
theorem cu.holes(B:cu K C H p wi hi hs)(D:kj K C):∃ph,Fl K H p "holes" (.ref ph)/\H ph=some (.lst (hs.map V.int)):=by obtain⟨dx,ph,pf,a,b,c⟩:=B.ex;exact⟨ph,⟨C,dx,_,a,D.cl,D.holes,Ce _ _ _ _⟩,b⟩
theorem cu.no(B:cu K C H p wi hi hs){m:Str}(h1:¬m="wide":=by decide+kernel)(h2:¬m="high":=by decide+kernel)(h3:¬m="holes":=by decide+kernel)(h4:¬m="firm":=by decide+kernel):tj C m H p:=by obtain⟨dx,ph,pf,a,b,c⟩:=B.ex;exact⟨dx,_,a,MD _ _ _ _ h1 h2 h3 h4⟩
theorem cu.many(B:cu K C H p wi hi hs):1<=wi*hi/\wi*hi<=64:=by have a:=B.w1;have b:=B.w8;have c:=B.h1;have d:=B.h8;have e1:1*1<=wi*hi:=TV a c (by lia) (by lia);have e2:wi*hi<=8*8:=TV b d (by lia) (by lia);lia
theorem DS{s:Int}(h0:0<=s)(h1:s<wi*hi):km ((firmL wi hi hs).map V.bl) s=some (.bl (!decide (s∈hs))):=by
 have e:s=((s.toNat:Nat):Int):=by lia
 have hl:s.toNat<(wi*hi).toNat:=by lia
 have:((firmL wi hi hs).map V.bl)[s.toNat]? =some (.bl (!decide (((s.toNat:Nat):Int)∈hs))):=by unfold firmL;rw[RE,RE,Sb hl];rfl
 have q:=bO this;rw[<-e]at q;exact q
end
noncomputable def Kx(wi hi:Int)(hs:List Int)(s ax up:Int):Option Int:=
 if 0<=s % wi+ax/\s % wi+ax<wi/\0<=s / wi+up/\s / wi+up<hi then(if(s / wi+up)*wi+(s % wi+ax)∈hs then none else some ((s / wi+up)*wi+(s % wi+ax)))else none
def lX(wi s ax up:Int)(k:Nat):Int:=(s / wi+k*up)*wi+(s % wi+k*ax)
def oe(wi hi:Int)(hs:List Int)(s ax up:Int)(k:Nat):Prop:=0<=s % wi+k*ax/\s % wi+k*ax<wi/\0<=s / wi+k*up/\s / wi+k*up<hi/\¬lX wi s ax up k∈hs
instance {wi hi:Int} {hs:List Int} {s ax up:Int} {k:Nat}:Decidable (oe wi hi hs s ax up k):=by unfold oe;infer_instance
def ib(wi hi:Int)(hs:List Int)(s ax up:Int)(n:Nat):Prop:=(∀j<n,oe wi hi hs s ax up (j+1))/\¬oe wi hi hs s ax up (n+1)
def rayL(wi s ax up:Int)(n:Nat):List Int:=(List.range n).map λj=>lX wi s ax up (j+1)
theorem ib.uniq{wi hi:Int}{hs hs':List Int}{s ax up:Int}{m n:Nat}(h:ib wi hi hs s ax up m)(h':ib wi hi hs' s ax up n)(e:∀x,x∈hs<->x∈hs'):m=n:=by
 have c:∀k,oe wi hi hs s ax up k<->oe wi hi hs' s ax up k:=λk=>by unfold oe;rw[e]
 rcases TC m n with l|l|l
 .exact NG ((c _).mpr (h'.1 m l)) h.2
 .exact l
 .exact NG ((c _).mp (h.1 n l)) h'.2
theorem hG{wi s ax up:Int}{n:Nat}:(rayL wi s ax up n).length=n:=by unfold rayL;simp
theorem wY{wi s ax up:Int}{n:Nat}:rayL wi s ax up (n+1)=rayL wi s ax up n++[lX wi s ax up (n+1)]:=by unfold rayL;rw[Sq,RQ];rfl
theorem uu{wi hi:Int}{hs:List Int}{s ax up:Int}{k:Nat}(w8:wi<=8)(h8:hi<=8)(w1:1<=wi)(s0:0<=s)(s1:s<wi*hi)(n0:¬(ax=0/\up=0))(h:oe wi hi hs s ax up k):k<8:=by
 obtain⟨a,b,c,d,_⟩:=h;have m0:=TN s (by lia:wi≠0);have m1:=TQ s (by lia:0<wi);have d0:0<=s / wi:=Int.ediv_nonneg s0 (by lia);have d1:s / wi<hi:=Int.ediv_lt_of_lt_mul (by lia) (by rw[TW];exact s1);apply Classical.byContradiction;intro hk;have hk:8<=k:=by lia
 have k8:(8:Int)<=(k:Int):=by lia
 rcases Int.lt_trichotomy ax 0 with l|l|l
 .have:(k:Int)*ax<=(k:Int)*(-1):=TX (by lia) (by lia);lia
 .rcases Int.lt_trichotomy up 0 with l'|l'|l'
  .have:(k:Int)*up<=(k:Int)*(-1):=TX (by lia) (by lia);lia
  .exact n0 ⟨l,l'⟩
  .have:(k:Int)*1<=(k:Int)*up:=TX (by lia) (by lia);lia
 .have:(k:Int)*1<=(k:Int)*ax:=TX (by lia) (by lia);lia
theorem pe{wi s ax up:Int}{k:Nat}(w1:1<=wi)(a:0<=s % wi+k*ax)(b:s % wi+k*ax<wi):lX wi s ax up k % wi=s % wi+k*ax/\lX wi s ax up k / wi=s / wi+k*up:=by
 unfold lX;rw[Int.add_comm ((s / wi+k*up)*wi)]
 constructor
 .rw[Int.add_mul_emod_self_right];exact TZ a b
 .rw[Int.add_mul_ediv_right _ _ (by lia),Int.ediv_eq_zero_of_lt a b];lia
theorem qW{wi s ax up:Int}(w1:1<=wi):lX wi s ax up 0=s:=by unfold lX;have e:=Int.mul_ediv_add_emod s wi;rw[TW]at e;have z:((0:Nat):Int)=0:=rfl;rw[z,Int.zero_mul,Int.zero_mul,Int.add_zero,Int.add_zero];exact e
theorem lN{wi hi:Int}{hs:List Int}{s ax up:Int}{k:Nat}(w1:1<=wi)(a:0<=s % wi+k*ax)(b:s % wi+k*ax<wi):Kx wi hi hs (lX wi s ax up k) ax up=if oe wi hi hs s ax up (k+1)then some (lX wi s ax up (k+1))else none:=by
 obtain⟨e1,e2⟩:=pe (up:=up) w1 a b;unfold Kx;rw[e1,e2];have ze:((k+1:Nat):Int)=(k:Int)+1:=rfl;have f1:s % wi+(k:Int)*ax+ax=s % wi+((k+1:Nat):Int)*ax:=by rw[ze,Int.add_mul,TY];lia
 have f2:s / wi+(k:Int)*up+up=s / wi+((k+1:Nat):Int)*up:=by rw[ze,Int.add_mul,TY];lia
 rw[f1,f2];have f3:(s / wi+((k+1:Nat):Int)*up)*wi+(s % wi+((k+1:Nat):Int)*ax)=lX wi s ax up (k+1):=rfl;rw[f3]
 by_cases c:0<=s % wi+((k+1:Nat):Int)*ax/\s % wi+((k+1:Nat):Int)*ax<wi/\0<=s / wi+((k+1:Nat):Int)*up/\s / wi+((k+1:Nat):Int)*up<hi
 .rw[ND c]
  by_cases m:lX wi s ax up (k+1)∈hs
  .rw[ND m,NC (show¬oe wi hi hs s ax up (k+1)from λz=>z.2.2.2.2 m)]
  .rw[NC m,ND (show oe wi hi hs s ax up (k+1)from⟨c.1,c.2.1,c.2.2.1,c.2.2.2,m⟩)]
 .rw[NC c,NC (show¬oe wi hi hs s ax up (k+1)from λz=>c ⟨z.1,z.2.1,z.2.2.1,z.2.2.2.1⟩)]
def GN:Sp:=λvs H Q _=>∃t a b:Int,vs=[.int t,.int a,.int b]/\Q (.bl (decide (a<=t/\t<=b))) H
def GL:Sp:=λvs H Q _=>∃w s:Int,vs=[.int w,.int s]/\0<w/\Q (.int (s % w)) H
def AB:Sp:=λvs H Q _=>∃w s:Int,vs=[.int w,.int s]/\0<w/\w<100/\Q (.int (s / w)) H
def Ay:Sp:=λvs H Q _=>∃w c r:Int,vs=[.int w,.int c,.int r]/\-100<w/\w<100/\Q (.int (r*w+c)) H
def rh:Sp:=λvs H Q _=>∃(d:Addr)(m:Int)(hs:List Int),vs=[.ref d,.int m]/\H d=some (.lst (hs.map V.int))/\(∀h∈hs,0<=h/\h<m)/\hs.Nodup/\(hs.length:Int)<m/\m<=64/\∀H',ak H H'->Q (.bl true) H'
def pz(K:Frag)(C:Addr):Sp:=λvs H Q _=>∃(p d dx:Addr)(wi hi:Int)(hs:List Int),vs=[.ref p,.int wi,.int hi,.ref d]/\H p=some (.ins C dx [])/\H d=some (.lst (hs.map V.int))/\1<=wi/\wi<=8/\1<=hi/\hi<=8/\(∀h∈hs,0<=h/\h<wi*hi)/\hs.Nodup/\(hs.length:Int)<wi*hi/\
 ∀(hs':List Int) H',hs'.Perm hs->cu K C H' p wi hi hs'->SameBut p H H'->Q .non H'
def vE(K:Frag)(C:Addr):Sp:=λvs H Q _=>∃(p:Addr)(wi hi:Int)(hs:List Int)(s ax up:Int),vs=[.ref p,.int s,.int ax,.int up]/\cu K C H p wi hi hs/\Q (oI (Kx wi hi hs s ax up)) H
def GH(K:Frag)(C:Addr):Sp:=λvs H Q _=>∃(p:Addr)(wi hi:Int)(hs:List Int)(s ax up:Int),vs=[.ref p,.int s,.int ax,.int up]/\cu K C H p wi hi hs/\0<=s/\s<wi*hi/\¬(ax=0/\up=0)/\
 ∀(n:Nat)(q:Addr)(H':Hp),ib wi hi hs s ax up n->n<=8->H q=none->H' q=some (.lst ((rayL wi s ax up n).map V.int))->ak H H'->Q (.ref q) H'
structure CA(P:NP)(w:NT)(K:Frag)(mg:NH)(Ny:NZ):Prop where
 is_among:dg P w K mg Ny "is_among" ["thing","least","most"] 2 GN
structure CB(P:NP)(w:NT)(K:Frag)(mg:NH)(Ny:NZ):Prop where
 column_of:dg P w K mg Ny "column_of" ["wide","square"] 1 GL
 row_of:dg P w K mg Ny "row_of" ["wide","square"] 1 AB
 square_at:dg P w K mg Ny "square_at" ["wide","column","row"] 1 Ay
structure CB2(P:NP)(w:NT)(K:Frag)(mg:NH)(Ny:NZ):Prop extends CA P w K mg Ny where
 are_holes:dg P w K mg Ny "are_holes" ["thing","many"] 3 rh
structure CB3(P:NP)(w:NT)(K:Frag)(mg:NH)(Ny:NZ)(cB:Addr):Prop extends CB2 P w K mg Ny where
 Board:oX P w K mg Ny "Board" cB ["self","wide","high","holes"] 4 (pz K cB)
 Board_moved:qO P w K mg Ny cB "moved" ["self","square","across","up"] 2 (vE K cB)
section
variable{X:Cx}{gV:NJ}{σ:St}{H:Hp}{s:NN}{h':NZ}
theorem aM.turned_laid{t':Nat}{e it a:Addr}{o:HO}(I:aM X gV σ H s)(k:∀b ob,b≠e->b≠it->s.heap.get? b=some ob->h'.get? b=some ob)(he:jz X gV H e)(hi:jz X gV H it)(hp:s.heap.objs.size<=a)(new:bH X.prog X.w (upd H a o) h' a o):
  aM X gV σ (upd H a o) {s with heap:=h',toks:=t'}:=by
 obtain⟨e0,e1,e2,e3,e4,e5⟩:=he;obtain⟨i0,i1,i2,i3,i4,i5⟩:=hi;have hn:H a=none:=I.hok.fresh hp;have ne:∀b u,H b=some u->b≠e:=λb u q z=>by rw[z,e0]at q;cases q
 have nit:∀b u,H b=some u->b≠it:=λb u q z=>by rw[z,i0]at q;cases q
 have kk:∀b ob,b∉[e,it]->s.heap.get? b=some ob->h'.get? b=some ob:=λb ob hc q=>k b ob (λz=>hc (by simp[z])) (λz=>hc (by simp[z])) q;refine I.step (g':=s.gens) (d':=s.drawn) (ch:=[e,it]) (λb hb=>?_) (λb ob _ _ hc q _=>kk b ob hc q) (λb ob _ _ hc q _=>⟨ob.slots,kk b ob hc q⟩)
  (λb ob hc q n=>by rw[av (Tk (To (NQ q) hp))];exact n) (λb ob hc q=>⟨ob,kk b ob hc q⟩) (λb xs q=>by rw[av (aC q hn)];exact q) (λb ob u q=>by rw[av (aC q hn)];exact q)
  (λb ps q=>⟨#[],by rw[av (aC q hn),q];simp⟩) (λm hm=>?_) (λb u q=>?_) I.bare
 .rcases RB.mp hb with rfl|hb
  .exact⟨e3,e1,e4,e5⟩
  .rw[RL.mp hb];exact⟨i3,i1,i4,i5⟩
 .obtain⟨ob,es,ep,ho,r⟩:=hm;exact⟨ob,es,ep,k _ ob (Ne.symm e1) (Ne.symm i1) ho,r⟩
 .by_cases hb:b=a
  .subst hb;rw[ah]at q;cases q;exact new
  .rw[av hb]at q;refine(I.hok b u q).stay (λc v hc z=>k c v ?_ ?_ z) (λc z=>by rw[av (aC z hn)];exact z) λc xs z=>by rw[av (aC z hn)];exact z
   .rcases hc with z|z
    .rw[z];exact ne b u q
    .exact ne c _ z
   .rcases hc with z|z
    .rw[z];exact nit b u q
    .exact nit c _ z
theorem aM.turned2{t':Nat}{e it:Addr}(I:aM X gV σ H s)(k:∀b ob,b≠e->b≠it->s.heap.get? b=some ob->h'.get? b=some ob)(he:jz X gV H e)(hi:jz X gV H it):aM X gV σ H {s with heap:=h',toks:=t'}:=by
 obtain⟨e0,e1,e2,e3,e4,e5⟩:=he;obtain⟨i0,i1,i2,i3,i4,i5⟩:=hi;have ne:∀b u,H b=some u->b≠e:=λb u q z=>by rw[z,e0]at q;cases q
 have nit:∀b u,H b=some u->b≠it:=λb u q z=>by rw[z,i0]at q;cases q
 have kk:∀b ob,b∉[e,it]->s.heap.get? b=some ob->h'.get? b=some ob:=λb ob hc q=>k b ob (λz=>hc (by simp[z])) (λz=>hc (by simp[z])) q;refine I.step (g':=s.gens) (d':=s.drawn) (ch:=[e,it]) (λb hb=>?_) (λb ob _ _ hc q _=>kk b ob hc q) (λb ob _ _ hc q _=>⟨ob.slots,kk b ob hc q⟩)
  (λ_ _ _ _ n=>n) (λb ob hc q=>⟨ob,kk b ob hc q⟩) (λ_ _ q=>q) (λ_ _ _ q=>q)
  (λb ps q=>⟨#[],by rw[q];simp⟩) (λm hm=>?_) (λb u q=>?_) I.bare
 .rcases RB.mp hb with rfl|hb
  .exact⟨e3,e1,e4,e5⟩
  .rw[RL.mp hb];exact⟨i3,i1,i4,i5⟩
 .obtain⟨ob,es,ep,ho,r⟩:=hm;exact⟨ob,es,ep,k _ ob (Ne.symm e1) (Ne.symm i1) ho,r⟩
 .refine(I.hok b u q).stay (λc v hc z=>k c v ?_ ?_ z) (λc z=>z) λc xs z=>z
  .rcases hc with z|z
   .rw[z];exact ne b u q
   .exact ne c _ z
  .rcases hc with z|z
   .rw[z];exact nit b u q
   .exact nit c _ z
end
def MJ(K:Frag)(a:Addr):It:=
 ⟨λi H=>∃xs x,aY K H a xs/\xs[i]? =some x,λi H x H'=>∃t v,x=.ref t/\H t=none/\H'=upd H t (.tup [.int (i:Int),v])/\∀xs,aY K H a xs->xs[i]? =some v,λi H=>∃xs,aY K H a xs/\xs.length<=i⟩
theorem tG{P:NP}{w:NT}{K:Frag}{elts:List N5}{k0:Nat}{pos:Px}(a e it:Addr)(hne:e≠it):Co P w K (.Tuple elts k0 pos) (MJ K a) [e,it] e (λi h=>(∃old,IsEnum h e it (i:Int) old)/\h.IsListIter it a i) where
 mem:=by simp
 obj:=λi h st b hb=>by
  obtain⟨⟨old,he⟩,o,ho,c,d⟩:=st
  rcases RB.mp hb with rfl|hb
  .exact⟨_,he,λv z=>by cases z⟩
  .rw[RL.mp hb];exact⟨o,ho,λv z=>by rw[d]at z;cases z⟩
 keep:=λi h h' st k=>by obtain⟨⟨old,he⟩,hi⟩:=st;exact⟨⟨old,k e (by simp) _ he⟩,hi.at λo x=>k it (by simp) o x⟩
 item:=by
  intro X hP hw hK hc i gV s σ H E I hf st hg;subst hP hw hK;obtain⟨xs,x,hq,hx⟩:=hg;obtain⟨its,rv,p,hz⟩:=I.list hq;obtain⟨u,hu,ru⟩:=rv.get hx;obtain⟨⟨old,he⟩,hit⟩:=st;have fe:=hf e (by simp);have fi:=hf it (by simp);obtain⟨oL,hoL,hcL,nL,hdL⟩:=p.isList;have hai:a≠it:=λz=>by subst z;obtain⟨o',ho',hc',_⟩:=hit;rw[hoL]at ho';cases ho';rw[hcL]at hc';injection hc' with hz';exact NG hz' (by decide)
  have hae:a≠e:=λz=>by subst z;have he':s.heap.get? a=_:=he;rw[hoL]at he';cases he';injection hcL with hz';exact NG hz' (by decide)
  have D:=Draws.list (prog:=X.prog) (w:=X.w) (A:=X.A.in1) (by show X.A.handled=none;exact I.ok.hd hc) it a hai its.toArray;have hlt:i<its.toArray.size:=by have:=(RO.mp hu).1;simpa using this
  refine Ql D he ⟨hit,p.isList⟩ hlt hne (by simp[hne,hae.symm]) λx' h1 tk hP' ho hs' hT hsz hk=>?_;have ex:x'=u:=by have:its.toArray[i]? =some x':=hP';rw[SU,hu]at this;exact(Option.some.inj this).symm
  subst ex;refine⟨_,rfl,PQ ho λh2 he2 sb=>?_⟩;have hlt2:e<s.heap.objs.size:=NQ he;have kk:∀b ob,b≠e->b≠it->s.heap.get? b=some ob->h2.get? b=some ob:=λb ob b1 b2 q=>(sb.2 b b1).trans (hk b ob b1 b2 q);have hT2:h2.get? s.heap.objs.size=some {cls:=.type "tuple",data:=.seq #[.int i tk,x']}:=(sb.2 _ (Tr hlt2)).trans hT;have new:bH X.prog X.w (upd H s.heap.objs.size (.tup [.int (i:Int),x])) h2 s.heap.objs.size (.tup [.int (i:Int),x]):=
   ⟨by show 2<=sizeLine;decide,[.int i tk,x'],.cons ⟨tk,rfl⟩ (.cons ru .nil),⟨_,hT2,rfl,_,rfl⟩⟩
  have I2:=I.turned_laid (t':=tk+1) kk fe fi (Tj _) new;refine⟨.ref s.heap.objs.size,_,I2,rfl,⟨_,x,rfl,I.hok.fresh (Tj _),rfl,λys hy=>by rw[I.list_inj hy hq];exact hx⟩,⟨⟨_,by simpa using he2⟩,hs'.1.at λo z=>(sb.2 it (Ne.symm hne)).trans z⟩,λb hb=>?_⟩
  rcases RB.mp hb with rfl|hb
  .rw[av (Tk hlt2)];exact fe.1
  .rw[RL.mp hb];obtain⟨o',ho',_⟩:=hit;rw[av (Tk (NQ ho'))];exact fi.1
 done:=by
   intro X hP hw hK hc i gV s σ H E I hf st hg;subst hP hw hK;obtain⟨xs,hq,hx⟩:=hg;obtain⟨its,rv,p,hz⟩:=I.list hq;obtain⟨⟨old,he⟩,hit⟩:=st;have fe:=hf e (by simp);have fi:=hf it (by simp);have hl:=rv.length;obtain⟨oL,hoL,hcL,nL,hdL⟩:=p.isList;have hai:a≠it:=λz=>by subst z;obtain⟨o',ho',hc',_⟩:=hit;rw[hoL]at ho';cases ho';rw[hcL]at hc';injection hc' with hz';exact NG hz' (by decide)
   have hT:s.TypeIs (.ref e) "enumerate":=⟨_,he,rfl⟩;unfold Pb;refine NK (O3 (Oi (name:=Pg "__next__") hT QJ
    (Oe QJ hT F.entry_enumerate_next ?_ (F.args_enumerate_next_1 _))))
   show NS _ _ (field (.ref e) 2 >>= _) _ _ _;refine NK (Po he rfl (x:=.ref it) rfl ?_);refine NK (wpAny_nextOf_list_end (by show X.A.handled=none;exact I.ok.hd hc) hit p.isList (by simp;lia) λh' x he' hx'=>?_);obtain⟨o,ho,hcx⟩:=hx';refine NK (Py (T:="StopIteration") (b:=true) ⟨o,ho,hcx⟩ QQ ?_);exact NL ⟨rfl,I.turned2 (t':=s.toks) (λb ob _ b2 q=>he' b ob b2 q) fe fi⟩
 self:=λA i s Q E st h=>by obtain⟨⟨old,he⟩,_⟩:=st;exact Pq he h
def xZ(x:Str):It:=
 ⟨λi _=>i<x.cps.size,λi H v H'=>∃t c,v=.ref t/\H t=none/\x.cps.toList[i]? =some c/\H'=upd H t (.tup [.int (i:Int),.str ⟨#[c]⟩]),λi _=>i=x.cps.size⟩
theorem oN{prog:NP}{w:NT}{A:N1}(hh:A.handled=none)(it:Addr)(x:Str)(t:Tok):Draws prog w A it [it] x.cps.size (λi v=>∃c u,x.cps[i]? =some c/\v=.str ⟨#[c]⟩ u) (λi h=>h.IsStrIter it (QN x) x t i):=by
 unfold QN;split
 .exact Draws.strAscii hh it x t
 .exact Draws.strWide hh it x t
theorem tF{P:NP}{w:NT}{K:Frag}{elts:List N5}{k0:Nat}{pos:Px}(e it:Addr)(x:Str)(t:Tok)(hne:e≠it):Co P w K (.Tuple elts k0 pos) (xZ x) [e,it] e (λi h=>(∃old,IsEnum h e it (i:Int) old)/\h.IsStrIter it (QN x) x t i) where
 mem:=by simp
 obj:=λi h st b hb=>by
  obtain⟨⟨old,he⟩,o,ho,c,d⟩:=st
  rcases RB.mp hb with rfl|hb
  .exact⟨_,he,λv z=>by cases z⟩
  .rw[RL.mp hb];exact⟨o,ho,λv z=>by rw[d]at z;cases z⟩
 keep:=λi h h' st k=>by obtain⟨⟨old,he⟩,o,ho,r⟩:=st;exact⟨⟨old,k e (by simp) _ he⟩,o,k it (by simp) o ho,r⟩
 item:=by
  intro X hP hw hK hc i gV s σ H E I hf st hg;subst hP hw hK;obtain⟨⟨old,he⟩,hit⟩:=st;have fe:=hf e (by simp);have fi:=hf it (by simp);have D:=oN (prog:=X.prog) (w:=X.w) (A:=X.A.in1) (by show X.A.handled=none;exact I.ok.hd hc) it x t;refine Ql D he hit hg hne (by simp[hne]) λx' h1 tk hP' ho hs' hT hsz hk=>?_;obtain⟨c,u,hcx,rfl⟩:=hP';refine⟨_,rfl,PQ ho λh2 he2 sb=>?_⟩;have hlt2:e<s.heap.objs.size:=NQ he;have kk:∀b ob,b≠e->b≠it->s.heap.get? b=some ob->h2.get? b=some ob:=λb ob b1 b2 q=>(sb.2 b b1).trans (hk b ob b1 b2 q);have hT2:h2.get? s.heap.objs.size=some {cls:=.type "tuple",data:=.seq #[.int i tk,.str ⟨#[c]⟩ u]}:=(sb.2 _ (Tr hlt2)).trans hT;have new:bH X.prog X.w (upd H s.heap.objs.size (.tup [.int (i:Int),.str ⟨#[c]⟩])) h2 s.heap.objs.size (.tup [.int (i:Int),.str ⟨#[c]⟩]):=
   ⟨by show 2<=sizeLine;decide,[.int i tk,.str ⟨#[c]⟩ u],.cons ⟨tk,rfl⟩ (.cons ⟨u,rfl⟩ .nil),⟨_,hT2,rfl,_,rfl⟩⟩
  have I2:=I.turned_laid (t':=tk+1) kk fe fi (Tj _) new;have hs2:h2.IsStrIter it (QN x) x t (i+1):=by obtain⟨o',ho',r⟩:=hs';exact⟨o',(sb.2 it (Ne.symm hne)).trans ho',r⟩
  refine⟨.ref s.heap.objs.size,_,I2,rfl,⟨_,c,rfl,I.hok.fresh (Tj _),by rw[Ul];exact hcx,rfl⟩,⟨⟨_,by simpa using he2⟩,hs2⟩,λb hb=>?_⟩
  rcases RB.mp hb with rfl|hb
  .rw[av (Tk hlt2)];exact fe.1
  .rw[RL.mp hb];obtain⟨o',ho',_⟩:=hit;rw[av (Tk (NQ ho'))];exact fi.1
 done:=by intro X hP hw hK hc i gV s σ H E I hf st hg;subst hP hw hK;obtain⟨⟨old,he⟩,hit⟩:=st;have hg:i=x.cps.size:=hg;subst hg;have fe:=hf e (by simp);have fi:=hf it (by simp);have D:=oN (prog:=X.prog) (w:=X.w) (A:=X.A.in1) (by show X.A.handled=none;exact I.ok.hd hc) it x t;exact wpAny_pyNext_enum_endD D he hit λh' hx=>⟨rfl,I.turned2 (t':=s.toks) (λb ob _ b2 q=>hx b ob b2 q) fe fi⟩
 self:=λA i s Q E st h=>by obtain⟨⟨old,he⟩,_⟩:=st;exact Pq he h
section
variable{X:Cx}{p pos pos2:Px}{a:N5}{elts:List N5}{k0:Nat}{ta:TE}
def wb(K:Frag)(ta:TE):TI:=λσ H R=>ta σ H λx H1=>match x with
 | .ref d=>(∃xs,aY K H1 d xs)/\R (MJ K d) H1
 | .str z=>R (xZ z) H1
 |_=>False
theorem Dd(hm:X.mg "enumerate"=none)(ha:PE X a ta)(hg:Gl X "enumerate":=by rfl)(hs:NU [a] X.env=[(false,Om a X.env)]:=by rfl):PI X (.Tuple elts k0 pos2) (.Call (.Name "enumerate" p) [a] [] pos) (wb X.K ta):=by
 intro gV s σ H R I h;have hA:PA X [a] (bx ta df):=pa_cons ha pa_nil (by rw[hs];rfl);refine Call_ (kR I hg hm qJ (PyProof.Rows.callWith_type1 (bU (hA pos gV s σ H (λvs H1=>∃x,vs=[x]/\(match x with| .ref d=>(∃xs,aY X.K H1 d xs)/\R (MJ X.K d) H1| .str z=>R (xZ z) H1|_=>False)) I ?_) λus s1 ⟨vs,H1,I1,r1,x,e1,q1⟩=>?_) (by rw[hs];rfl) rfl) (by decide) (by decide))
 .show ta σ H _;have e:(λ(x:V)(H1:Hp)=>match x with| .ref d=>(∃xs,aY X.K H1 d xs)/\R (MJ X.K d) H1| .str z=>R (xZ z) H1|_=>False)=λx H1=>df σ H1 λxs H2=>∃y,x::xs=[y]/\(match y with| .ref d=>(∃xs,aY X.K H2 d xs)/\R (MJ X.K d) H2| .str z=>R (xZ z) H2|_=>False):=by
   funext x H1;apply propext
   constructor
   .intro q;exact⟨x,rfl,q⟩
   .rintro⟨y,e,q⟩;have:x=y:=by injection e
    subst this;exact q
  rw[<-e];exact h
 .subst e1;obtain⟨u,rfl,ru⟩:=dL r1;cases x with
  |ref d=>
   obtain⟨⟨xs,hq⟩,q⟩:=q1;cases ru;obtain⟨its,rv,pl,hz⟩:=I1.list hq;refine call_enumerate_list pl.isList λh' he hit hsz hk=>?_;have I2:aM X gV σ H1 {s1 with heap:=h'}:=I1.kept (t':=s1.toks) hk;refine Pq he ⟨s1.heap.objs.size+1,[s1.heap.objs.size+1,s1.heap.objs.size],_,_,H1,rfl,I2,tG d _ _ (TB _),⟨⟨_,he⟩,hit⟩,λb hb=>?_,q⟩
   rcases RB.mp hb with rfl|hb
   .exact I1.fpOk (Tp _) (I1.hok.fresh (Tp _))
   .rw[RL.mp hb];exact I1.fpOk (Tj _) (I1.hok.fresh (Tj _))
  |str z=>
   obtain⟨t,rfl⟩:=ru;refine call_enumerate_str λh' he hit hsz hk=>?_;have I2:aM X gV σ H1 {s1 with heap:=h'}:=I1.kept (t':=s1.toks) hk;refine Pq he ⟨s1.heap.objs.size+1,[s1.heap.objs.size+1,s1.heap.objs.size],_,_,H1,rfl,I2,tF _ _ z t (TB _),⟨⟨_,he⟩,hit⟩,λb hb=>?_,q1⟩
   rcases RB.mp hb with rfl|hb
   .exact I1.fpOk (Tp _) (I1.hok.fresh (Tp _))
   .rw[RL.mp hb];exact I1.fpOk (Tj _) (I1.hok.fresh (Tj _))
  |_=>exact q1.elim
theorem Bk(K:Frag)(hm:X.mg "enumerate"=none)(ha:PE X a ta)(hg:Gl X "enumerate":=by rfl)(hs:NU [a] X.env=[(false,Om a X.env)]:=by rfl)(hK:X.K=K:=by rfl):PI X (.Tuple elts k0 pos2) (.Call (.Name "enumerate" p) [a] [] pos) (wb K ta):=by subst hK;exact Dd hm ha hg hs
end
section
variable{X:Cx}
def LW(x:V)(vs:List V)(H:Hp)(Q:VK):Prop:=match x,vs with
 | .str a,[]=>a.length<=sizeLine/\(∀c∈a.cps.toList,c<128)/\Q (.str ⟨a.cps.map lo1⟩) H
 |_,_=>False
theorem ux:qR X "str.lower" LW:=by
 unfold qR;intro gV s σ H x xs v us Q I rx r h;unfold LW at h;split at h
 .rename_i a;obtain⟨hz,ha,q⟩:=h;obtain⟨t,rfl⟩:=rx;cases r;have e:placed a (λi _=>QD a.cps i)=a.cps.map lo1:=placed_single a _ lo1 λi c hc=>by
   have hc':a.cps[i]? =some c:=by simpa using hc
   have hlt:=ha c (RT hc);unfold QD;rw[hc'];have hne:(c == 0x3A3)=false:=by rw[beq_eq_false_iff_ne];lia
   simp only[hne,Bool.false_and,T8,if_false];exact lowerOf_ascii c hlt
  have hfit:Pj (placed a λi _=>QD a.cps i).size=false:=by rw[e,Uq];unfold Pj;exact NB (by show¬a.cps.size > sizeLine;have:a.length=a.cps.size:=rfl;lia)
  refine call_gives F.slot_str_lower (PV _ _ _) F.entry_str_lower (F.args_str_lower_1 _) (gives_str_lower a t hfit) ?_;rw[e];exact⟨by show(a.cps.map lo1).size<=sizeLine;rw[Uq];exact hz,⟨.str _,H,I.tok _,⟨_,rfl⟩,q⟩⟩
 .exact h.elim
theorem uH:∀c,c<128->(Unicode.isUpper c&& !(Unicode.isLower c||Unicode.isTitle c))=decide (65<=c/\c<=90):=by decide+kernel
def MS(x:V)(vs:List V)(H:Hp)(Q:VK):Prop:=match x,vs with
 | .str a,[]=>∃c,a=⟨#[c]⟩/\c<128/\Q (.bl (decide (65<=c/\c<=90))) H
 |_,_=>False
theorem Js:qR X "str.isupper" MS:=by
 unfold qR;intro gV s σ H x xs v us Q I rx r h;unfold MS at h;split at h
 .rename_i a;obtain⟨c,rfl,hc,q⟩:=h;obtain⟨t,rfl⟩:=rx;cases r;refine call_gives F.slot_str_isupper (PV _ _ _) F.entry_str_isupper (F.args_str_isupper_1 _) (gives_str_isupper _ t) ?_;refine fin_bl I q ?_;rw[<-uH c hc];simp
 .exact h.elim
theorem M5{a:Str}{H:Hp}{Q:VK}:(LW (.str a) [] H Q)=(a.length<=sizeLine/\(∀c∈a.cps.toList,c<128)/\Q (.str ⟨a.cps.map lo1⟩) H):=rfl
end
abbrev one(c:Nat):Str:=⟨#[c]⟩
def lG(c:Nat):Prop:=97<=c/\c<=122
def Sg(c:Nat):Prop:=c=46\/c=35\/(97<=c/\c<=122)\/(65<=c/\c<=90)
theorem Sg.lt{c:Nat}(h:Sg c):c<128:=by unfold Sg at h;lia
def jm(c:Nat):V:=if c=46\/c=35 then .non else .str (one (lo1 c))
def bP(c:Nat):V:=if c=46\/c=35 then .non else .int (if 65<=c/\c<=90 then 0 else 1)
theorem Cn:("abcdefghijklmnopqrstuvwxyz":Str).cps.toList=[97,98,99,100,101,102,103,104,105,106,107,108,109,110,111,112,113,114,115,116,117,118,119,120,121,122]:=by decide+kernel
theorem dh_in(c:Nat):decide (c∈(".#":Str).cps.toList)=decide (c=46\/c=35):=by
 have e:(".#":Str).cps.toList=[46,35]:=by decide+kernel
 rw[e,T7];simp only[decide_eq_true_eq,RB,RW,or_false]
theorem Kq{i:Int}(h0:0<=i)(h1:i<26):km ("abcdefghijklmnopqrstuvwxyz":Str).cps.toList i=some (97+i.toNat):=by
 have e:i=((i.toNat:Nat):Int):=by lia
 have hx:∀k<26,("abcdefghijklmnopqrstuvwxyz":Str).cps.toList[k]? =some (97+k):=by rw[Cn];decide
 have q:=bO (hx i.toNat (by lia));rw[<-e]at q;exact q
theorem Mq(b:Bool):km (".#":Str).cps.toList (if b=true then 1 else 0)=some (if b=true then 35 else 46):=by
 have e:(".#":Str).cps.toList=[46,35]:=by decide+kernel
 rw[e];cases b<;>decide
theorem C1:(".":Str)=one 46:=by decide+kernel
theorem Ax:("#":Str)=one 35:=by decide+kernel
section
variable{K:Frag}{σ rest:St}{H:Hp}{te ta tb tl:TE}{tt:TT}{R:Bool->Hp->Prop}{Q:VK}{c:Nat}{z:Str}{src:List (Option Nat)}
theorem Hk(h:Ev te σ H (.str (one c)))(ha:Ev ta σ H (.str (one 46)))(hb:Ev tb σ H (.str (one 35)))(q:∀H',ak H H'->R (decide (c=46\/c=35)) H'):ia (fG K .In te (Ar (bx ta (bx tb df)))) σ H R:=
 h _ (ha _ (hb _ ⟨by show 2<=sizeLine;decide,λt ht=>by
  show fT K .In (.str (one c)) (.ref t) _ (cL R);rw[jQ];refine⟨t,_,rfl,.inr (cr.of ah),rfl,rfl,?_⟩;have e:DI (.str (one c)) [.str (one 46),.str (one 35)]=decide (c=46\/c=35):=by
   unfold DI;have e1:eqV (.str (one 46)) (.str (one c))=decide (c=46):=by
    show((one 46) == (one c))=_
    by_cases h:c=46
    .subst h;simp
    .rw[NB h];exact beq_eq_false_iff_ne.mpr (λe=>h (by have:=congrArg (λx:Str=>x.cps.toList) e;simp[one]at this;lia))
   have e2:eqV (.str (one 35)) (.str (one c))=decide (c=35):=by
    show((one 35) == (one c))=_
    by_cases h:c=35
    .subst h;simp
    .rw[NB h];exact beq_eq_false_iff_ne.mpr (λe=>h (by have:=congrArg (λx:Str=>x.cps.toList) e;simp[one]at this;lia))
   show(eqV (.str (one 46)) (.str (one c))||(eqV (.str (one 35)) (.str (one c))||false))=_
   rw[e1,e2]
   by_cases h1:c=46<;>by_cases h2:c=35<;>simp[h1,h2]
  show cL R (.bl (if false then _ else DI (.str (one c)) [.str (one 46),.str (one 35)])) _;rw[e];exact q _ ((ak.refl H).upd ht)⟩))
theorem JW(ha:Ev ta σ H (.str (one c)))(hb:Ev tb σ H (.str z)):Ev (fG K .In ta tb) σ H (.bl (decide (c∈z.cps.toList))):=λQ q=>ha _ (hb _ (by
 show fT K .In _ _ _ _;rw[AO,StrLaws.found_one];exact q))
theorem BI(ha:Ev ta σ H (.str (one c)))(hc:lG c):Ev (D3 Lo ta) σ H (.str (one (c - 32))):=λQ q=>ha _ (by
 show Lo (.str (one c)) [] H Q;rw[M4];refine⟨by show 1<=sizeLine;decide,λd hd=>?_,?_⟩
 .have e:d=c:=by simpa[one]using hd
  have:=hc.2;lia
 have e:(⟨(one c).cps.map up1⟩:Str)=one (c - 32):=by
  show(⟨#[c].map up1⟩:Str)=_;have:up1 c=c - 32:=by unfold up1;exact ND hc
  simp[one,this]
 rw[e];exact q)
theorem BK(ha:Ev ta σ H (.str (one c)))(hc:c<128):Ev (D3 LW ta) σ H (.str (one (lo1 c))):=λQ q=>ha _ (by
 show LW (.str (one c)) [] H Q;rw[M5];refine⟨by show 1<=sizeLine;decide,λd hd=>?_,?_⟩
 .have e:d=c:=by simpa[one]using hd
  lia
 have e:(⟨(one c).cps.map lo1⟩:Str)=one (lo1 c):=by show(⟨#[c].map lo1⟩:Str)=_;simp[one]
 rw[e];exact q)
theorem Mn(ha:Ev ta σ H (.str (one c)))(hc:c<128):Ev (D3 MS ta) σ H (.bl (decide (65<=c/\c<=90))):=λQ q=>ha _ (by
 show MS (.str (one c)) [] H Q;exact⟨c,rfl,hc,q⟩)
theorem Hr{lo hi:Option Int}{tl' th:TO}(ha:Ev ta σ H (.str z))(hl:∀Q:Option Int->Hp->Prop,Q lo H->tl' σ H Q)(hh:∀Q:Option Int->Hp->Prop,Q hi H->th σ H Q)(hz:z.length<=sizeLine):Ev (My K ta tl' th) σ H (.str (j5 z lo hi)):=λQ q=>ha _ (hl _ (hh _ ⟨hz,q⟩))
theorem jj:∀Q:Option Int->Hp->Prop,Q none H->vy σ H Q:=λQ q=>q
theorem iz{i:Int}(h:Ev te σ H (.int i)):∀Q:Option Int->Hp->Prop,Q (some i) H->Hw te σ H Q:=λQ q=>h _ q
theorem pC{sd:Int}:fT K .Eq (bP c) (.int sd) H Q=Q (.bl (decide (bP c=.int sd))) H:=by
 unfold bP
 by_cases h:c=46\/c=35
 .rw[ND h];show Q (.bl false) H=Q (.bl (decide (V.non=V.int sd))) H;rw[NB (by intro z;cases z)]
 .rw[NC h];show Q (.bl (decide (_=sd))) H=Q (.bl (decide (V.int _=V.int sd))) H;have:∀i:Int,decide (i=sd)=decide (V.int i=V.int sd):=λi=>by
   by_cases e:i=sd
   .rw[NA e,NA (congrArg V.int e)]
   .rw[NB e,NB (λz=>e (by injection z))]
  rw[this]
def DZ(l:List Nat)(p:Nat->Nat->Bool)(f:Nat->Nat->V)(n:Nat):List V:=((List.range n).filter λi=>p i (l.getD i 0)).map λi=>f i (l.getD i 0)
theorem sM{l:List Nat}{p:Nat->Nat->Bool}{f:Nat->Nat->V}{n:Nat}:DZ l p f (n+1)=DZ l p f n++(if p n (l.getD n 0)=true then [f n (l.getD n 0)]else []):=by
 unfold DZ;rw[Sq,SV,RQ];congr 1
 by_cases h:p n (l.getD n 0)=true
 .rw[ND h];have e:(List.filter (λi=>p i (l.getD i 0)) [n])=[n]:=by rw[Sr];exact ND h
  rw[e];rfl
 .rw[NC h];have e:(List.filter (λi=>p i (l.getD i 0)) [n])=[]:=by rw[Sr];exact NC h
  rw[e];rfl
theorem DY{l:List Nat}{p:Nat->Nat->Bool}{f:Nat->Nat->V}{n:Nat}:(DZ l p f n).length<=n:=by unfold DZ;rw[Rz];exact Tn (Sf _ _) (by rw[Sa];exact Tj _)
theorem B0(hl:Ev tl σ H (.str z))(hz:z.length<=1000)(hs:fO src σ=none::none::rest)(p:Nat->Nat->Bool)(f:Nat->Nat->V)
  (ht:∀(i c:Nat)(H':Hp),z.cps.toList[i]? =some c->ak H H'->∀R:Bool->Hp->Prop,(∀H'',ak H' H''->R (p i c) H'')->tt (some (.int (i:Int))::some (.str (one c))::rest) H' R)
  (he:∀(i c:Nat)(H':Hp),z.cps.toList[i]? =some c->p i c=true->ak H H'->Ev te (some (.int (i:Int))::some (.str (one c))::rest) H' (f i c))
  (q:∀H' d,ak H H'->H' d=none->Q (.ref d) (upd H' d (.lst (DZ z.cps.toList p f z.length)))):tComp (wb K tl) (xF K 2 (iT (gName 0) (iT (gName 1) Bz))) tt te src σ H Q:=by
 refine hl _ ?_;show eG _ tt te src σ Q (xZ z) H;refine mW z.length (λi ys σ' H'=>ak H H'/\(∃o0 o1,σ'=o0::o1::rest)/\ys=DZ z.cps.toList p f i) (Tn hz (by decide)) (λi ys σ H h=>by rw[h.2.2];exact DY) (λi ys σ H h hi=>hi) (λys σ H h=>rfl) ⟨ak.refl H,⟨_,_,hs⟩,rfl⟩ ?_ ?_
 .rintro i ys _ H1 x H2 hi ⟨s1,⟨o0,o1,rfl⟩,rfl⟩ ⟨t,c,rfl,ht0,hc,rfl⟩ Kt Kf kt kf;have s2:ak H (upd H1 t (.tup [.int (i:Int),.str ⟨#[c]⟩])):=s1.upd ht0;refine⟨t,_,rfl,cr.of ah,rfl,_,_,rfl,_,_,rfl,rfl,?_⟩;have eg:z.cps.toList.getD i 0=c:=by rw[RH,hc];rfl
  show tt (some (.int (i:Int))::some (.str (one c))::rest) _ _;refine ht i c _ hc s2 _ (λH3 s3=>?_);cases hp:p i c with
  |true=>
   refine iR (he i c _ hc hp (s2.trans s3) _ (kt _ _ _ ⟨s2.trans s3,⟨_,_,rfl⟩,?_⟩));rw[sM,eg,hp,ND rfl]
  |false=>
   refine iB (kf _ _ ⟨s2.trans s3,⟨_,_,rfl⟩,?_⟩);rw[sM,eg,hp,NC (by simp),RP]
 .rintro ys σ' H' d ⟨s1,_,rfl⟩ hd;exact q H' d s1 hd
end
theorem xB(cs:List Nat):Rj ("":Str) (cs.map one)=⟨cs.toArray⟩:=by
 have key:∀(r:List Nat)(acc:Array Nat),(r.map one).foldl (λacc p=>acc++("":Str).cps++p.cps) acc=acc++r.toArray:=by
  intro r
  induction r with
  |nil=>intro acc;simp
  |cons a r ih=>
   intro acc;rw[RY,List.foldl_cons,ih];have e:("":Str).cps= #[]:=by decide+kernel
   rw[e];apply Ur.mp;simp[one]
 unfold Rj Builtin.Str.glued;cases cs with
 |nil=>rfl
 |cons a r=>
  show(⟨((r.map one).foldl (λacc p=>acc++("":Str).cps++p.cps) (one a).cps)⟩:Str)=_;rw[key];apply pc;simp[one]
def gN(row:Str)(s:Int)(sg:Str):Str:=j5 row none (some s)++sg++j5 row (some (s+1)) none
noncomputable def sqsOf(row:Str)(sd:Int):List Int:=((List.range row.length).filter λi=>decide (bP (row.cps.toList.getD i 0)=.int sd)).map λ(i:Nat)=>(i:Int)
theorem n9{row:Str}{s:Int}{c:Nat}(h0:0<=s)(h1:s<row.length):(gN row s (one c)).cps.toList=row.cps.toList.take s.toNat++[c]++row.cps.toList.drop (s.toNat+1):=by
 unfold gN;have e:s=((s.toNat:Nat):Int):=by lia
 have e1:s+1=((s.toNat+1:Nat):Int):=by lia
 rw[pd,pd,jb,jb];have hl:s.toNat<row.length:=by lia
 have f1:HT.sIx row.length row.length (some s)=s.toNat:=by rw[e,HT.sIx_nat];lia
 have f2:HT.sIx row.length 0 (some (s+1))=s.toNat+1:=by rw[e1,HT.sIx_nat];lia
 have f3:HT.sIx row.length 0 none=0:=rfl;have f4:HT.sIx row.length row.length none=row.length:=rfl;rw[f1,f2,f3,f4,SC,TJ];congr 1;rw[S9];rw[Sj,dN];exact Tj _
theorem jR{row:Str}{s:Int}{c:Nat}(h0:0<=s)(h1:s<row.length):(gN row s (one c)).length=row.length:=by rw[dN,n9 h0 h1,RI,RI,RV,Sj,<-dN];show min s.toNat row.length+1+(row.length - (s.toNat+1))=row.length;lia
def AA:Sp:=λvs H Q _=>∃(c:Nat)(sd:Int),vs=[.str (one c),.int sd]/\lG c/\Q (.str (one (if sd=0 then c - 32 else c))) H
def tN:Sp:=λvs H Q _=>∃c:Nat,vs=[.str (one c)]/\c<128/\∀H',ak H H'->Q (jm c) H'
def lZ:Sp:=λvs H Q _=>∃c:Nat,vs=[.str (one c)]/\c<128/\∀H',ak H H'->Q (bP c) H'
def GI:Sp:=λvs H Q _=>∃(row:Str)(s:Int)(c:Nat),vs=[.str row,.int s,.str (one c)]/\0<=s/\row.length<=100/\Q (.str (gN row s (one c))) H
def nX:Sp:=λvs H Q _=>∃(row:Str)(sd:Int),vs=[.str row,.int sd]/\row.length<=100/\(∀c∈row.cps.toList,c<128)/\∀(q:Addr)(H':Hp),H q=none->H' q=some (.lst ((sqsOf row sd).map V.int))->ak H H'->Q (.ref q) H'
section
variable{K:Frag}{σ:St}{H:Hp}{tb:TE}{t:TA}{op:O8}{R:Bool->Hp->Prop}{vs:List V}{sp:Sp}
theorem BO:Ev (tC (.str ".")) σ H (.str (one 46)):=by rw[<-C1];exact ar
theorem wg:Ev (tC (.str "#")) σ H (.str (one 35)):=by rw[<-Ax];exact ar
theorem BP(h:Av t σ H vs)(q:sp vs H (λx H1=>tb σ H1 λy H2=>fT K op x y H2 (cL R)) E0):ia (fG K op (fH sp t) tb) σ H R:=h _ q
end
theorem GO{σ:St}{H:Hp}{Q:VK}{to te:TE}{z:Str}{r:V->List V->Hp->VK->Prop}(ho:Ev to σ H (.str z))(q:te σ H λx H2=>r (.str z) [x] H2 Q):Nm r to (bx te df) σ H Q:=ho _ q
structure CP1(P:NP)(w:NT)(K:Frag)(mg:NH)(Ny:NZ):Prop where
 side_of:dg P w K mg Ny "side_of" ["sign"] 1 lZ
section
variable{K:Frag}{σ rest:St}{H:Hp}{te to ta tb tl:TE}{t:TA}{tt u:TT}{src:List (Option Nat)}{Q:VK}{R:Bool->Hp->Prop}{D:dq}{g:TG}{tB:TS}{v x y:V}{vs:List V}{sp:Sp}
theorem wf{b:Bool}(h:Ev te σ H (.bl b)):Ev (cB JI (bx te df)) σ H (.int (if b then 1 else 0)):=λQ q=>h _ q
theorem xN{ta:TA}{n:Int}(hl:∀Q:List V->Hp->Prop,(∀H',ak H H'->Q [.int n] H')->ta σ H Q)(h0:0<=n)(hz:n.toNat<=sizeLine)(h1:n<2 ^ 62)(hs:fO src σ=none::rest)(p:V->Bool)(f:V->V)
  (ht:∀(i:Nat) H',ak H H'->i<n.toNat->Tv tt (some (.int (0+(i:Int)))::rest) H' (p (.int (0+(i:Int))))) (he:∀(i:Nat) H',ak H H'->i<n.toNat->p (.int (0+(i:Int)))=true->Ev te (some (.int (0+(i:Int)))::rest) H' (f (.int (0+(i:Int)))))
  (q:∀H' d',ak H H'->H' d'=none->Q (.ref d') (upd H' d' (.lst ((((List.range n.toNat).map λ(i:Nat)=>V.int (0+(i:Int))).filter p).map f)))):tComp (mP ta) (gName 0) tt te src σ H Q:=by
 have hin:∀x∈(List.range n.toNat).map λ(i:Nat)=>V.int (0+(i:Int)),∃i:Nat,i<n.toNat/\x=.int (0+(i:Int)):=λx hx=>by obtain⟨i,hi,rfl⟩:=RA.mp hx;exact⟨i,RJ.mp hi,rfl⟩
 have hlen:((List.range n.toNat).map λ(i:Nat)=>V.int (0+(i:Int))).length=n.toNat:=by simp
 refine hl _ λH' s=>⟨n,rfl,by lia,h1,j7 (xs:=(List.range n.toNat).map λ(i:Nat)=>V.int (0+(i:Int))) (by rw[hlen];exact hz) hs p f (λi hi=>by rw[hlen]at hi;exact hi) (by rw[hlen];exact Tj _) (λi v H2 hi y=>⟨y.1,?_⟩) (λx hx=>?_) (λx hx hp=>?_) (λd' hd'=>q H' d' s hd')⟩
 .rw[hlen]at hi;rw[RE,Sb hi,y.2];rfl
 .obtain⟨i,hi,rfl⟩:=hin x hx;exact ht i H' s hi
 .obtain⟨i,hi,rfl⟩:=hin x hx;exact he i H' s hi hp
theorem kU{ta:TA}(n:Int)(hta:∀Q:List V->Hp->Prop,(∀H',ak H H'->Q [.int n] H')->ta σ H Q)(h0: -(2 ^ 62)<=n)(h1:n<2 ^ 62)(Pv:Nat->St->Hp->Prop)(hp0:∀H',ak H H'->Pv 0 σ H')
  (hs:∀i σ H,i<n.toNat->Pv i σ H->g (.int (0+i)) σ H λσ2 H2=>tB {D with nx:=Pv (i+1),ct:=Pv (i+1),bk:=D.nx} σ2 H2) (hd:∀σ H,Pv n.toNat σ H->D.nx σ H):tFor (mP ta) g tB D σ H:=
 hta _ λH' s=>⟨n,rfl,h0,h1,oG Pv (hp0 H' s) hs hd⟩
theorem vP{i:Int}{Q:List V->Hp->Prop}(h:Av t σ H vs)(hz:vs.length<=1000)(hi:∀H',Ev te σ H' (.int i))(e:km vs i=some v)(q:∀H',ak H H'->Q [v] H'):bx (Cd K (wL t) te) df σ H Q:=iQ (K:=K) (Q:=λx H1=>Q [x] H1) h hz hi e q
theorem lS{tc:TE}{z:V}(ha:Ev ta σ H x)(hb:Ev tb σ H y)(hc:Ev tc σ H z)(q:∀p,H p=none->Q (.ref p) (upd H p (.tup [x,y,z]))):Ar (bx ta (bx tb (bx tc df))) σ H Q:=ha _ (hb _ (hc _ ⟨by show 3<=sizeLine;decide,q⟩))
theorem Lr(h:Tv tt σ H false)(q:u σ H R):Ls tt u σ H R:=h _ (iB q)
theorem sE(P0:Addr->Hp->Prop)(htl:∀Q:VK,(∀d H',P0 d H'->Q (.ref d) H')->tl σ H Q)
  (h:∀d H',P0 d H'->∃xs,aY K H' d xs/\∃Pv:Nat->St->Hp->Prop,Pv 0 σ H'/\(∀i σ' H',Pv i σ' H'->aY K H' d xs)/\
   (∀(i:Nat) x σ' H' t,xs[i]? =some x->Pv i σ' H'->H' t=none->g (.ref t) σ' (upd H' t (.tup [.int (i:Int),x])) λσ2 H2=>tB {D with nx:=Pv (i+1),ct:=Pv (i+1),bk:=D.nx} σ2 H2)/\(∀σ' H',Pv xs.length σ' H'->D.nx σ' H')):tFor (wb K tl) g tB D σ H:=by
 refine htl _ λd H1 p1=>?_;obtain⟨xs,hq,Pv,hp0,hl,hs,hd⟩:=h d H1 p1;refine⟨⟨xs,hq⟩,λi m σ' H'=>m=xs.length - i/\i<=xs.length/\Pv i σ' H',⟨_,rfl,Tl _,hp0⟩,?_⟩;rintro i m σ' H' ⟨rfl,hi,pv⟩;have hS:=hl i σ' H' pv
 by_cases hlt:i<xs.length
 .refine .inr ⟨⟨xs,xs[i],hS,RC hlt⟩,Pv (i+1),λσ2 H2 p2=>⟨xs.length - (i+1),by lia,rfl,hlt,p2⟩,?_⟩;rintro x H2 ⟨t,w,rfl,ht,rfl,hx⟩;exact hs i w σ' H' t (hx xs hS) pv ht
 .have e:i=xs.length:=by lia
  subst e;exact .inl ⟨⟨xs,hS,Tj _⟩,hd σ' H' pv⟩
theorem l9{d:Addr}{xs:List V}{lo hi:Option Int}{tl' th:TO}(ha:Ev ta σ H (.ref d))(hl:∀Q:Option Int->Hp->Prop,Q lo H->tl' σ H Q)(hh:∀Q:Option Int->Hp->Prop,Q hi H->th σ H Q)(hx:aY K H d xs)(q:∀p,H p=none->Q (.ref p) (upd H p (.lst (cutV xs lo hi)))):My K ta tl' th σ H Q:=ha _ (hl _ (hh _ ⟨xs,hx,q⟩))
theorem mw{ns:List Int}{i:Int}(h0:0<=i)(h1:i<ns.length):∃n:Int,km (ns.map V.int) i=some (.int n)/\n∈ns:=by
 have hlt:i.toNat<ns.length:=by lia
 have e:(ns.map V.int)[i.toNat]? =some (.int ns[i.toNat]):=by rw[RE,RC hlt];rfl
 have q:=bO e;have ei:((i.toNat:Nat):Int)=i:=by lia
 rw[ei]at q;exact⟨_,q,RU hlt⟩
theorem ms{xs:List V}{i:Int}(h0:0<=i)(h1:i<xs.length):∃v,km xs i=some v/\v∈xs:=by
 have hlt:i.toNat<xs.length:=by lia
 have q:=bO (RC hlt);have ei:((i.toNat:Nat):Int)=i:=by lia
 rw[ei]at q;exact⟨_,q,RU hlt⟩
theorem Hl{i j:Nat}{d:Addr}{a b:V}{R:St->Hp->Prop}(h:H d=some (.tup [a,b]))(q:R ((σ.set i (some a)).set j (some b)) H):xF K 2 (iT (gName i) (iT (gName j) Bz)) (.ref d) σ H R:=⟨d,_,rfl,cr.of h,rfl,_,_,rfl,_,_,rfl,rfl,q⟩
theorem Mf{i j l:Nat}{d:Addr}{a b c:V}{R:St->Hp->Prop}(h:H d=some (.tup [a,b,c]))(q:R (((σ.set i (some a)).set j (some b)).set l (some c)) H):xF K 3 (iT (gName i) (iT (gName j) (iT (gName l) Bz))) (.ref d) σ H R:=⟨d,_,rfl,cr.of h,rfl,_,_,rfl,_,_,rfl,_,_,rfl,rfl,q⟩
theorem Kh(h:Av t σ H vs)(q:sp vs H (λx H1=>g x σ H1 D.nx) E0):tAsg (fH sp t) g D σ H:=h _ q
theorem BY{xs:List V}{lo hi:Option Int}{v:V}(h:v∈cutV xs lo hi):v∈xs:=SW (Ss h)
end
theorem AW:∀(n:Nat)(l:List Int),l.length<n->∃s:Nat,s<n/\¬((s:Int)∈l)
 |0,l,h=>by lia
 |n+1,l,h=>by
  by_cases m:((n:Nat):Int)∈l
  .have hl:=SX m;have hp:=SF m;obtain⟨s,h1,h2⟩:=AW n (l.erase ((n:Nat):Int)) (by lia);refine⟨s,by lia,λz=>h2 ?_⟩;exact(SY (by lia)).mpr z
  .exact⟨n,by lia,m⟩
noncomputable def fQ(wi hi:Int)(hs:List Int):List Int:=((List.range (wi*hi).toNat).map λ(i:Nat)=>(i:Int)).filter λi=> !decide (i∈hs)
theorem BE{wi hi:Int}{hs:List Int}{s:Int}(h:s∈fQ wi hi hs):0<=s/\s<wi*hi/\¬s∈hs:=by unfold fQ at h;rw[R0]at h;obtain⟨h1,h2⟩:=h;obtain⟨i,hi,rfl⟩:=RA.mp h1;have hi:=RJ.mp hi;refine⟨by lia,by lia,?_⟩;intro z;rw[NA z]at h2;cases h2
theorem xH{wi hi:Int}{hs:List Int}(h:(hs.length:Int)<wi*hi):0<(fQ wi hi hs).length:=by obtain⟨s,h1,h2⟩:=AW (wi*hi).toNat hs (by lia);refine SF (a:=(s:Int)) ?_;unfold fQ;rw[R0];refine⟨RA.mpr ⟨s,RJ.mpr h1,rfl⟩,?_⟩;rw[NB h2];rfl
def BD(hs:List Int):V->Bool
 | .int i=> !decide (i∈hs)
 |_=>false
theorem uL{wi hi:Int}{hs:List Int}:(((List.range (wi*hi).toNat).map λ(i:Nat)=>V.int (0+(i:Int))).filter (BD hs)).map (λv=>v)=(fQ wi hi hs).map V.int:=by
 unfold fQ;rw[List.map_id',Su,Su,RN];have e:(BD hs∘λ(i:Nat)=>V.int (0+(i:Int)))=((λi=> !decide (i∈hs))∘λ(i:Nat)=>(i:Int)):=by funext i;show(!decide (0+(i:Int)∈hs))= !decide ((i:Int)∈hs);rw[TU]
 rw[e];refine R9 λi _=>?_;show V.int (0+(i:Int))=V.int (i:Int);rw[TU]
def cellAt(ns:List Int)(k:Int):Int:=ns.getD k.toNat 0
def mixed(c k:Int):Int:=(c+7919*k+3)*48271 % 2147483647
noncomputable def ju(b s:Int)(n:Nat):List Nat:=(List.range n).map λ(k:Nat)=>97+((b+s*(k:Int)) % 26).toNat
theorem uE{b s:Int}{n:Nat}:∀c∈ju b s n,lG c:=by intro c hc;obtain⟨k,_,rfl⟩:=RA.mp hc;unfold lG;lia
theorem xw{b s:Int}{n:Nat}(hn:n<=6)(hs:s∈([1,3,5,7,9,11]:List Int)):(ju b s n).Nodup:=by
 unfold ju;rw[R4,RX];refine List.Pairwise.imp_of_mem ?_ (R4.mp SH);intro i j hi hj ne e;have hi:=RJ.mp hi;have hj:=RJ.mp hj;apply ne;simp only[RB,RW,or_false]at hs
 rcases hs with rfl|rfl|rfl|rfl|rfl|rfl
 all_goals omega
def strV(c:Nat):V:=.str (one c)
def jH(K:Frag):Sp:=λvs H Q _=>∃(a:Addr)(ns:List Int)(k:Int),vs=[.ref a,.int k]/\aY K H a (ns.map V.int)/\0<=k/\Q (.int (cellAt ns k)) H
def pi:Sp:=λvs H Q _=>∃c k:Int,vs=[.int c,.int k]/\Q (.int (mixed c k)) H
def re(K:Frag):Sp:=λvs H Q _=>∃(a:Addr)(ns:List Int),vs=[.ref a]/\aY K H a (ns.map V.int)/\∀(t q:Addr)(wi hi:Int)(hs:List Int)(H':Hp),1<=wi->wi<=8->1<=hi->hi<=8->H' t=some (.tup [.int wi,.int hi,.ref q])->H' q=some (.lst (hs.map V.int))->(∀h∈hs,0<=h/\h<wi*hi)->hs.Nodup->(hs.length:Int)<wi*hi->hs.length<=2->H q=none->H t=none->ak H H'->Q (.ref t) H'
def rc:Sp:=λvs H Q _=>∃c:Int,vs=[.int c]/\∀(q:Addr)(ks:List Nat)(H':Hp),H q=none->H' q=some (.lst (ks.map strV))->(∀k∈ks,lG k)->ks.Nodup->1<=ks.length->ks.length<=6->ak H H'->Q (.ref q) H'
structure LG1(P:NP)(w:NT)(K:Frag)(mg:NH)(Ny:NZ):Prop where
 _law_cell_at:dg P w K mg Ny "_law_cell_at" ["_law_script","_law_k"] 1 (jH K)
 _law_mixed:dg P w K mg Ny "_law_mixed" ["_law_cell","_law_k"] 1 pi
section
variable{κ:Type}[DecidableEq κ]
def uT(l:List κ)(x:κ):List κ:=if x∈l then l else l++[x]
def bX(val:Nat->κ):Nat->List κ
 |0=>[]
 |i+1=>uT (bX val i) (val i)
theorem jX(val:Nat->κ):∀i,(bX val i).length<=i
 |0=>Tj 0
 |i+1=>by
  have ih:=jX val i;show(uT (bX val i) (val i)).length<=i+1;unfold uT
  by_cases h:val i∈bX val i
  .rw[ND h];lia
  .rw[NC h,RI];show _+1<=_;lia
theorem mK(val:Nat->κ)(x:κ):∀i,x∈bX val i<->x∈(List.range i).map val
 |0=>by simp[bX]
 |i+1=>by
  have ih:=mK val x i;show x∈uT (bX val i) (val i)<->_;rw[Sq,RQ,RM,<-ih];unfold uT
  by_cases h:val i∈bX val i
  .rw[ND h]
   constructor
   .exact λz=>.inl z
   .rintro(z|z)
    .exact z
    .have:x=val i:=by simpa using z
     rw[this];exact h
  .rw[NC h,RM];simp
theorem mJ(val:Nat->κ):∀i,(bX val i).length=i<->((List.range i).map val).Nodup
 |0=>by simp[bX]
 |i+1=>by
  have ih:=mJ val i;have hle:=jX val i;have hm:=mK val (val i) i;show(uT (bX val i) (val i)).length=i+1<->_;rw[Sq,RQ,Sv];unfold uT
  by_cases h:val i∈bX val i
  .rw[ND h]
   constructor
   .intro z;lia
   .intro z;exact NG rfl (z.2.2 (val i) (hm.mp h) (val i) (by simp))
  .rw[NC h,RI]
   constructor
   .intro z;have z:(bX val i).length+1=i+1:=z;refine⟨ih.mp (by lia),by simp,λa ha b hb e=>h (hm.mpr ?_)⟩;have:b=val i:=by simpa using hb
    rw[<-this,<-e];exact ha
   .intro z;rw[ih.mpr z.1];rfl
end
section
variable{prog:NP}{w:NT}{A:N1}{R:Ra->NN->Prop}{I:Addr}{fp wr:List Addr}{G:Array P4->Array P4->Prop}{n:Nat}{Pt:Nat->Value->Prop}{St:Nat->NN->Prop}{κ:Type}[DecidableEq κ]{knd:KeyKind prog w κ}
theorem AJ(W:WalksS prog w A.in1 I fp wr G n Pt St)(D:Addr)(hD:D∉fp)(val:Nat->κ)(hv:∀i v,Pt i v->knd.is (val i) v=true/\v.scannable=true)(hb:n+1<scanBound):
  ∀(k i:Nat)(s:NN),n - i=k->i<=n->St i s->s.heap.SetOf knd D (λx=>decide (x∈bX val i)) (bX val i).length->
   (∀s2,Moved (D::wr) G s s2->s2.heap.SetOf knd D (λx=>decide (x∈bX val n)) (bX val n).length->R (.ok (.ret .none)) s2)->O7 (NX prog w) A (.builtin "set.update.loop" ⟨[.ref D,.ref I],[]⟩) R s:=by
 have nW:D∉wr:=λz=>hD (W.sub _ z);have up:∀b∈wr,b∈D::wr:=λb z=>RF _ z;have mv:∀{s s2:NN}{S:κ->Bool}{m:Nat},Moved wr G s s2->s.heap.SetOf knd D S m->s2.heap.SetOf knd D S m:=λ{s s2 S m} hm ⟨o,es,ep,t,ho,r⟩=>⟨o,es,ep,t,hm.heap D _ nW ho,r⟩;intro k
 induction k with
 |zero=>
  intro i s e1 e2 st hS hR;have e3:i=n:=by lia
  subst e3;refine Oc OV ?_;rw[Ob Os _];show NS _ A.in1 (Pb (.ref I) >>= _) _ _ s;refine NK (W.done s _ _ st λs2 hm=>?_);show NS _ A.in1 (ret OE) _ _ s2;exact NL (hR s2 (hm.mono up) (mv hm hS))
 |succ k ih=>
  intro i s e1 e2 st hS hR;have e3:i<n:=by lia
  refine Oc OV ?_;rw[Ob Os _];show NS _ A.in1 (Pb (.ref I) >>= _) _ _ s;refine NK (W.item i s _ _ e3 st λv s2 hp st2 hm=>?_);obtain⟨kv,sv⟩:=hv i v hp;have hS2:=mv hm hS;show NS _ A.in1 (Qc [v] (setAdd D v) >>= _) _ _ s2;refine NK (N4 ?_);unfold setAdd;refine N4 (NK (knd.pyHash (k:=val i) kv ?_));have room:(bX val i).length+1<scanBound:=by have:=jX val i;lia
  refine wpAny_setAddHashed_of (knd:=knd) (s:={s2 with toks:=s2.toks+1}) kv sv hS2 room λh2 sb hS3=>?_;have hS4:h2.SetOf knd D (λx=>decide (x∈bX val (i+1))) (bX val (i+1)).length:=by
   refine SetOf_congr hS3 (λx=>?_) ?_
   .show(decide (x∈bX val i)||decide (x=val i))=decide (x∈uT (bX val i) (val i))
    unfold uT
    by_cases m:val i∈bX val i
    .rw[ND m]
     by_cases e:x=val i
     .subst e;rw[NA m];simp
     .rw[NB e,Ub]
    .rw[NC m,T7];simp
   .show(if decide (val i∈bX val i)=true then _ else _)=(uT (bX val i) (val i)).length;unfold uT
    by_cases m:val i∈bX val i
    .rw[ND (NA m),ND m]
    .rw[NC (by rw[NB m];decide),NC m,RI];rfl
  refine NL ⟨O4 Os _,ih (i+1) _ (by lia) e3 (W.frame _ s2 _ _ st2 (Tp _) λb hb o e=>?_) hS4 λs3 hm3 hS5=>?_⟩
  .exact(sb.2 b (λz:b=D=>hD (z▸hb))).trans e
  .refine hR s3 (Moved.trans W.gtrans ((hm.mono up).then_heap (Tp _) λb o hb e=>?_) hm3) hS5;exact(sb.2 b (λz:b=D=>hb (by rw[z];exact RK))).trans e
end
section
variable{prog:NP}{w:NT}{A:N1}{E:NI}{s:NN}{κ:Type}[DecidableEq κ]{knd:KeyKind prog w κ}
abbrev cw(led:Bool):Obj:={cls:=.type "set",dict:=none,data:=.set #[] 0 (.fresh 0 0 led)}
theorem AI{l:Addr}{its:Array Value}{Q:NI}(val:Nat->κ)(hh:A.handled=none)(hl:s.heap.IsList l its)(hv:∀i v,its[i]? =some v->knd.is (val i) v=true/\v.scannable=true)(hb:its.size+1<scanBound)
  (k:∀(h2:NZ)(tk:Nat),h2.SetOf knd s.heap.objs.size (λx=>decide (x∈bX val its.size)) (bX val its.size).length->(∀b o,b<s.heap.objs.size->s.heap.get? b=some o->h2.get? b=some o)->Q (.ref s.heap.objs.size) {s with heap:=h2,toks:=tk}):
  NS (NX prog w) A (call (.type "set") [.ref l]) Q E s:=by
 obtain⟨c0,tl0,hmro⟩:=F.called_set.mro;have hmade:=F.called_set.made;have hsub:=F.called_set.sub;have n1:=F.called_set.notType;have n2:=F.called_set.canCreate;have n3:=F.typeCall_set_1 (.ref l);refine Pm (QC ?_);show NS _ _ (callAny (.type "set") _) _ _ _;refine NL ⟨P5 _ (by decide+kernel),Oc F.entry_type_call ?_⟩;rw[Around.under_plain (QH "set" [.ref l] []) rfl]
 repeat (any_goals (first|assumption|wp_step))
 refine Ou (code_set_new_1 (.ref l) (E:=E) (Q₁:=λo s1=>∃led:Bool,o=.ref s.heap.objs.size/\s1={s with heap:=s.heap.push (cw led)}) λled=>⟨led,rfl,rfl⟩) λr s1 hr=>?_;cases r with
 |error e=>exact hr
 |ok fl=>
  cases fl with
  |ret ob=>
   obtain⟨led,rfl,rfl⟩:=hr;have g0:(s.heap.push (cw led)).get? s.heap.objs.size=some (cw led):=NW _ rfl;have ty:PC {s with heap:=s.heap.push (cw led)} (.ref s.heap.objs.size) "set":=⟨_,g0,rfl⟩;have m1:=F.called_set.init.lookup;have m2:=F.called_set.init.bind (.ref s.heap.objs.size)
   repeat (any_goals (first|assumption|wp_step))
   refine Ou (Pd (R:=wants (λr s2=>r=.none/\∃h2 tk,s2={s with heap:=h2,toks:=tk}/\h2.SetOf knd s.heap.objs.size (λx=>decide (x∈bX val its.size)) (bX val its.size).length/\
     (∀b o,b<s.heap.objs.size->s.heap.get? b=some o->h2.get? b=some o)) E) F.called_set.init.plain F.entry_set_init (check_set_init_1 ty ?_)) λr2 s2 hr2=>?_
   .obtain⟨⟨oc,od,oda,osl⟩,ho,hc,nl,hd⟩:=hl;simp only at hc hd;subst hc;subst hd;have hol:(s.heap.push (cw led)).get? l=some {cls:=.type "list",dict:=od,data:=.seq its nl,slots:=osl}:=NO _ ho;have b1:=F.sub_list_set;have b2:=F.sub_list_frozenset;have b3:(P2 "list" == P2 "dict")=false:=by decide
    have hl1:(s.heap.push (cw led)).IsList l its:=⟨_,hol,rfl,nl,rfl⟩;unfold OL.«set.__init__» noKeywords PK;generalize hPI:pyIter=PI
    wp_walk
    subst hPI;refine OO hl1 (NK (QL ?_));have hlt:l<s.heap.objs.size:=NQ ho;have h3:A.in1.in1.in1.handled=none:=by simp[hh]
    have sz:(s.heap.push (cw led)).objs.size=s.heap.objs.size+1:=Op ..;have ne1:l≠(s.heap.push (cw led)).objs.size:=by rw[sz];exact Tk (Tw hlt)
    have ne2:s.heap.objs.size∉[(s.heap.push (cw led)).objs.size,l]:=by
     rw[sz];intro z
     rcases RB.mp z with z|z
     .exact TB _ z.symm
     .exact Tr hlt (RL.mp z)
    refine AJ (knd:=knd) ((Q7 h3 _ l ne1 its).toS) s.heap.objs.size ne2 val hv hb (its.size - 0) 0 _ (by lia) (Tl _) ⟨⟨_,NW _ rfl,rfl,rfl⟩,(hl1.push _)⟩ ?_ (λs3 hm hS3=>?_)
    .refine SetOf_congr ((setObjOf_fresh (knd:=knd) led).setOf (NO _ g0) (by unfold scanBound;lia)) (λx=>?_) rfl;show false=decide (x∈([]:List κ));simp
    .obtain⟨hh3,gg3,dd3,tk3,os3⟩:=s3;obtain rfl:gg3=s.gens:=hm.gens;obtain rfl:dd3=s.drawn:=hm.drawn;obtain rfl:os3=s.os:=hm.os;show NS _ _ _ _ _ _;refine NL ?_;show NS _ _ (ret OE) _ _ _;refine NL ⟨rfl,hh3,tk3,rfl,hS3,λb o hb2 e=>?_⟩;refine hm.heap b o ?_ (NO _ (NO _ e));rw[sz];intro z
     rcases RB.mp z with z|z
     .exact Tk hb2 z
     .exact Tk (Tw hb2) (RL.mp z)
   .cases r2 with
    |error e=>exact hr2
    |ok fl2=>
     cases fl2 with
     |ret r3=>
      obtain⟨rfl,h2,tk,rfl,hS2,kp⟩:=hr2
      repeat (any_goals (first|assumption|wp_step))
      exact k _ _ hS2 kp
     |_=>exact hr2.elim
  |_=>exact hr.elim
end
def lf(ss:List Str):List Str:=bX (λi=>ss.getD i O5) ss.length
theorem iX(ss:List Str):(lf ss).length=ss.length<->ss.Nodup:=by
 unfold lf;rw[mJ];have e:(List.range ss.length).map (λi=>ss.getD i O5)=ss:=by
  apply So;intro i;rw[RE]
  by_cases h:i<ss.length
  .rw[Sb h,RC h];show some (ss.getD i O5)=_;rw[RH,RC h];rfl
  .rw[R5 (by rw[Sa];lia),R5 (by lia)];rfl
 rw[e]
section
variable{X:Cx}
def vM(K:Frag)(xs:List V)(H:Hp)(Q:VK):Prop:=match xs with
 | [.ref d]=>∃ss:List Str,aY K H d (ss.map V.str)/\ss.length+1<scanBound/\∀q φ,H q=none->(∀h:NZ,φ h->∃(o:Obj)(es:Array (Int×Value))(ep:Nat)(t:SetTable),h.get? q=some o/\o.ExactSet/\o.data=.set es ep t/\t.fits es.size=true/\es.size=(lf ss).length)->Q (.ref q) (upd H q (.ext φ))
 |_=>False
theorem uY(hh:X.A.handled=none):bn X (.type "set") (vM X.K):=by
 intro gV s σ H xs us Q I r h;unfold vM at h;split at h
 .rename_i d;obtain⟨ss,hq,hb,q⟩:=h;obtain⟨u,rfl,rx⟩:=dL r;cases rx;obtain⟨its,r',pl,hz⟩:=I.list hq;have hlen:=r'.length;rw[Rz]at hlen;have hs:its.toArray.size=ss.length:=by rw[RD,<-hlen]
  refine AI (knd:=PySem.strKind X.prog X.w) (λi=>ss.getD i O5) hh pl.isList (λi v hv=>?_) (by rw[hs];exact hb) λh2 tk hS kp=>?_
  .rw[SU]at hv;have hi:i<its.length:=(RO.mp hv).1;have hx:(ss.map V.str)[i]? =some (.str (ss.getD i O5)):=by rw[RE,RH,RC (by lia)];rfl
   obtain⟨u,hu,ru⟩:=r'.get hx;rw[hv]at hu;cases hu;obtain⟨t,rfl⟩:=ru;exact⟨by simp[PySem.strKind,QY],rfl⟩
  .rw[hs]at hS;have k2:∀b u,s.heap.get? b=some u->h2.get? b=some u:=λb u e=>kp b u (NQ e) e;obtain⟨o,es,ep,t,h1,h2',h3,_,_,h6,h7,h8⟩:=hS;refine⟨.ref s.heap.objs.size,upd H s.heap.objs.size (.ext λh=>h.get? s.heap.objs.size=some o),I.laid (t':=tk) k2 (Tj _) ?_,rfl,q _ _ (I.hok.fresh (Tj _)) λh e=>⟨o,es,ep,t,e,h2',h3,h7,h8⟩⟩;exact⟨h1,⟨o,h1⟩,λh1 h2 e k=>k o e⟩
 .exact h.elim
def Bf(xs:List V)(H:Hp)(Q:VK):Prop:=match xs with
 | [.ref d]=>∃(φ:NZ->Prop)(n:Nat),H d=some (.ext φ)/\n<=1000/\(∀h:NZ,φ h->∃(o:Obj)(es:Array (Int×Value))(ep:Nat)(t:SetTable),h.get? d=some o/\o.ExactSet/\o.data=.set es ep t/\t.fits es.size=true/\es.size=n)/\Q (.int n) H
 |_=>False
theorem m5:bn X (.builtin "len") Bf:=by
 intro gV s σ H xs us Q I r h;unfold Bf at h;split at h
 .rename_i d;obtain⟨φ,n,hd,hn,hφ,q⟩:=h;obtain⟨u,rfl,rx⟩:=dL r;cases rx;obtain⟨p,_,_⟩:=(show bH X.prog X.w H s.heap d (.ext φ)from I.hok d _ hd);obtain⟨o,es,ep,t,h1,h2,h3,h4,h5⟩:=hφ _ p;subst h5;exact PySem.call_len_set h1 h2 h3 h4 (by lia) ⟨.int es.size,H,I.tok _,⟨_,rfl⟩,q⟩
 .exact h.elim
theorem He(K:Frag){j:Nat}(hr:cI j X.A)(hK:X.K=K:=by rfl):bn X (.type "set") (vM K):=by subst hK;exact uY hr.hd
end
theorem rZ{K:Frag}{σ:St}{H:Hp}{Q:VK}{te:TE}{d:Addr}{ss:List Str}(h:Ev te σ H (.ref d))(hd:aY K H d (ss.map V.str))(hl:ss.length<=1000)(q:∀H',ak H H'->Q (.int (lf ss).length) H'):cB Bf (bx (cB (vM K) (bx te df)) df) σ H Q:=
 h _ ⟨ss,hd,by show ss.length+1<4096;lia,λp φ hp hφ=>⟨φ,_,ah,Tn (jX _ _) hl,hφ,q _ ((ak.refl H).upd hp)⟩⟩
section
variable{X:Cx}
theorem wZ(ks:List Bool):(List.range ks.length).any (λi=>ks.getD i false)=ks.any id:=by
 rw[T7,R6,R6]
 constructor
 .rintro⟨i,hi,e⟩;have hi:=RJ.mp hi;rw[RH,RC hi]at e;exact⟨_,RU hi,e⟩
 .rintro⟨b,hb,e⟩;obtain⟨i,hi,e2⟩:=Ta.mp hb;refine⟨i,RJ.mpr hi,?_⟩;rw[RH,RC hi,e2];exact e
def Ki(K:Frag)(xs:List V)(H:Hp)(Q:VK):Prop:=match xs with
 | [.ref d]=>∃ks:List Bool,aY K H d (ks.map V.bl)/\Q (.bl (ks.any id)) H
 |_=>False
theorem xT(hc:X.calm=true):bn X (.builtin "any") (Ki X.K):=by
 intro gV s σ H xs us Q I r h;unfold Ki at h;split at h
 .rename_i p;obtain⟨ks,hp,q⟩:=h;obtain⟨u,rfl,ru⟩:=dL r;cases ru;obtain⟨its,rv,pl,hl⟩:=I.list hp;have hlen:=rv.length;rw[Rz]at hlen;refine call_any_walk (OO pl.isList ?_);have hne:p≠s.heap.objs.size:=by obtain⟨o,ho,_⟩:=pl.isList;exact Tk (NQ ho)
  have W:=Q7 (prog:=X.prog) (w:=X.w) (A:=X.A.in1) (show X.A.in1.handled=none from I.ok.hd hc) s.heap.objs.size p hne its.toArray;have hpush:∀o b ob,s.heap.get? b=some ob->(s.heap.push o).get? b=some ob:=λo b ob e=>NO _ e;refine⟨_,_,_,_,_,_,λi=>ks.getD i false,rfl,W,⟨⟨_,NW _ rfl,rfl,rfl⟩,pl.isList.at λo e=>hpush _ _ o e⟩,qU rv,λh' tk k=>?_⟩;have e:(List.range its.toArray.size).any (λi=>ks.getD i false)=ks.any id:=by rw[<-wZ,RD,<-hlen]
  rw[e];refine⟨.bl _,H,I.kept (t':=tk) (h':=h') λb ob e=>k b ob ?_ (hpush _ b ob e),rfl,q⟩;intro hb;have:b=s.heap.objs.size:=by simpa using hb
  subst this;exact NG (NQ e) (Tq _)
 .exact h.elim
theorem Nb(K:Frag)(hc:X.calm=true:=by rfl)(hK:X.K=K:=by rfl):bn X (.builtin "any") (Ki K):=by subst hK;exact xT hc
end
def Thg(H:Hp):V->Prop
 | .non=>True
 | .bl _=>True
 | .int _=>True
 | .str z=>z.length<=1000
 | .ref a=>(∃xs,H a=some (.lst xs))\/(∃xs,H a=some (.tup xs))\/(∃kvs,H a=some (.dK kvs))
 |_=>False
noncomputable def mM(T:BT)(H:Hp):V->Bool
 | .bl _=>dF .bool T
 | .int _=>dF .int T
 | .str _=>dF .str T
 | .ref a=>match H a with
   |some (.lst _)=>dF .list T
   |some (.tup _)=>dF .tuple T
   |some (.dK _)=>dF .dict T
   |_=>false
 |_=>false
def tupOf(H:Hp):V->Option (List V)
 | .ref a=>match H a with
   |some (.tup xs)=>some xs
   |_=>none
 |_=>none
def lstOf(H:Hp):V->Option (List V)
 | .ref a=>match H a with
   |some (.lst xs)=>some xs
   |_=>none
 |_=>none
def fV(H:Hp):Nat->V->Prop
 |0,v=>Thg H v
 |n+1,v=>Thg H v/\∀xs,(tupOf H v=some xs\/lstOf H v=some xs)->∀x∈xs,fV H n x
theorem fV.thg{H:Hp}{n:Nat}{v:V}(h:fV H n v):Thg H v:=by
 cases n with
 |zero=>exact h
 |succ n=>exact h.1
def Aj:V->Bool
 | .int _=>true
 |_=>false
def amongB(v:V)(a b:Int):Bool:=match v with
 | .int i=>decide (a<=i/\i<=b)
 |_=>false
def wordB(v:V)(ws:List Str):Bool:=match v with
 | .str z=>decide (z∈ws)
 |_=>false
section
variable{K:Frag}{σ:St}{H H':Hp}{te ta tb:TE}{v:V}{T:BT}{ws:List Str}
theorem Thg.same(h:Thg H v)(s:ak H H'):Thg H' v:=by
 cases v with
 |ref a=>
  rcases h with⟨xs,e⟩|⟨xs,e⟩|⟨xs,e⟩
  .exact .inl ⟨xs,s _ _ e⟩
  .exact .inr (.inl ⟨xs,s _ _ e⟩)
  .exact .inr (.inr ⟨xs,s _ _ e⟩)
 |_=>exact h
theorem fX(h:Thg H v)(s:ak H H'):tupOf H' v=tupOf H v:=by
 cases v with
 |ref a=>
  rcases h with⟨xs,e⟩|⟨xs,e⟩|⟨xs,e⟩<;>simp only[tupOf,e,s _ _ e]
 |_=>rfl
theorem il(h:Thg H v)(s:ak H H'):lstOf H' v=lstOf H v:=by
 cases v with
 |ref a=>
  rcases h with⟨xs,e⟩|⟨xs,e⟩|⟨xs,e⟩<;>simp only[lstOf,e,s _ _ e]
 |_=>rfl
theorem fV.same{n:Nat}:∀{v:V},fV H n v->ak H H'->fV H' n v:=by
 induction n with
 |zero=>intro v h s;exact Thg.same h s
 |succ n ih=>
  intro v h s;refine⟨h.1.same s,λxs hx x hm=>ih (h.2 xs ?_ x hm) s⟩;rw[fX h.1 s,il h.1 s]at hx;exact hx
theorem ie{xs:List V}(h:tupOf H v=some xs):∃a,v=.ref a/\H a=some (.tup xs):=by
 cases v with
 |ref a=>
  simp only[tupOf]at h;split at h
  .rename_i e;cases h;exact⟨a,rfl,e⟩
  .cases h
 |_=>cases h
theorem gr{xs:List V}(h:lstOf H v=some xs):∃a,v=.ref a/\H a=some (.lst xs):=by
 cases v with
 |ref a=>
  simp only[lstOf]at h;split at h
  .rename_i e;cases h;exact⟨a,rfl,e⟩
  .cases h
 |_=>cases h
theorem oK(h:Ev te σ H v)(t:Thg H v):Ev (J9 T te) σ H (.bl (mM T H v)):=λQ q=>h _ (by
 cases v with
 |ref a=>
  rcases t with⟨xs,e⟩|⟨xs,e⟩|⟨xs,e⟩<;>(simp only[Bp,e];simp only[mM,e]at q;exact q)
 |non=>exact q
 |bl b=>exact q
 |int b=>exact q
 |str b=>exact q
 |_=>exact t.elim)
theorem Ai(t:Thg H v):(mM .int H v&& !mM .bool H v)=Aj v:=by
 cases v with
 |ref a=>rcases t with⟨xs,e⟩|⟨xs,e⟩|⟨xs,e⟩<;>(simp only[mM,e];rfl)
 |non=>rfl
 |bl b=>rfl
 |int b=>rfl
 |str b=>rfl
 |_=>exact t.elim
theorem Aw(t:Thg H v):mM .str H v=(match v with| .str _=>true|_=>false):=by
 cases v with
 |ref a=>rcases t with⟨xs,e⟩|⟨xs,e⟩|⟨xs,e⟩<;>(simp only[mM,e];rfl)
 |non=>rfl
 |bl b=>rfl
 |int b=>rfl
 |str b=>rfl
 |_=>exact t.elim
theorem IB(t:Thg H v):mM .tuple H v=(tupOf H v).isSome:=by
 cases v with
 |ref a=>rcases t with⟨xs,e⟩|⟨xs,e⟩|⟨xs,e⟩<;>(simp only[mM,tupOf,e];rfl)
 |non=>rfl
 |bl b=>rfl
 |int b=>rfl
 |str b=>rfl
 |_=>exact t.elim
theorem Jw(t:Thg H v):mM .list H v=(lstOf H v).isSome:=by
 cases v with
 |ref a=>rcases t with⟨xs,e⟩|⟨xs,e⟩|⟨xs,e⟩<;>(simp only[mM,lstOf,e];rfl)
 |non=>rfl
 |bl b=>rfl
 |int b=>rfl
 |str b=>rfl
 |_=>exact t.elim
theorem Bq(z:Str)(ws:List Str):DI (.str z) (ws.map V.str)=decide (z∈ws):=by
 unfold DI;rw[SD]
 by_cases h:z∈ws
 .rw[NA h];exact R6.mpr ⟨z,h,by simp[eqV]⟩
 .rw[NB h];apply Sd.mpr;intro y hy;have:y≠z:=λe=>h (e▸hy);simp[eqV,this]
theorem xI(ss:List Str):(ss.map V.str).all flatV=true:=R1.mpr λx hx=>by obtain⟨z,_,rfl⟩:=RA.mp hx;rfl
theorem BM{z:Str}{p:Addr}(ha:Ev ta σ H (.str z))(hb:Ev tb σ H (.ref p))(h:aY K H p (ws.map V.str)\/cr K H p (ws.map V.str)):Ev (fG K .In ta tb) σ H (.bl (decide (z∈ws))):=λQ q=>ha _ (hb _ (by
 show fT K .In (.str z) (.ref p) H Q;rw[jQ];refine⟨p,_,rfl,h,rfl,xI ws,?_⟩;rw[Bq];exact q))
end
def sortsL:List Str:=["leap","slide","jump"]
def aimsL:List Str:=["go","hit","any"]
def iA:List Str:=["without","home"]
def iG:List Str:=["lost","even","won"]
def tupB(H:Hp)(v:V)(n:Int):Bool:=match tupOf H v with
 |some xs=>decide ((xs.length:Int)=n)
 |none=>false
def kP(H:Hp)(v:V)(a b:Int):Bool:=match lstOf H v with
 |some xs=>decide (a<=(xs.length:Int)/\(xs.length:Int)<=b)
 |none=>false
def limS(so:Str):Int:=if so="leap"then 3 else 1
def lg(so:Str)(x y:V):Bool:=amongB x (-limS so) (limS so)&&amongB y (-limS so) (limS so)&& !(decide (x=.int 0)&&decide (y=.int 0))
noncomputable def jg(xs:List V)(ws:List Str):Bool:=match xs with
 | [k,.str so,.str ai,x,y]=>wordB k ws&&decide (so∈sortsL)&&decide (ai∈aimsL)&& !(decide (so="jump")&& !decide (ai="hit"))&&lg so x y
 |_=>false
def dY(H:Hp)(v:V)(ws:List Str):Bool:=match tupOf H v with
 |some xs=>jg xs ws
 |none=>false
def rK(xs:List V)(A B:List Str):Bool:=match xs with
 | [a,b]=>wordB a A&&wordB b B
 |_=>false
def eA(H:Hp)(v:V)(A B:List Str):Bool:=match tupOf H v with
 |some xs=>rK xs A B
 |none=>false
def pairsB(H:Hp)(v:V)(A B:List Str):Bool:=match lstOf H v with
 |some vs=>decide (vs.length<=6)&&vs.all (λx=>eA H x A B)
 |none=>false
def cA(H:Hp)(v:V):Str:=match tupOf H v with
 |some (.str a::_)=>a
 |_=>O5
def gS(H:Hp)(v:V):Str:=match tupOf H v with
 |some (_:: .str b::_)=>b
 |_=>O5
noncomputable def fW(H:Hp)(v:V)(ws:List Str):Bool:=pairsB H v ws ws&&match lstOf H v with
 |some vs=> !(vs.any λx=>decide (gS H x∈vs.map (cA H)))&&decide ((vs.map (cA H)).Nodup)
 |none=>false
def lY:Sp:=λvs H Q _=>∃v,vs=[v]/\Thg H v/\Q (.bl (Aj v)) H
def l7:Sp:=λvs H Q _=>∃v a b,vs=[v,.int a,.int b]/\Thg H v/\Q (.bl (amongB v a b)) H
def iC(K:Frag)(H:Hp)(d:Addr)(ws:List Str):Prop:=aY K H d (ws.map V.str)\/cr K H d (ws.map V.str)
def iY(K:Frag):Sp:=λvs H Q _=>∃v d ws,vs=[v,.ref d]/\Thg H v/\iC K H d ws/\Q (.bl (wordB v ws)) H
def kC:Sp:=λvs H Q _=>∃v n,vs=[v,.int n]/\Thg H v/\Q (.bl (tupB H v n)) H
def pj:Sp:=λvs H Q _=>∃v a b,vs=[v,.int a,.int b]/\Thg H v/\Q (.bl (kP H v a b)) H
def vB:Sp:=λvs H Q _=>∃so x y,vs=[.str so,x,y]/\Thg H x/\Thg H y/\Q (.bl (lg so x y)) H
def vC(K:Frag):Sp:=λvs H Q _=>∃v d ws,vs=[v,.ref d]/\fV H 1 v/\iC K H d ws/\Q (.bl (dY H v ws)) H
def vD(K:Frag):Sp:=λvs H Q _=>∃v d e A B,vs=[v,.ref d,.ref e]/\fV H 1 v/\iC K H d A/\iC K H e B/\Q (.bl (eA H v A B)) H
def q9(K:Frag):Sp:=λvs H Q _=>∃v d e A B,vs=[v,.ref d,.ref e]/\fV H 2 v/\iC K H d A/\iC K H e B/\∀H',ak H H'->Q (.bl (pairsB H v A B)) H'
def qY(K:Frag):Sp:=λvs H Q _=>∃v d ws,vs=[v,.ref d]/\fV H 2 v/\iC K H d ws/\∀H',ak H H'->Q (.bl (fW H v ws)) H'
def vJ(K:Frag):Sp:=λvs H Q _=>∃v d ws,vs=[v,.ref d]/\fV H 2 v/\iC K H d ws/\∀H',ak H H'->Q (.bl (pairsB H v iA ws)) H'
theorem Ci{σ:St}{H:Hp}{Q:VK}{ta tb:TE}{a:Bool}(ha:Ev ta σ H (.bl a))(h1:a=true->tb σ H Q)(h2:a=false->Q (.bl false) H):wx ta tb σ H Q:=ha _ (by
 cases a with
 |true=>exact h1 rfl
 |false=>exact h2 rfl)
theorem B4{K:Frag}{σ:St}{H:Hp}{Q:VK}{ta tb:TE}{op:O8}(h:ta σ H λx H1=>tb σ H1 λy H2=>fT K op x y H2 Q):fG K op ta tb σ H Q:=h
theorem xg{H:Hp}{v:V}{A B:List Str}(h:pairsB H v A B=true):∃xs,lstOf H v=some xs/\xs.length<=6/\∀x∈xs,∃c f1 f2,x=.ref c/\H c=some (.tup [.str f1,.str f2]):=by
 unfold pairsB at h;cases e1:lstOf H v with
 |none=>rw[e1]at h;cases h
 |some xs=>
  rw[e1]at h;have h:(decide (xs.length<=6)&&xs.all (λx=>eA H x A B))=true:=h;rw[T6]at h;refine⟨xs,rfl,NE h.1,λx hx=>?_⟩;have hp:=R1.mp h.2 x hx;unfold eA at hp;cases e2:tupOf H x with
  |none=>rw[e2]at hp;cases hp
  |some ys=>
   rw[e2]at hp;obtain⟨c,rfl,hc⟩:=ie e2;have hp:rK ys A B=true:=hp
   match ys,hp,hc with
   | [a,b],hp,hc=>
     have hp:(wordB a A&&wordB b B)=true:=hp;rw[T6]at hp;cases a with
     |str f1=>
      cases b with
      |str f2=>exact⟨c,f1,f2,rfl,hc⟩
      |_=>cases hp.2
     |_=>cases hp.1
   | [],hp,_=>cases hp
   | [_],hp,_=>cases hp
   |_::_::_::_,hp,_=>cases hp
structure RG0(P:NP)(w:NT)(K:Frag)(mg:NH)(Ny:NZ):Prop where
 is_whole:dg P w K mg Ny "is_whole" ["thing"] 1 lY
structure RG1(P:NP)(w:NT)(K:Frag)(mg:NH)(Ny:NZ):Prop where
 is_among:dg P w K mg Ny "is_among" ["thing","least","most"] 2 l7
structure RG2(P:NP)(w:NT)(K:Frag)(mg:NH)(Ny:NZ):Prop where
 is_word:dg P w K mg Ny "is_word" ["thing","words"] 1 (iY K)
 is_tuple_of:dg P w K mg Ny "is_tuple_of" ["thing","many"] 1 kC
structure RG3(P:NP)(w:NT)(K:Frag)(mg:NH)(Ny:NZ):Prop extends RG2 P w K mg Ny where
 is_step:dg P w K mg Ny "is_step" ["sort","across","up"] 3 vB
structure RG4(P:NP)(w:NT)(K:Frag)(mg:NH)(Ny:NZ):Prop where
 is_list_of:dg P w K mg Ny "is_list_of" ["thing","least","most"] 1 pj
 is_pair:dg P w K mg Ny "is_pair" ["thing","firsts","seconds"] 2 (vD K)
structure RG5(P:NP)(w:NT)(K:Frag)(mg:NH)(Ny:NZ):Prop where
 are_pairs:dg P w K mg Ny "are_pairs" ["thing","firsts","seconds"] 3 (q9 K)
def letB:V->Bool
 | .str z=>match z.cps.toList with
   | [c]=>decide (97<=c/\c<=122)
   |_=>false
 |_=>false
def iH:V->Str
 | .str z=>z
 |_=>O5
noncomputable def mL(H:Hp)(v:V):Bool:=match lstOf H v with
 |some xs=>decide (1<=xs.length/\xs.length<=6)&&xs.all letB&&decide ((xs.map iH).Nodup)
 |none=>false
def fI(H:Hp)(v:V)(ws:List Str):Bool:=match lstOf H v with
 |some xs=>decide (xs.length<=24)&&xs.all (λx=>dY H x ws)
 |none=>false
theorem Lw:("a":Str).cps.toList=[97]:=by decide+kernel
theorem Lv:("z":Str).cps.toList=[122]:=by decide+kernel
theorem Jv{c d:Nat}:([c]<[d])<->c<d:=by
 constructor
 .intro h;cases h with
  |rel h=>exact h
  |cons h=>cases h
 .intro h;exact List.Lex.rel h
theorem DW{K:Frag}{σ:St}{H:Hp}{ta tb tc:TE}{x y z:Str}(ha:Ev ta σ H (.str x))(hb:Ev tb σ H (.str y))(hc:Ev tc σ H (.str z)):Ev (qE K .LtE .LtE ta tb tc) σ H (.bl (!decide (y.cps.toList<x.cps.toList)&& !decide (z.cps.toList<y.cps.toList))):=λQ q=>ha _ (hb _ (by
 show fT K .LtE (.str x) (.str y) H _;rw[w5,r_b];cases h: !decide (y.cps.toList<x.cps.toList)with
 |true=>
  rw[h]at q;exact hc _ q
 |false=>
  rw[h]at q;exact q))
def nZ:Sp:=λvs H Q _=>∃v,vs=[v]/\Thg H v/\Q (.bl (letB v)) H
def rf:Sp:=λvs H Q _=>∃v,vs=[v]/\fV H 1 v/\∀H',ak H H'->Q (.bl (mL H v)) H'
def q8(K:Frag):Sp:=λvs H Q _=>∃v d ws,vs=[v,.ref d]/\fV H 2 v/\iC K H d ws/\∀H',ak H H'->Q (.bl (fI H v ws)) H'
theorem Be{v:V}(h:letB v=true):∃c,v=.str (one c)/\lG c:=by
 cases v with
 |str z=>
  match e:z.cps.toList with
  | [c]=>
    simp only[letB,e]at h;exact⟨c,by rw[pc (x:=z) (y:=one c) (by rw[e])],NE (p:=97<=c/\c<=122) h⟩
  | []=>simp only[letB,e]at h;cases h
  |_::_::_=>simp only[letB,e]at h;cases h
 |_=>cases h
structure vm(K:Frag)(C:Addr):Prop where
 cl:tu K C
 board:cm K C "board"
 kinds:cm K C "kinds"
 rules:cm K C "rules"
 turns:cm K C "turns"
 ends:cm K C "ends"
 stuck:cm K C "stuck"
def gf1(b:Addr):List (Str×V):=putF "board" (.ref b) []
def gf2(b k:Addr):List (Str×V):=putF "kinds" (.ref k) (gf1 b)
def gf3(b k r:Addr):List (Str×V):=putF "rules" (.ref r) (gf2 b k)
def gf4(b k r t:Addr):List (Str×V):=putF "turns" (.ref t) (gf3 b k r)
def DL(b k r t e:Addr):List (Str×V):=putF "ends" (.ref e) (gf4 b k r t)
def iS(b k r t e:Addr)(st:Str):List (Str×V):=putF "stuck" (.str st) (DL b k r t e)
section
variable{b k r t e:Addr}{st:Str}
theorem Bx:(iS b k r t e st).lookup ("board":Str)=some (.ref b):=by unfold iS DL gf4 gf3 gf2 gf1;rw[aB,NC (by decide+kernel),aB,NC (by decide+kernel),aB,NC (by decide+kernel),aB,NC (by decide+kernel),aB,NC (by decide+kernel),aB,ND rfl]
theorem Bw:(iS b k r t e st).lookup ("kinds":Str)=some (.ref k):=by unfold iS DL gf4 gf3 gf2;rw[aB,NC (by decide+kernel),aB,NC (by decide+kernel),aB,NC (by decide+kernel),aB,NC (by decide+kernel),aB,ND rfl]
theorem Bv:(iS b k r t e st).lookup ("rules":Str)=some (.ref r):=by unfold iS DL gf4 gf3;rw[aB,NC (by decide+kernel),aB,NC (by decide+kernel),aB,NC (by decide+kernel),aB,ND rfl]
theorem Bu:(iS b k r t e st).lookup ("turns":Str)=some (.ref t):=by unfold iS DL gf4;rw[aB,NC (by decide+kernel),aB,NC (by decide+kernel),aB,ND rfl]
theorem Mg{m:Str}(h1:¬m="board")(h2:¬m="kinds")(h3:¬m="rules")(h4:¬m="turns")(h5:¬m="ends")(h6:¬m="stuck"):(iS b k r t e st).lookup m=none:=by unfold iS DL gf4 gf3 gf2 gf1;rw[aB,NC h6,aB,NC h5,aB,NC h4,aB,NC h3,aB,NC h2,aB,NC h1];rfl
theorem JO:(gf1 b).length<=1/\(gf2 b k).length<=2/\(gf3 b k r).length<=3/\(gf4 b k r t).length<=4/\(DL b k r t e).length<=5:=by have a1:(gf1 b).length<=1:=bV "board" (.ref b) [];have a2:(gf2 b k).length<=(gf1 b).length+1:=bV "kinds" (.ref k) (gf1 b);have a3:(gf3 b k r).length<=(gf2 b k).length+1:=bV "rules" (.ref r) (gf2 b k);have a4:(gf4 b k r t).length<=(gf3 b k r).length+1:=bV "turns" (.ref t) (gf3 b k r);have a5:(DL b k r t e).length<=(gf4 b k r t).length+1:=bV "ends" (.ref e) (gf4 b k r t);lia
end
structure gw(C:Addr)(H:Hp)(p b:Addr)(ks rs ts es:List V)(st:Str):Prop where
 ex:∃dx kq rq tq eq,H p=some (.ins C dx (iS b kq rq tq eq st))/\H kq=some (.lst ks)/\H rq=some (.lst rs)/\H tq=some (.lst ts)/\H eq=some (.lst es)
section
variable{K:Frag}{C:Addr}{H H':Hp}{p b:Addr}{ks rs ts es:List V}{st:Str}
theorem gw.same(G:gw C H p b ks rs ts es st)(s:ak H H'):gw C H' p b ks rs ts es st:=by obtain⟨dx,kq,rq,tq,eq,a,c,d,e,f⟩:=G.ex;exact⟨dx,kq,rq,tq,eq,s _ _ a,s _ _ c,s _ _ d,s _ _ e,s _ _ f⟩
theorem gw.board(G:gw C H p b ks rs ts es st)(D:vm K C):Fl K H p "board" (.ref b):=by obtain⟨dx,kq,rq,tq,eq,a,_⟩:=G.ex;exact⟨C,dx,_,a,D.cl,D.board,Bx⟩
theorem gw.kinds(G:gw C H p b ks rs ts es st)(D:vm K C):∃q,Fl K H p "kinds" (.ref q)/\H q=some (.lst ks):=by obtain⟨dx,kq,rq,tq,eq,a,c,d,e,f⟩:=G.ex;exact⟨kq,⟨C,dx,_,a,D.cl,D.kinds,Bw⟩,c⟩
theorem gw.rules(G:gw C H p b ks rs ts es st)(D:vm K C):∃q,Fl K H p "rules" (.ref q)/\H q=some (.lst rs):=by obtain⟨dx,kq,rq,tq,eq,a,c,d,e,f⟩:=G.ex;exact⟨rq,⟨C,dx,_,a,D.cl,D.rules,Bv⟩,d⟩
theorem gw.turns(G:gw C H p b ks rs ts es st)(D:vm K C):∃q,Fl K H p "turns" (.ref q)/\H q=some (.lst ts):=by obtain⟨dx,kq,rq,tq,eq,a,c,d,e,f⟩:=G.ex;exact⟨tq,⟨C,dx,_,a,D.cl,D.turns,Bu⟩,e⟩
theorem gw.no(G:gw C H p b ks rs ts es st){m:Str}(h1:¬m="board":=by decide+kernel)(h2:¬m="kinds":=by decide+kernel)(h3:¬m="rules":=by decide+kernel)(h4:¬m="turns":=by decide+kernel)(h5:¬m="ends":=by decide+kernel)(h6:¬m="stuck":=by decide+kernel):tj C m H p:=by obtain⟨dx,kq,rq,tq,eq,a,_⟩:=G.ex;exact⟨dx,_,a,Mg h1 h2 h3 h4 h5 h6⟩
end
section
variable{H H':Hp}{v:V}{A B ws:List Str}
theorem ue(t:Thg H v)(s:ak H H'):eA H' v A B=eA H v A B:=by unfold eA;rw[fX t s]
theorem t7(t:Thg H v)(s:ak H H'):dY H' v ws=dY H v ws:=by unfold dY;rw[fX t s]
theorem xG(t:Thg H v)(s:ak H H'):cA H' v=cA H v:=by unfold cA;rw[fX t s]
theorem wM(t:Thg H v)(s:ak H H'):gS H' v=gS H v:=by unfold gS;rw[fX t s]
theorem sW{f g:V->Bool}{xs:List V}(h:∀x∈xs,f x=g x):xs.all f=xs.all g:=by
 induction xs with
 |nil=>rfl
 |cons a r ih=>rw[RZ,RZ,h a (by simp),ih λx hx=>h x (by simp[hx])]
theorem Ch{f g:V->Bool}{xs:List V}(h:∀x∈xs,f x=g x):xs.any f=xs.any g:=by
 induction xs with
 |nil=>rfl
 |cons a r ih=>rw[Sn,Sn,h a (by simp),ih λx hx=>h x (by simp[hx])]
theorem lj(t:fV H 2 v)(s:ak H H'):pairsB H' v A B=pairsB H v A B:=by
 unfold pairsB;rw[il t.1 s];cases e:lstOf H v with
 |none=>rfl
 |some xs=>
  show(_&&xs.all _)=(_&&xs.all _);rw[sW (g:=λx=>eA H x A B) λx hx=>ue (t.2 xs (.inr e) x hx).thg s]
theorem rE(t:fV H 2 v)(s:ak H H'):fI H' v ws=fI H v ws:=by
 unfold fI;rw[il t.1 s];cases e:lstOf H v with
 |none=>rfl
 |some xs=>
  show(_&&xs.all _)=(_&&xs.all _);rw[sW (g:=λx=>dY H x ws) λx hx=>t7 (t.2 xs (.inr e) x hx).thg s]
theorem qT(t:fV H 2 v)(s:ak H H'):fW H' v ws=fW H v ws:=by
 unfold fW;rw[lj t s,il t.1 s];cases e:lstOf H v with
 |none=>rfl
 |some xs=>
  have tx:∀x∈xs,Thg H x:=λx hx=>(t.2 xs (.inr e) x hx).thg;have em:xs.map (cA H')=xs.map (cA H):=R9 λx hx=>xG (tx x hx) s;show(_&&((!xs.any λx=>decide (gS H' x∈xs.map (cA H')))&&decide ((xs.map (cA H')).Nodup)))=(_&&((!xs.any λx=>decide (gS H x∈xs.map (cA H)))&&decide ((xs.map (cA H)).Nodup)));rw[em,Ch (g:=λx=>decide (gS H x∈xs.map (cA H))) λx hx=>by rw[wM (tx x hx) s]]
end
def vI(K:Frag)(C:Addr):Sp:=λvs H Q _=>∃(p b kd rd td ed dx:Addr)(ws:List Str)(rs ts es:List V)(st:Str),vs=[.ref p,.ref b,.ref kd,.ref rd,.ref td,.ref ed,.str st]/\H p=some (.ins C dx [])/\H kd=some (.lst (ws.map V.str))/\H rd=some (.lst rs)/\H td=some (.lst ts)/\H ed=some (.lst es)/\
 fV H 1 (.ref kd)/\fV H 2 (.ref rd)/\fV H 2 (.ref td)/\fV H 2 (.ref ed)/\mL H (.ref kd)=true/\fI H (.ref rd) ws=true/\fW H (.ref td) ws=true/\pairsB H (.ref ed) iA ws=true/\st∈iG/\st.length<=1000/\
 ∀H',gw C H' p b (ws.map V.str) rs ts es st->SameBut p H H'->Q .non H'
structure Nv(P:NP)(w:NT)(K:Frag)(mg:NH)(Ny:NZ):Prop where
 is_list_of:dg P w K mg Ny "is_list_of" ["thing","least","most"] 1 pj
 is_letter:dg P w K mg Ny "is_letter" ["thing"] 1 nZ
 is_rule:dg P w K mg Ny "is_rule" ["thing","kinds"] 4 (vC K)
structure GG2(P:NP)(w:NT)(K:Frag)(mg:NH)(Ny:NZ):Prop where
 are_kinds:dg P w K mg Ny "are_kinds" ["thing"] 2 rf
 are_rules:dg P w K mg Ny "are_rules" ["thing","kinds"] 5 (q8 K)
 is_turns:dg P w K mg Ny "is_turns" ["thing","kinds"] 4 (qY K)
 is_ends:dg P w K mg Ny "is_ends" ["thing","kinds"] 4 (vJ K)
 is_word:dg P w K mg Ny "is_word" ["thing","words"] 1 (iY K)
theorem lI{K:Frag}{σ:St}{H:Hp}{to te:TE}{u:TS}{D:dq}{f:Str}{p C dx d:Addr}{fs:List (Str×V)}{xs:List V}(he:Ev te σ H (.ref d))(hd:H d=some (.lst xs))(ho:∀H',Ev to σ H' (.ref p))(hp:H p=some (.ins C dx fs))(hc:tu K C)(hn:cm K C f)(hl:fs.length<1000)
  (h2:∀q,H q=none->u D σ (upd (upd H q (.lst xs)) p (.ins C dx (putF f (.ref q) fs)))):bp (wV K to (cB (v2 K) (bx te df)) f) u D σ H:=
 he _ ⟨xs,.inl (aY.of hd),λq hq=>ho _ _ ⟨p,C,dx,fs,rfl,by rw[av (aC hp hq)];exact hp,hc,hn,hl,h2 q hq⟩⟩
end L2
namespace L2
open PySem
theorem eO{N P:List Str}{sc:O0}(a:sc.kind=.function:=by rfl)(b:sc.isCoroutine=false:=by rfl)(c:sc.isGenerator=false:=by rfl)(d:N.Nodup:=by decide+kernel)(e:N.take P.length=P:=by rfl)(f:∀x∈P,sc.names.lookup x=some .local\/sc.names.lookup x=some .cell:=by decide+kernel)(g:∀y∈sc.names,y.2≠.free:=by decide+kernel):aG N P sc:=⟨a,b,c,d,e,f,g⟩
end L2
namespace L2
open PySem PySem.Spec PyProof.Rows
def xW(H:Hp):V->Prop
 | .non=>True
 | .bl _=>True
 | .int _=>True
 | .str z=>z.length<=1000
 | .ref a=>(∃xs,H a=some (.lst xs))\/(∃xs,H a=some (.tup xs))
 |_=>False
def la(H:Hp):Nat->V->Prop
 |0,v=>xW H v
 |n+1,v=>xW H v/\∀xs,(tupOf H v=some xs\/lstOf H v=some xs)->∀x∈xs,la H n x
theorem xW.thg{H:Hp}{v:V}(h:xW H v):Thg H v:=by
 cases v with
 |ref a=>
  rcases h with h|h
  .exact .inl h
  .exact .inr (.inl h)
 |_=>exact h
theorem la.n{H:Hp}:∀{n:Nat}{v:V},la H n v->fV H n v
 |0,v,h=>xW.thg h
 |n+1,v,h=>⟨h.1.thg,λxs hx x hm=>(h.2 xs hx x hm).n⟩
theorem la.flat{H:Hp}{n:Nat}{v:V}(h:xW H v)(f:flatV v=true):la H n v:=by
 cases n with
 |zero=>exact h
 |succ n=>
  refine⟨h,λxs hx=>?_⟩;cases v with
  |ref a=>cases f
  |_=>rcases hx with z|z<;>cases z
theorem la.lst{H:Hp}{n:Nat}{a:Addr}{xs:List V}(h:H a=some (.lst xs))(hx:∀x∈xs,la H n x):la H (n+1) (.ref a):=⟨.inl ⟨xs,h⟩,λys hy=>by
 rcases hy with z|z
 .simp only[tupOf,h]at z;cases z
 .simp only[lstOf,h]at z;cases z;exact hx⟩
theorem la.tup{H:Hp}{n:Nat}{a:Addr}{xs:List V}(h:H a=some (.tup xs))(hx:∀x∈xs,la H n x):la H (n+1) (.ref a):=⟨.inr ⟨xs,h⟩,λys hy=>by
 rcases hy with z|z
 .simp only[tupOf,h]at z;cases z;exact hx
 .simp only[lstOf,h]at z;cases z⟩
section
variable{X:Cx}{a b:N5}{ta tb:TE}{pos:Px}
theorem CY{r:R2}{op:O8}(ho:iD X (Ol op) r)(ha:PE X a ta)(hb:PE X b tb)(hm:behindInMarks op b=false):PT X (.Compare a [op] [b] pos) (ia λσ H Q=>ta σ H λx H1=>tb σ H1 λy H2=>r x y H2 Q):=by intro gV s σ H Q I h;refine QF (bU (ha gV s σ H _ I h) λv s1 ⟨x,H1,I1,r1,q1⟩=>bU (hb gV s1 σ H1 _ I1 q1) λu s2 ⟨y,H2,I2,r2,q2⟩=>bU (ho gV s2 σ H2 x y v u _ I2 r1 r2 q2) λc s3 ⟨z,H3,I3,r3,q3⟩=>?_) hm;obtain⟨k,rfl,q4⟩:=eJ q3;cases r3;exact Of ⟨H3,I3,q4⟩
end
section
variable{K:Frag}{σ:St}{H:Hp}{ta tb te:TE}{v:V}{z:Str}{d:Addr}{ws:List Str}{i j:Int}
theorem JR(ha:Ev ta σ H (.int i))(hb:Ev tb σ H (.int j))(h:Kv i j):Ev (qF .Pow ta tb) σ H (.int (i ^ j.toNat)):=λQ q=>ha _ (hb _ ⟨h,q⟩)
end
section
variable{X:Cx}{a b e o:N5}{ta tb te to:TE}{pos p2:Px}
theorem LZ(K:Frag){lo hi:Option N5}{tl th:TO}(he:PE X e te)(hl:PO X lo tl)(hu:PO X hi th)(hK:X.K=K:=by rfl):PE X (.Subscript e (.Slice lo hi none p2) pos) (MZ (IY K) te tl th):=by subst hK;exact rH IM he hl hu
end
section
variable{K:Frag}{te to ta tb ti:TE}{u:TS}{D:dq}{σ:St}{H:Hp}{Q:VK}{v:V}
theorem vR{l:Addr}{i:Int}{P:V->Hp->Prop}(h:∀Q:VK,(∀v H',P v H'->Q v H')->te σ H Q)(h2:∀v H',P v H'->Ev to σ H' (.ref l)/\Ev ti σ H' (.int i)/\∃xs,H' l=some (.lst xs)/\0<=i/\i<xs.length/\D.nx σ (upd H' l (.lst (xs.set i.toNat v)))):tAsg te (gSub to ti GV) D σ H:=
 h _ λv H' p=>by obtain⟨ho,hi,xs,hl,h0,h1,q⟩:=h2 v H' p;refine ho _ (hi _ ⟨l,xs,i,i.toNat,rfl,rfl,hl,?_,q⟩);unfold ixN;rw[ND h0,ND h1]
end
def lu(ks:List Nat)(c e:Nat):Bool:=if e=35 then decide (c=35)else decide (c=46\/c∈ks\/c∈ks.map (· - 32))
section
variable{K:Frag}{te ta tb:TE}{t ta':TA}{c:TT}{u e t1:TS}{D:dq}{σ:St}{H:Hp}{Q:VK}{R:List V->Hp->Prop}{v:V}
theorem eW(P:St->Hp->Prop)(hu:∀σ' H',P σ' H'->u D σ' H')(h:(∀σ' H',P σ' H'->u D σ' H')->bp (lU c t1 e) u D σ H):bp (lU c t1 e) u D σ H:=h hu
theorem kZ{i:Nat}(h:te σ H (λv H'=>D.nx (σ.set i (some v)) H')):tAsg te (gName i) D σ H:=h
theorem fL(h:Ev te σ H v)(q:ta' σ H (λxs H2=>R (v::xs) H2)):bx te ta' σ H R:=h _ q
theorem gE(h:te σ H (λx H1=>ta' σ H1 (λxs H2=>R (x::xs) H2))):bx te ta' σ H R:=h
theorem jk(q:R [] H):df σ H R:=q
theorem lq(q:t σ H (λvs H2=>vs.length<=sizeLine/\∀p,H2 p=none->Q (.ref p) (upd H2 p (.lst vs)))):wL t σ H Q:=q
theorem oO(h:ta σ H λx H1=>tb σ H1 λy H2=>D8 .Add x y H2 Q):qF .Add ta tb σ H Q:=h
end
theorem Jo{a b:Nat}:(one a=one b)<->a=b:=by
 constructor
 .intro h;have h:(one a).cps.toList=(one b).cps.toList:=by rw[h]
  have h:[a]=[b]:=h;injection h
 .intro h;rw[h]
end L2
namespace L2
open PySem
def sZ(xs:Array Nat):Prop:= ∀i j,i<j->j<xs.size->xs.getD i 0<xs.getD j 0
theorem bG{α:Type}{xs:Array α}{i:Nat}{d:α}(h:i<xs.size):xs.getD i d=xs[i]:=by simp[Array.getD,h]
theorem Kp{xs:Array Nat}{i d e:Nat}(h:i<xs.size):xs.getD i d=xs.getD i e:=by rw[bG h,bG h]
theorem m6(xs:Array Nat)(j:Nat)(hr:sZ xs):∀(f lo hi:Nat),hi - lo<=f->lo<=hi->hi<=xs.size->(∀k,k<lo->xs.getD k 0<j)->(∀k,hi<=k->k<xs.size->j<=xs.getD k 0)->
  Pu xs j f lo hi<=xs.size/\(∀k,k<Pu xs j f lo hi->xs.getD k 0<j)/\(∀k,Pu xs j f lo hi<=k->k<xs.size->j<=xs.getD k 0)
 |0,lo,hi,h1,h2,h3,h4,h5=>by
  have:lo=hi:=by lia
  subst this;exact⟨h3,h4,h5⟩
 |f+1,lo,hi,h1,h2,h3,h4,h5=>by
  unfold Pu
  by_cases h:lo<hi
  .rw[ND h];have hm:(lo+hi) / 2<xs.size:=by lia
   dsimp only;rw[Kp (e:=0) hm]
   by_cases q:xs.getD ((lo+hi) / 2) 0<j
   .rw[ND q];refine m6 xs j hr f _ hi (by lia) (by lia) h3 (λk hk=>?_) h5
    by_cases e:k=(lo+hi) / 2
    .rw[e];exact q
    .exact Ts (hr k _ (by lia) hm) q
   .rw[NC q];refine m6 xs j hr f lo _ (by lia) (by lia) (by lia) h4 (λk hk hks=>?_)
    by_cases e:k=(lo+hi) / 2
    .rw[e];lia
    .have:=hr ((lo+hi) / 2) k (by lia) hks;lia
  .rw[NC h];have:lo=hi:=by lia
   subst this;exact⟨h3,h4,h5⟩
theorem eV(xs:Array Nat)(j:Nat)(hr:sZ xs):N0 xs j<=xs.size/\(∀k,k<N0 xs j->xs.getD k 0<j)/\(∀k,N0 xs j<=k->k<xs.size->j<=xs.getD k 0):=
 m6 xs j hr _ 0 xs.size (by lia) (Tl _) (Tj _) (λk hk=>by lia) (λk h1 h2=>by lia)
theorem ve{xs:Array Nat}(hr:sZ xs){i:Nat}(h:i<xs.size):N0 xs (xs.getD i 0+1)=i+1:=by
 obtain⟨h1,h2,h3⟩:=eV xs (xs.getD i 0+1) hr
 rcases TC (N0 xs (xs.getD i 0+1)) (i+1)with q|q|q
 .have:=h3 i (by lia) h;lia
 .exact q
 .have:=h2 (i+1) (by lia);have:=hr i (i+1) (by lia) (by lia);lia
theorem sV{xs:Array Nat}(hr:sZ xs):N0 xs 0=0:=by
 obtain⟨h1,h2,h3⟩:=eV xs 0 hr
 rcases TL (N0 xs 0)with q|q
 .exact q
 .have:=h2 0 q;lia
def Ef(xs:Array Nat)(j:Nat):Prop:= ∀k,k<xs.size->¬xs.getD k 0=j
theorem DR{xs:Array Nat}{j:Nat}(hr:sZ xs)(h:(xs[N0 xs j]? == some j)=false):Ef xs j:=by
 obtain⟨h1,h2,h3⟩:=eV xs j hr;intro k hk e
 rcases TC k (N0 xs j)with q|q|q
 .have:=h2 k q;lia
 .rw[<-q,Uk hk,<-bG (d:=0) hk,e]at h;simp at h
 .have a1:=hr (N0 xs j) k q hk;have a2:=h3 (N0 xs j) (Tj _) (by lia);lia
theorem gO{α:Type}(xs:Array α)(p:Nat)(x:α):(Oa xs p x).size=xs.size+1:=by have h:=(Ps xs p x).length_eq;simpa using h
theorem pN{xs:Array Nat}:sZ xs<->xs.toList.Pairwise (· < ·):=by
 rw[SI]
 constructor
 .intro h i j hi hj hij;have hi':i<xs.size:=by simpa using hi
  have hj':j<xs.size:=by simpa using hj
  have:=h i j hij hj';rw[bG hi',bG hj']at this;simpa using this
 .intro h i j hij hj;have hi:i<xs.size:=by lia
  have:=h i j (by simpa using hi) (by simpa using hj) hij;rw[bG hi,bG hj];simpa using this
theorem ua{xs:Array Nat}{j:Nat}(hr:sZ xs)(hf:Ef xs j):sZ (Oa xs (N0 xs j) j):=by
 obtain⟨h1,h2,h3⟩:=eV xs j hr;have g:∀m(hm:m<xs.toList.length),xs.toList[m]=xs.getD m 0:=λm hm=>by
  have hm':m<xs.size:=by simpa using hm
  rw[bG hm'];simp
 rw[pN,Qg,Tb];have hp:=pN.mp hr;refine⟨hp.sublist (SO _ _),Sw.mpr ⟨λa ha=>?_,hp.sublist (List.drop_sublist _ _)⟩,λa ha b hb=>?_⟩
 .obtain⟨k,hk,rfl⟩:=Tc.mp ha;have hk':N0 xs j+k<xs.size:=by simpa[Nat.add_comm]using hk
  have a1:=h3 (N0 xs j+k) (by lia) hk';have a2:=hf _ hk';rw[g];lia
 .obtain⟨k,hk,rfl⟩:=List.mem_take_iff_getElem.mp ha;have hk1:k<N0 xs j:=by lia
  have a1:=h2 k hk1;rw[g]
  rcases RB.mp hb with rfl|hb
  .exact a1
  .obtain⟨m,hm,rfl⟩:=Tc.mp hb;have hm':N0 xs j+m<xs.size:=by simpa[Nat.add_comm]using hm
   have a2:=h3 (N0 xs j+m) (by lia) hm';rw[g];lia
structure SG(led:Bool)(n:Nat)(t:SetTable):Prop where
 fits:t.fits n=true
 led:t.led=led
 ris:sZ t.place
theorem wN{t:SetTable}{j:Nat}(hr:sZ t.place)(h:t.slot j=.empty\/t.slot j=.dummy):Ef t.place j:=by
 apply DR hr;unfold Qh at h;dsimp only at h;cases e:(t.place[N0 t.place j]? == some j)with
 |false=>rfl
 |true=>
  rw[e]at h;simp at h
theorem ji{α:Type}(f:Nat->Option (Nat×α))(hf:∀j p,f j=some p->p.1=j):∀(l:List Nat),l.Pairwise (· < ·)->((l.filterMap f).map (·.1)).Pairwise (· < ·)/\∀a∈(l.filterMap f).map (·.1),a∈l
 | [],_=>⟨by simp,by simp⟩
 |j::l,h=>by
  obtain⟨h1,h2⟩:=Sw.mp h;obtain⟨i1,i2⟩:=ji f hf l h2;rw[Sm];cases e:f j with
  |none=>exact⟨i1,λa ha=>RF _ (i2 a ha)⟩
  |some p=>
   have ep:=hf j p e;dsimp only;rw[RY,ep];refine⟨Sw.mpr ⟨λa ha=>h1 a (i2 a ha),i1⟩,λa ha=>?_⟩
   rcases RB.mp ha with rfl|ha
   .exact RK
   .exact RF _ (i2 a ha)
theorem mR{α:Type}{l:List α}{i:Nat}{x:α}(h:l[i]? =some x):(x::l.eraseIdx i).Perm l:=by
 have hi:i<l.length:=(RO.mp h).1;have e:l=l.take i++x::l.drop (i+1):=by
  have e1:=(List.take_append_drop i l).symm;have e2:l.drop i=x::l.drop (i+1):=by rw[SB hi];rw[RC hi]at h;rw[Option.some.inj h]
  rw[e2]at e1;exact e1
 rw[List.eraseIdx_eq_take_drop_succ]
 conv=>rhs;rw[e]
 exact List.perm_middle.symm
theorem vO{α:Type}(next:Nat->Nat):∀(f k:Nat)(left:List α)(out:Array α),left.length<=f->(Rg next f k left out).toList.Perm (out.toList++left)
 |0,k,left,out,h=>by have:left=[]:=SS.mp (by lia);subst this;simp[Rg]
 |f+1,k,left,out,h=>by
  unfold Rg;split
  .rename_i x e;have hi:next k % left.length<left.length:=(RO.mp e).1;have hl:=Td hi;refine(vO next f (k+1) _ _ (by lia)).trans ?_;rw[Us,Sl];exact List.Perm.append_left _ (mR e)
  .rename_i e;have:left=[]:=by
    cases left with
    |nil=>rfl
    |cons a l=>
     rw[RC (TD _ (by simp))]at e;cases e
   subst this;simp
theorem xa{α:Type}(next:Nat->Nat)(xs:Array α):(Pp next xs).toList.Perm xs.toList:=by have:=vO next xs.size 0 xs.toList #[] (by simp);simpa[Pp]using this
def v9(M:Nat):Nat->Nat->Nat
 |0,i=>i
 |n+1,i=>v9 M n ((i*5+1) % M)
theorem j2(M:Nat):∀(a b i:Nat),v9 M (a+b) i=v9 M b (v9 M a i)
 |0,b,i=>by rw[Tt];rfl
 |a+1,b,i=>by rw[Nat.succ_add];show v9 M (a+b) _=v9 M b (v9 M a _);exact j2 M a b _
def MP(M:Nat):Nat->Nat->List Nat
 |0,_=>[]
 |n+1,i=>i::MP M n ((i*5+1) % M)
theorem pW(M:Nat):∀(n i e:Nat),e∈MP M n i->∃t,t<n/\v9 M t i=e
 |0,i,e,h=>by cases h
 |n+1,i,e,h=>by
  rcases RB.mp h with rfl|h
  .exact⟨0,TF _,rfl⟩
  .obtain⟨t,ht,e2⟩:=pW M n _ e h;exact⟨t+1,by lia,e2⟩
def lc(M:Nat):Prop:=(∀e,e<M->e∈MP M M 0)/\v9 M M 0=0
def chk(M:Nat):Bool:=(List.range M).all λe=>(MP M M 0).contains e
theorem lQ{M:Nat}(h:chk M=true)(h2:v9 M M 0=0):lc M:=⟨λe he=>by
 have:=R1.mp h e (RJ.mpr he);simpa using this,h2⟩
theorem Hn:lc 8:=lQ (by decide+kernel) (by decide+kernel)
theorem JQ:lc 32:=lQ (by decide+kernel) (by decide+kernel)
theorem DQ:lc 128:=lQ (by decide+kernel) (by decide+kernel)
theorem DP:lc 512:=lQ (by decide+kernel) (by decide+kernel)
theorem DO{M:Nat}(f:lc M){i e:Nat}(hi:i<M)(he:e<M):∃t,t<M/\v9 M t i=e:=by
 obtain⟨s,hs,es⟩:=pW M M 0 i (f.1 i hi);obtain⟨t,ht,et⟩:=pW M M 0 e (f.1 e he)
 by_cases h:s<=t
 .refine⟨t - s,by lia,?_⟩;rw[<-es,<-j2,<-et];congr 1;lia
 .refine⟨M - s+t,by lia,?_⟩;rw[<-es,<-j2,<-et];have:s+(M - s+t)=M+t:=by lia
  rw[this,j2,f.2]
def lp(mask:Nat)(h:Int):Nat->Nat×Nat
 |0=>(Oj h % (mask+1),Oj h)
 |n+1=>SetTable.leap mask (lp mask h n).1 (lp mask h n).2
theorem vZ(mask:Nat)(h:Int):∀n,(lp mask h n).2=Oj h / 32 ^ n
 |0=>by simp[lp]
 |n+1=>by show(lp mask h n).2 / 32=_;rw[vZ mask h n,Nat.div_div_eq_div_mul,Nat.pow_succ]
theorem D7(h:Int):Oj h<2 ^ 64:=by unfold Oj;lia
theorem G4(mask:Nat)(h:Int):∀n,(lp mask h n).1<mask+1
 |0=>TD _ (TF _)
 |n+1=>TD _ (TF _)
theorem DB(mask:Nat)(h:Int){n:Nat}(hn:13<=n):(lp mask h n).2=0:=by rw[vZ];apply Nat.div_eq_of_lt;refine To (D7 h) ?_;have:(32:Nat) ^ 13<=32 ^ n:=Nat.pow_le_pow_right (by decide) hn;refine Tn ?_ this;decide
theorem vY(mask:Nat)(h:Int):∀t,(lp mask h (13+t)).1=v9 (mask+1) t (lp mask h 13).1
 |0=>rfl
 |t+1=>by
  have e:v9 (mask+1) (t+1) (lp mask h 13).1=(v9 (mask+1) t (lp mask h 13).1*5+1) % (mask+1):=by rw[j2];rfl
  rw[e,<-vY mask h t];show((lp mask h (13+t)).1*5+1+(lp mask h (13+t)).2 / 32) % (mask+1)=_;rw[DB mask h (by lia)]
theorem v1{mask:Nat}(f:lc (mask+1))(h:Int){e:Nat}(he:e<=mask):∃N,N<=mask+13/\(lp mask h N).1=e:=by obtain⟨t,ht,et⟩:=DO f (G4 mask h 13) (Nat.lt_succ_of_le he);exact⟨13+t,by lia,by rw[vY,et]⟩
def vj(mask:Nat)(h:Int)(n c:Nat)(p:Pe):Prop:=
 p.i=(lp mask h n).1/\p.perturb=(lp mask h n).2/\p.j=(lp mask h n).1+c/\c+p.more=Od mask (lp mask h n).1 - (lp mask h n).1
def sl(mask:Nat)(h:Int)(n c:Nat):Nat:=(lp mask h n).1+c
theorem mq(mask i:Nat):Od mask i - i<=9:=by unfold Od;split<;>lia
theorem vj.start{t:SetTable}{h:Int}:vj t.mask h 0 0 (t.probeStart h):=⟨rfl,rfl,rfl,by rw[Tt];rfl⟩
theorem vj.more{t:SetTable}{h:Int}{n c:Nat}{p:Pe}(a:vj t.mask h n c p)(hm:0<p.more):vj t.mask h n (c+1) (t.advance p):=by obtain⟨a1,a2,a3,a4⟩:=a;unfold PB;rw[ND hm];exact⟨a1,a2,by show p.j+1=_;lia,by show c+1+(p.more - 1)=_;lia⟩
theorem vj.leap{t:SetTable}{h:Int}{n c:Nat}{p:Pe}(a:vj t.mask h n c p)(hm:¬0<p.more):vj t.mask h (n+1) 0 (t.advance p):=by obtain⟨a1,a2,a3,a4⟩:=a;unfold PB;rw[NC hm,a1,a2];exact⟨rfl,rfl,rfl,by rw[Tt];rfl⟩
def iE(n c n' c':Nat):Prop:=n<n'\/(n=n'/\c<c')
def ke(mask:Nat)(h:Int)(n c:Nat):Prop:=c<=Od mask (lp mask h n).1 - (lp mask h n).1
theorem vj.ok{mask:Nat}{h:Int}{n c:Nat}{p:Pe}(a:vj mask h n c p):ke mask h n c:=by obtain⟨_,_,_,a4⟩:=a;unfold ke;lia
theorem qu{t:SetTable}(hd:t.dummies= #[]){h:Int}(hashAt:Nat->Int){N:Nat}(he:t.slot (sl t.mask h N 0)=.empty):∀(f n c:Nat)(p:Pe),vj t.mask h n c p->(n<N\/(n=N/\c=0))->10*(N - n)+1<=f+c->
  ∃n' c' p',vj t.mask h n' c' p'/\(n'<N\/(n'=N/\c'=0))/\(iE n c n' c'\/(n=n'/\c=c'))/\(∀a b,ke t.mask h a b->(iE n c a b\/(n=a/\c=b))->iE a b n' c'->∃i,t.slot (sl t.mask h a b)=.live i/\¬hashAt i=h)/\
   ((t.slot (sl t.mask h n' c')=.empty/\OB t hashAt h f p=some (.empty (sl t.mask h n' c') p.dummy))\/
    (∃i,t.slot (sl t.mask h n' c')=.live i/\hashAt i=h/\OB t hashAt h f p=some (.candidate (sl t.mask h n' c') i (t.advance p'))/\n'<N/\p'.dummy=p.dummy))
 |0,n,c,p,a,hn,hf=>by have:=mq t.mask (lp t.mask h n).1;have:=a.ok;unfold ke at this;lia
 |f+1,n,c,p,a,hn,hf=>by
  have hj:p.j=sl t.mask h n c:=a.2.2.1;have nodum:∀j,¬t.slot j=.dummy:=λj e=>by
   unfold Qh at e;rw[hd]at e;dsimp only at e;split at e
   .cases e
   .rw[NC (by simp[Rk])]at e;cases e
  cases q:t.slot p.j with
  |empty=>
   refine⟨n,c,p,a,hn,.inr ⟨rfl,rfl⟩,λx y _ h1 h2=>?_,.inl ⟨by rw[<-hj];exact q,?_⟩⟩
   .exfalso
    rcases h1 with h1|h1<;>rcases h2 with h2|h2<;>(unfold iE at *;lia)
   .unfold OB;rw[q,hj]
  |dummy=>exact NG q (nodum _)
  |live i=>
   by_cases hh:hashAt i=h
   .refine⟨n,c,p,a,hn,.inr ⟨rfl,rfl⟩,λx y _ h1 h2=>?_,.inr ⟨i,by rw[<-hj];exact q,hh,?_,?_,rfl⟩⟩
    .exfalso
     rcases h1 with h1|h1<;>rcases h2 with h2|h2<;>(unfold iE at *;lia)
    .unfold OB;rw[q];dsimp only;rw[ND (by simp[hh]),hj]
    .rcases hn with hn|⟨rfl,rfl⟩
     .exact hn
     .rw[hj,he]at q;cases q
   .have hlt:n<N:=by
     rcases hn with hn|⟨rfl,rfl⟩
     .exact hn
     .rw[hj,he]at q;cases q
    have hgo:OB t hashAt h (f+1) p=OB t hashAt h f (t.advance p):=by
     conv=>lhs;unfold OB
     rw[q];dsimp only;rw[NC (by simp[hh])]
    rw[hgo];have hdm:(t.advance p).dummy=p.dummy:=by unfold PB;split<;>rfl
    by_cases hm:0<p.more
    .obtain⟨n',c',p',b1,b2,b3,b4,b5⟩:=qu hd hashAt he f n (c+1) (t.advance p) (a.more hm) (.inl hlt) (by lia);refine⟨n',c',p',b1,b2,.inl (by unfold iE at *;lia),λx y o h1 h2=>?_,by rw[hdm]at b5;exact b5⟩
     by_cases e:x=n/\y=c
     .obtain⟨rfl,rfl⟩:=e;exact⟨i,by rw[<-hj];exact q,hh⟩
     .exact b4 x y o (by unfold iE at *;lia) h2
    .have hc9:=mq t.mask (lp t.mask h n).1;have hck:=a.2.2.2;obtain⟨n',c',p',b1,b2,b3,b4,b5⟩:=qu hd hashAt he f (n+1) 0 (t.advance p) (a.leap hm) (by lia) (by lia);refine⟨n',c',p',b1,b2,.inl (by unfold iE at *;lia),λx y o h1 h2=>?_,by rw[hdm]at b5;exact b5⟩
     by_cases e:x=n/\y=c
     .obtain⟨rfl,rfl⟩:=e;exact⟨i,by rw[<-hj];exact q,hh⟩
     .refine b4 x y o ?_ h2;unfold ke at o;unfold iE at*
      by_cases e2:x=n
      .subst e2;lia
      .lia
theorem kD{t:SetTable}(hr:sZ t.place){j i:Nat}:t.slot j=.live i<->i<t.place.size/\t.place.getD i 0=j:=by
 obtain⟨b1,b2,b3⟩:=eV t.place j hr;unfold Qh;dsimp only
 constructor
 .intro h;split at h
  .rename_i e;cases h;have hlt:N0 t.place j<t.place.size:=by
    rcases Nat.lt_or_ge (N0 t.place j) t.place.size with q|q
    .exact q
    .rw[Uo q]at e;simp at e
   rw[Uk hlt]at e;refine⟨hlt,?_⟩;rw[bG hlt];simpa using e
  .split at h<;>cases h
 .rintro⟨hi,e⟩;have hb:N0 t.place j=i:=by
   rcases TC (N0 t.place j) i with q|q|q
   .have a1:=b3 (N0 t.place j) (Tj _) (by lia);have a2:=hr _ _ q hi;lia
   .exact q
   .have:=b2 i q;lia
  rw[hb,Uk hi,ND];rw[bG hi]at e;simp[e]
theorem fY{t:SetTable}(hr:sZ t.place)(hd:t.dummies= #[]){j:Nat}:t.slot j=.empty<->Ef t.place j:=by
 constructor
 .intro h;exact wN hr (.inl h)
 .intro h;cases e:t.slot j with
  |empty=>rfl
  |live i=>
   obtain⟨h1,h2⟩:=(kD hr).mp e;exact NG h2 (h i h1)
  |dummy=>
   exfalso;unfold Qh at e;rw[hd]at e;dsimp only at e;split at e
   .cases e
   .rw[NC (by simp[Rk])]at e;cases e
theorem pU:∀(n:Nat)(l:List Nat),l.length<n->∃s,s<n/\¬s∈l
 |0,l,h=>by lia
 |n+1,l,h=>by
  by_cases m:n∈l
  .have hl:=SX m;have hp:=SF m;obtain⟨s,h1,h2⟩:=pU n (l.erase n) (by lia);exact⟨s,by lia,λz=>h2 ((SY (by lia)).mpr z)⟩
  .exact⟨n,by lia,m⟩
theorem xK{t:SetTable}(hr:sZ t.place)(hd:t.dummies= #[])(hf:t.place.size<=t.mask):∃e,e<=t.mask/\t.slot e=.empty:=by obtain⟨e,h1,h2⟩:=pU (t.mask+1) t.place.toList (by simp;lia);refine⟨e,by lia,(fY hr hd).mpr λk hk z=>h2 ?_⟩;rw[<-z,bG hk];simp
def Cq(t:SetTable)(h:Int)(j:Nat):Prop:= ∃n c,ke t.mask h n c/\sl t.mask h n c=j/\∀a b,ke t.mask h a b->iE a b n c->¬t.slot (sl t.mask h a b)=.empty
structure tz(es:Array (Int×Value))(t:SetTable):Prop where
 ps:t.place.size=es.size
 ris:sZ t.place
 nd:t.dummies= #[]
 full:lc (t.mask+1)
 odd:t.mask % 2=1
 fit:t.place.size<=t.mask
 pl:∀i,i<es.size->Cq t (es.getD i (0,.none)).1 (t.place.getD i 0)
theorem GP{mask:Nat}{h:Int}{n c:Nat}(o:ke mask h n c):sl mask h n c<=mask:=by have:=G4 mask h n;unfold ke Od at o;unfold sl;split at o<;>lia
theorem tz.fits{es:Array (Int×Value)}{t:SetTable}(g:tz es t):t.fits es.size=true:=by unfold Q0 SetTable.fill;rw[g.nd,g.ps];have:=g.fit;rw[g.ps]at this;simp[this]
theorem tz.fresh{led:Bool}:tz #[] (SetTable.fresh 0 0 led):=⟨rfl,λi j _ hj=>NG hj (by simp[SetTable.fresh]),rfl,Hn,(by show(7:Nat) % 2=1;decide),Tl _,λi h=>NG h (by simp)⟩
theorem tz.put{es:Array (Int×Value)}{t:SetTable}(g:tz es t){h:Int}{x:Value}{n c:Nat}(o:ke t.mask h n c)(he:t.slot (sl t.mask h n c)=.empty)(hb:∀a b,ke t.mask h a b->iE a b n c->¬t.slot (sl t.mask h a b)=.empty)(hroom:es.size+1<=t.mask):
  tz (Oa es (t.put (sl t.mask h n c)).2 (h,x)) (t.put (sl t.mask h n c)).1:=by
 have hf:=(fY g.ris g.nd).mp he;have hr':sZ (t.put (sl t.mask h n c)).1.place:=ua g.ris hf;have hd':(t.put (sl t.mask h n c)).1.dummies= #[]:=by show(if Rk t.dummies _ then _ else t.dummies)= #[];rw[g.nd];rfl
 have hsz:(t.put (sl t.mask h n c)).1.place.size=es.size+1:=by show(Oa t.place _ _).size=_;rw[gO,g.ps]
 have hes:(Oa es (t.put (sl t.mask h n c)).2 (h,x)).size=es.size+1:=gO ..;have keep:∀j,¬t.slot j=.empty->¬(t.put (sl t.mask h n c)).1.slot j=.empty:=λj hj z=>hj ((fY g.ris g.nd).mpr λk hk e=>by
  have q:=(fY hr' hd').mp z;have hm:j∈(t.put (sl t.mask h n c)).1.place.toList:=by show j∈(Oa t.place _ _).toList;rw[(Ps t.place _ _).mem_iff,Us];refine Sc _ ?_;rw[<-e,bG hk];simp
  obtain⟨k',hk',e'⟩:=Sh hm;have hk2:k'<(t.put (sl t.mask h n c)).1.place.size:=by simpa using hk'
  exact q k' hk2 (by rw[bG hk2];simpa using e'))
 refine⟨by rw[hsz,hes],hr',hd',g.full,g.odd,by rw[hsz];exact hroom,λi hi=>?_⟩;rw[hes]at hi;have hp:∀i,i<es.size+1->((Oa es (t.put (sl t.mask h n c)).2 (h,x)).getD i (0,.none)=(h,x)/\(t.put (sl t.mask h n c)).1.place.getD i 0=sl t.mask h n c)\/∃j,j<es.size/\(Oa es (t.put (sl t.mask h n c)).2 (h,x)).getD i (0,.none)=es.getD j (0,.none)/\(t.put (sl t.mask h n c)).1.place.getD i 0=t.place.getD j 0:=λi hi=>by
  have hpb:(t.put (sl t.mask h n c)).2<=es.size:=by show N0 t.place _<=_;rw[<-g.ps];exact(eV t.place _ g.ris).1
  have at1:∀{α:Type}(xs:Array α)(p:Nat)(y d:α)(i:Nat),p<=xs.size->i<xs.size+1->(Oa xs p y).getD i d=if i<p then xs.getD i d else if i=p then y else xs.getD (i - 1) d:=λ{α} xs p y d i hp hi=>by
   have hs:=gO xs p y;have e1:(Oa xs p y).getD i d=(Oa xs p y).toList[i]'(by simpa[hs]using hi):=by rw[bG (by lia)];simp
   rw[e1];simp only[Qg]
   by_cases l1:i<p
   .rw[ND l1,SZ (by simp;lia),bG (by lia)];simp
   .rw[NC l1,S0 (by simp;lia)]
    by_cases l2:i=p
    .subst l2;rw[ND rfl];have hz:i - (xs.toList.take i).length=0:=by simp;lia
     have key:∀(l:List α)(k:Nat)(hk:k<(y::l).length),k=0->(y::l)[k]=y:=λl k hk e=>by subst e;rfl
     exact key _ _ _ hz
    .rw[NC l2];have hl:(xs.toList.take p).length=p:=by simp;lia
     have e2:i - (xs.toList.take p).length=(i - 1 - p)+1:=by lia
     rw[bG (by lia)];simp only[e2,List.getElem_cons_succ,List.getElem_drop,Ut];congr 1;lia
  have q1:=at1 es (t.put (sl t.mask h n c)).2 (h,x) (0,.none) i hpb hi;have q2:=at1 t.place (t.put (sl t.mask h n c)).2 (sl t.mask h n c) 0 i (by rw[g.ps];exact hpb) (by rw[g.ps];exact hi);have q2':(t.put (sl t.mask h n c)).1.place.getD i 0=_:=q2;rw[q1,q2']
  by_cases l1:i<(t.put (sl t.mask h n c)).2
  .rw[ND l1,ND l1];exact .inr ⟨i,by lia,rfl,rfl⟩
  .rw[NC l1,NC l1]
   by_cases l2:i=(t.put (sl t.mask h n c)).2
   .rw[ND l2,ND l2];exact .inl ⟨rfl,rfl⟩
   .rw[NC l2,NC l2];exact .inr ⟨i - 1,by lia,rfl,rfl⟩
 rcases hp i hi with⟨e1,e2⟩|⟨j,hj,e1,e2⟩
 .rw[e1,e2];exact⟨n,c,o,rfl,λa b oab lab=>keep _ (hb a b oab lab)⟩
 .rw[e1,e2];obtain⟨n',c',o',e',hb'⟩:=g.pl j hj;exact⟨n',c',o',e',λa b oab lab=>keep _ (hb' a b oab lab)⟩
abbrev nn(owner:Array (Option Nat))(j:Nat):Bool:=(owner.getD j (some 0)).isNone
theorem BB{mask:Nat}{owner:Array (Option Nat)}{h:Int}{N:Nat}(hN:nn owner (sl mask h N 0)=true):∀(f n:Nat),n<=N->N - n<f->∃n' c',ke mask h n' c'/\Ov mask owner f (lp mask h n).1 (lp mask h n).2=some (sl mask h n' c')/\nn owner (sl mask h n' c')=true/\∀a b,ke mask h a b->n<=a->iE a b n' c'->nn owner (sl mask h a b)=false
 |0,n,h1,h2=>by lia
 |f+1,n,h1,h2=>by
  unfold Ov;cases e:(List.range (Od mask (lp mask h n).1+1 - (lp mask h n).1)).find? (λk=>(owner.getD ((lp mask h n).1+k) (some 0)).isNone)with
  |some k=>
   obtain⟨hp,i,hi,ei,hb⟩:=List.find?_eq_some_iff_getElem.mp e;have hik:i=k:=by simpa using ei
   subst hik;have hir:i<Od mask (lp mask h n).1+1 - (lp mask h n).1:=by simpa using hi
   refine⟨n,i,by unfold ke;lia,rfl,hp,λa b o ha lt=>?_⟩;have:a=n/\b<i:=by unfold iE at lt;lia
   obtain⟨rfl,hbi⟩:=this;have:=hb b hbi;simpa[nn,sl]using this
  |none=>
   have hall:=List.find?_eq_none.mp e;have hlt:n<N:=by
    rcases Nat.lt_or_ge n N with q|q
    .exact q
    .have:n=N:=by lia
     subst this;have hr0:(0:Nat)<Od mask (lp mask h n).1+1 - (lp mask h n).1:=by unfold Od;split<;>lia
     have:=hall 0 (RJ.mpr hr0);exact NG hN this
   obtain⟨n',c',o,e2,e3,e4⟩:=BB hN f (n+1) hlt (by lia);refine⟨n',c',o,e2,e3,λa b oab ha lt=>?_⟩
   by_cases q:a=n
   .subst q;have hbr:b<Od mask (lp mask h a).1+1 - (lp mask h a).1:=by
     unfold ke at oab;have:(lp mask h a).1<=Od mask (lp mask h a).1:=by unfold Od;split<;>lia
     lia
    have:=hall b (RJ.mpr hbr);exact Ui.mpr this
   .exact e4 a b oab (by lia) lt
structure OI(mask:Nat)(owner:Array (Option Nat))(hs:List Int)(js:List Nat):Prop where
 sz:owner.size=mask+1
 len:js.length=hs.length
 nd:js.Nodup
 le:∀j∈js,j<=mask
 at1:∀i(hi:i<js.length),owner.getD js[i] (some 0)=some i
 at2:∀j,j<=mask->¬j∈js->owner.getD j (some 0)=none
 pl:∀i(hi:i<js.length),∃n c,ke mask (hs.getD i 0) n c/\sl mask (hs.getD i 0) n c=js[i]/\∀a b,ke mask (hs.getD i 0) a b->iE a b n c->nn owner (sl mask (hs.getD i 0) a b)=false
theorem tT{owner:Array (Option Nat)}{j:Nat}{o:Option Nat}(h:j<owner.size)(k:Nat):(owner.setIfInBounds j o).getD k (some 0)=if k=j then o else owner.getD k (some 0):=by
 by_cases e:k=j
 .subst e;rw[ND rfl,bG (by simpa using h)];exact Array.getElem_setIfInBounds_self ..
 .rw[NC e]
  by_cases hk:k<owner.size
  .rw[bG (by simpa using hk),bG hk];exact Array.getElem_setIfInBounds_ne hk (Ne.symm e)
  .have h1:¬k<(owner.setIfInBounds j o).size:=by simpa using hk
   simp[Array.getD,hk,h1]
theorem OI.step{mask:Nat}{owner:Array (Option Nat)}{hs:List Int}{js:List Nat}(f:lc (mask+1))(I:OI mask owner hs js)(h:Int)(hr:hs.length<=mask):∃j,Ov mask owner (OJ mask) (Oj h % (mask+1)) (Oj h)=some j/\OI mask (owner.setIfInBounds j (some hs.length)) (hs++[h]) (js++[j]):=by
 obtain⟨e,e1,e2⟩:=pU (mask+1) js (by rw[I.len];lia);obtain⟨N,hN,eN⟩:=v1 f h (Nat.le_of_lt_succ e1);have hNn:nn owner (sl mask h N 0)=true:=by show(owner.getD ((lp mask h N).1+0) (some 0)).isNone=true;rw[Nat.add_zero,eN,I.at2 e (by lia) e2];rfl
 obtain⟨n,c,o,g1,g2,g3⟩:=BB hNn (OJ mask) 0 (Tl _) (by unfold OJ;lia);have hj:=GP o;refine⟨sl mask h n c,g1,?_⟩;have hlt:sl mask h n c<owner.size:=by rw[I.sz];lia
 have hnj:¬sl mask h n c∈js:=λz=>by obtain⟨i,hi,e⟩:=Sh z;have:=I.at1 i hi;rw[e]at this;unfold nn at g2;rw[this]at g2;cases g2
 have up:∀k,nn owner k=false->nn (owner.setIfInBounds (sl mask h n c) (some hs.length)) k=false:=λk hk=>by
  unfold nn;rw[tT hlt]
  by_cases e:k=sl mask h n c
  .rw[ND e];rfl
  .rw[NC e];exact hk
 refine⟨by simpa using I.sz,by simp[I.len],?_,λj hm=>?_,λi hi=>?_,λj hjm hn=>?_,λi hi=>?_⟩
 .rw[Sv];refine⟨I.nd,by simp,λa ha b hb e=>hnj ?_⟩;have:b=sl mask h n c:=by simpa using hb
  rw[<-this,<-e];exact ha
 .rcases RM.mp hm with z|z
  .exact I.le j z
  .rw[RL.mp z];exact hj
 .rw[tT hlt]
  by_cases l:i<js.length
  .rw[SZ l,NC (λz:js[i]=sl mask h n c=>hnj (z▸RU l))];exact I.at1 i l
  .have:i=js.length:=by simp at hi;lia
   subst this;rw[S0 (Tj _)];simp[I.len]
 .rw[tT hlt,NC (λz=>hn (by rw[z];simp))];exact I.at2 j hjm (λz=>hn (Sc _ z))
 .by_cases l:i<js.length
  .have e:(hs++[h]).getD i 0=hs.getD i 0:=by rw[RH,Sz (by rw[<-I.len];exact l),<-RH]
   rw[SZ l,e];obtain⟨n',c',o',e',hb⟩:=I.pl i l;exact⟨n',c',o',e',λa b oab lab=>up _ (hb a b oab lab)⟩
  .have:i=js.length:=by simp at hi;lia
   subst this;have e:(hs++[h]).getD js.length 0=h:=by rw[I.len];simp
   rw[e];refine⟨n,c,o,?_,λa b oab lab=>up _ (g3 a b oab (Tl _) lab)⟩;rw[S0 (Tj _)];simp
theorem sk{mask:Nat}(f:lc (mask+1)):∀(hs2 hs1:List Int)(owner:Array (Option Nat))(js:List Nat),OI mask owner hs1 js->hs1.length+hs2.length<=mask+1->
  ∃owner' js',hs2.foldl (λacc h=>do
   let (owner,k)<-acc
   let j<-Ov mask owner (OJ mask) (Oj h % (mask+1)) (Oj h)
   pure (owner.setIfInBounds j (some k),k+1)) (some (owner,hs1.length))=some (owner',(hs1++hs2).length)/\OI mask owner' (hs1++hs2) js'
 | [],hs1,owner,js,I,_=>⟨owner,js,by simp,by simpa using I⟩
 |h::hs2,hs1,owner,js,I,hl=>by
  simp only[RR]at hl;obtain⟨j,e,I2⟩:=I.step f h (by lia);obtain⟨owner',js',e3,I3⟩:=sk f hs2 (hs1++[h]) _ _ I2 (by simp;lia);refine⟨owner',js',?_,by simpa using I3⟩;rw[List.foldl_cons];have e4:(do
    let (owner,k)<-(some (owner,hs1.length):Option (Array (Option Nat)×Nat))
    let j<-Ov mask owner (OJ mask) (Oj h % (mask+1)) (Oj h)
    pure (owner.setIfInBounds j (some k),k+1))=some (owner.setIfInBounds j (some hs1.length),(hs1++[h]).length):=by
   simp[e]
  rw[e4,e3];simp
theorem xu{mask:Nat}(f:lc (mask+1)){hs:Array Int}(hl:hs.size<=mask+1):∃owner js,SetTable.layClean mask hs=some owner/\OI mask owner hs.toList js:=by
 have I0:OI mask (Array.replicate (mask+1) none) [] []:=⟨by simp,rfl,by simp,by simp,λi hi=>by simp at hi,λj hj _=>by rw[bG (by simp;lia)];simp,λi hi=>by simp at hi⟩;obtain⟨owner,js,e,I⟩:=sk f hs.toList [] _ _ I0 (by simpa using hl);refine⟨owner,js,?_,by simpa using I⟩;unfold SetTable.layClean;rw[<-Array.foldl_toList];have e:hs.toList.foldl (λacc h=>do
   let (owner,k)<-acc
   let j<-Ov mask owner (OJ mask) (Oj h % (mask+1)) (Oj h)
   pure (owner.setIfInBounds j (some k),k+1)) (some (Array.replicate (mask+1) none,0))=some (owner,([]++hs.toList).length):=e
 rw[e];rfl
def liveP(owner:Array (Option Nat))(mask:Nat):List (Nat×Nat):=(List.range (mask+1)).filterMap λj=>(owner.getD j none).map (j,·)
theorem hV{mask:Nat}{owner:Array (Option Nat)}{j i:Nat}:(j,i)∈liveP owner mask<->j<=mask/\owner.getD j none=some i:=by
 unfold liveP;rw[R8]
 constructor
 .rintro⟨k,hk,e⟩;obtain⟨x,hx,e2⟩:=Uv.mp e;cases e2;exact⟨by have:=RJ.mp hk;lia,hx⟩
 .rintro⟨h1,h2⟩;exact⟨j,RJ.mpr (by lia),by rw[h2];rfl⟩
theorem mx{mask:Nat}{owner:Array (Option Nat)}{hs:List Int}{js:List Nat}(I:OI mask owner hs js){j i:Nat}(hj:j<=mask):owner.getD j none=some i<->∃h:i<js.length,js[i]=j:=by
 have e0:owner.getD j none=owner.getD j (some 0):=by
  have:j<owner.size:=by rw[I.sz];lia
  rw[bG this,bG this]
 rw[e0]
 constructor
 .intro h
  by_cases m:j∈js
  .obtain⟨k,hk,e⟩:=Sh m;have:=I.at1 k hk;rw[e,h]at this;cases this;exact⟨hk,e⟩
  .rw[I.at2 j hj m]at h;cases h
 .rintro⟨h,e⟩;rw[<-e];exact I.at1 i h
theorem rY(owner:Array (Option Nat))(mask:Nat):((liveP owner mask).map (·.1)).Pairwise (· < ·):=
 (ji (λj=>(owner.getD j none).map (j,·)) (λj p hp=>by
  obtain⟨a,_,rfl⟩:=Uv.mp hp;rfl) (List.range (mask+1)) List.pairwise_lt_range).1
theorem rG{κ:Type}[DecidableEq κ]:∀{l ns:List κ},l.Nodup->ns.Nodup->(∀k,k∈l<->k∈ns)->ns.Perm l
 | [],ns,_,_,h=>by
   cases ns with
   |nil=>exact List.Perm.refl _
   |cons a l=>exact NG ((h a).mpr (by simp)) (by simp)
 |a::l,ns,nd,nn,h=>by
  obtain⟨n1,n2⟩:=Si.mp nd;have ha:=(h a).mp (by simp);refine(Te ha).trans (List.Perm.cons _ (rG n2 (nn.erase a) λk=>?_));rw[nn.mem_erase_iff,<-h k,RB]
  constructor
  .intro hk;exact⟨λe=>n1 (e▸hk),.inr hk⟩
  .rintro⟨e,z|z⟩
   .exact NG z e
   .exact z
theorem uf{mask:Nat}{owner:Array (Option Nat)}{hs:List Int}{js:List Nat}(I:OI mask owner hs js):((liveP owner mask).map (·.2)).Perm (List.range hs.length):=by
 refine rG SH ?_ (λi=>?_)
 ·
  have hp:=rY owner mask;rw[RX]at hp;rw[R4,RX];refine List.Pairwise.imp_of_mem ?_ hp;intro a b ha hb lt e;obtain⟨a1,a2⟩:=hV.mp (show(a.1,a.2)∈_ from ha);obtain⟨b1,b2⟩:=hV.mp (show(b.1,b.2)∈_ from hb);obtain⟨x1,e1⟩:=(mx I a1).mp a2;obtain⟨x2,e2⟩:=(mx I b1).mp b2;have:a.1=b.1:=by rw[<-e1,<-e2];congr 1
  lia
 .rw[RJ,RA]
  constructor
  .intro hi;have hi':i<js.length:=by rw[I.len];exact hi
   have hle:=I.le _ (RU hi');exact⟨(js[i],i),hV.mpr ⟨hle,(mx I hle).mpr ⟨hi',rfl⟩⟩,rfl⟩
  .rintro⟨p,hp,rfl⟩;obtain⟨a1,a2⟩:=hV.mp (show(p.1,p.2)∈_ from hp);obtain⟨x1,e1⟩:=(mx I a1).mp a2;rw[I.len]at x1;exact x1
theorem BH{α:Type}{es:Array α}(d:α):∀{l:List Nat},(∀i∈l,i<es.size)->l.filterMap (es[·]?)=l.map λi=>es.getD i d
 | [],_=>rfl
 |i::l,h=>by have hi:=h i (by simp);rw[Sm,Uk hi,RY,BH d (λj hj=>h j (RF _ hj)),bG hi]
theorem wX{es:Array (Int×Value)}{t:SetTable}{wanted:Nat}(f:lc (Oy wanted - 1+1))(ho:(Oy wanted - 1) % 2=1)(hl:es.size<=Oy wanted - 1):
  ∃t' order,t.relaid (es.map (·.1)) wanted=some (t',order)/\(order.filterMap (es[·]?)).size=es.size/\(order.filterMap (es[·]?)).toList.Perm es.toList/\tz (order.filterMap (es[·]?)) t'/\t'.led=t.led/\t'.mask=Oy wanted - 1:=by
 generalize hm:Oy wanted - 1=mask at f ho hl;obtain⟨owner,js,e,I⟩:=xu f (hs:=es.map (·.1)) (by simp;lia);have hlen:(es.map (·.1)).toList.length=es.size:=by simp
 have hop:=uf I;rw[hlen]at hop;have hin:∀i∈(liveP owner mask).map (·.2),i<es.size:=λi hi=>RJ.mp (hop.mem_iff.mp hi);have hll:(liveP owner mask).length=es.size:=by have:=hop.length_eq;simpa using this
 refine⟨{mask,place:=((liveP owner mask).map (·.1)).toArray,dummies:= #[],finger:=t.finger,led:=t.led,moves:=t.movedTo mask,plain:=t.plain},((liveP owner mask).map (·.2)).toArray,?_,?_⟩
 .unfold SetTable.relaid SetTable.laid;rw[hm,e];rfl
 have hes:((((liveP owner mask).map (·.2)).toArray).filterMap (es[·]?)).toList=((liveP owner mask).map (·.2)).map λi=>es.getD i (0,.none):=by rw[Array.toList_filterMap];exact BH (0,.none) hin
 have hsz:((((liveP owner mask).map (·.2)).toArray).filterMap (es[·]?)).size=es.size:=by rw[<-Um,hes,Rz,Rz,hll]
 refine⟨hsz,?_,?_,rfl,rfl⟩
 .rw[hes];refine(hop.map _).trans (List.Perm.of_eq ?_);apply So;intro i;have e0:es.toList[i]? =es[i]? :=Ul;rw[RE,e0]
  by_cases hi:i<es.size
  .rw[Sb hi,Uk hi];show some (es.getD i (0,.none))=some es[i];rw[bG hi]
  .rw[R5 (by simpa using hi),Uo (by lia)];rfl
 .have hris:sZ ((liveP owner mask).map (·.1)).toArray:=pN.mpr (by simpa using rY owner mask);refine⟨?_,hris,rfl,f,ho,?_,λi hi=>?_⟩
  .rw[hsz];simp[hll]
  .show((liveP owner mask).map (·.1)).toArray.size<=mask;simp[hll,hl]
  .rw[hsz]at hi;have hil:i<(liveP owner mask).length:=by rw[hll];exact hi
   have e1:((((liveP owner mask).map (·.2)).toArray).filterMap (es[·]?)).getD i (0,.none)=es.getD (liveP owner mask)[i].2 (0,.none):=by
    rw[bG (by rw[hsz];exact hi)];have:((((liveP owner mask).map (·.2)).toArray).filterMap (es[·]?)).toList[i]? =some (es.getD (liveP owner mask)[i].2 (0,.none)):=by rw[hes,RE,RE,RC hil];rfl
    rw[Ul,Uk (by rw[hsz];exact hi)]at this;exact Option.some.inj this
   have e2:((liveP owner mask).map (·.1)).toArray.getD i 0=(liveP owner mask)[i].1:=by rw[bG (by simpa using hil)];simp
   obtain⟨a1,a2⟩:=hV.mp (show((liveP owner mask)[i].1,(liveP owner mask)[i].2)∈_ from RU hil);obtain⟨x1,ex⟩:=(mx I a1).mp a2;have hxs:(liveP owner mask)[i].2<es.size:=by rw[<-hlen,<-I.len];exact x1
   obtain⟨n,c,o,es',hb⟩:=I.pl _ x1;have eh:(es.map (·.1)).toList.getD (liveP owner mask)[i].2 0=(es.getD (liveP owner mask)[i].2 (0,.none)).1:=by rw[bG hxs,RH,Ul,Array.getElem?_map,Uk hxs];rfl
   rw[eh]at o es' hb;show Cq _ _ (((liveP owner mask).map (·.1)).toArray.getD i 0);rw[e1,e2];refine⟨n,c,o,by rw[es',ex],λa b oab lab z=>?_⟩;have q:=hb a b oab lab;have hle:sl mask (es.getD (liveP owner mask)[i].2 (0,.none)).1 a b<=mask:=GP oab;have hfr:=(fY (t:={mask,place:=((liveP owner mask).map (·.1)).toArray,dummies:= #[],finger:=t.finger,led:=t.led,moves:=t.movedTo mask,plain:=t.plain}) hris rfl).mp z;cases eo:owner.getD (sl mask (es.getD (liveP owner mask)[i].2 (0,.none)).1 a b) none with
   |none=>
    have hlt:sl mask (es.getD (liveP owner mask)[i].2 (0,.none)).1 a b<owner.size:=by rw[I.sz];lia
    unfold nn at q;rw[bG hlt]at q eo;rw[eo]at q;cases q
   |some k=>
    have hm2:=hV.mpr ⟨hle,eo⟩;obtain⟨r,hr,er⟩:=Sh hm2;have hr2:r<((liveP owner mask).map (·.1)).toArray.size:=by simpa using hr
    refine hfr r hr2 ?_;show((liveP owner mask).map (·.1)).toArray.getD r 0=_;rw[bG hr2];simp[er]
end L2
namespace L2
open PySem PySem.Spec PyProof.Rows
theorem vv:∀{xs:List V}{us:List Value},xs.length=us.length->(∀(i:Nat) x u,xs[i]? =some x->us[i]? =some u->aV x u)->aZ xs us
 | [],[],_,_=>.nil
 | [],_::_,h,_=>by simp at h
 |_::_,[],h,_=>by simp at h
 |x::xs,u::us,h,r=>.cons (r 0 x u rfl rfl) (vv (by simpa using h) λi a b h1 h2=>r (i+1) a b (by simpa using h1) (by simpa using h2))
section
variable{X:Cx}
def Hb(xs:List V)(H:Hp)(Q:VK):Prop:=match xs with
 | [.str z]=>z.length<=1000/\∀l,H l=none->Q (.ref l) (upd H l (.lst (z.cps.toList.map strV)))
 |_=>False
theorem u9(hc:X.calm=true):bn X (.type "list") Hb:=by
 intro gV s σ H xs us Q I r h;unfold Hb at h;split at h
 .rename_i z;obtain⟨hz,q⟩:=h;obtain⟨u,rfl,t,rfl⟩:=dL r;have hz2:z.cps.size<=1000:=hz;refine call_list_str (I.ok.hd hc) z t (hn:=Tn hz2 (by decide)) λh' tk acc c' hk hS hacc=>?_;have rel:aZ (z.cps.toList.map strV) acc.toList:=by refine vv (by rw[Rz,Um,Um,hacc.1]) λi x u h1 h2=>?_;rw[Ul]at h2;obtain⟨c,u',h3,rfl⟩:=hacc.2 i u h2;rw[RE,Ul,h3]at h1;cases h1;exact⟨u',rfl⟩
  exact⟨.ref s.heap.objs.size,_,I.laid (t':=tk) hk (Tj _) (show bH X.prog X.w _ h' _ (.lst (z.cps.toList.map strV))from⟨by rw[Rz,Um];exact Tn hz2 (by decide),acc.toList,c',rel,by simpa using hS⟩),rfl,q _ (I.hok.fresh (Tj _))⟩
 .exact h.elim
end
section
variable{X:Cx}{a e:N5}{ta te tb:TE}{p p2 pos:Px}
def Jt(xs:List V)(H:Hp)(Q:VK):Prop:=match xs with
 | [.int i,.int j]=>Q (.int (if j > i then j else i)) H
 |_=>False
theorem xP(hc:X.calm=true):bn X (.builtin "max") Jt:=(xQ hc).imp λxs H Q h=>by
 unfold Jt at h;split at h
 .exact⟨_,_,rfl,h⟩
 .exact h.elim
end
section
variable{K:Frag}{σ:St}{H:Hp}{ta tb te to:TE}{Q:VK}{i j:Int}
theorem JS(ha:Ev ta σ H (.int i))(hb:Ev tb σ H (.int j)):Ev (cB Jt (bx ta (bx tb df))) σ H (.int (if j > i then j else i)):=λQ q=>ha _ (hb _ q)
end
section
variable{K:Frag}{σ:St}{H:Hp}{ta tb te to:TE}{Q:VK}{c:TT}{t e:TS}{D:dq}
theorem IC{tt u:TT}{R:Bool->Hp->Prop}{b:Bool}(h:Tv tt σ H b)(q1:b=true->R true H)(q2:b=false->u σ H R):Ls tt u σ H R:=h _ (by
 cases b with
 |true=>exact iR (q1 rfl)
 |false=>exact iB (q2 rfl))
end
end L2
namespace L2
open PySem
theorem cj:Slot "set_iterator" "__next__" "set_iterator.__next__":=
 .of (owner:="set_iterator") (n:="__next__") (by rw[PH,O6];kernel_rfl) (by decide+kernel) (by decide+kernel) (by decide+kernel) (by first|exact .inl (by decide+kernel)|exact .inr (by decide+kernel)) (by rw[QP];kernel_rfl)
theorem ip:entryFor table "set_iterator.__next__"=some OL.«set_iterator.__next__» :=entryFor_of_tree (by kernel_rfl)
theorem iu(a:Value):argsOk "set_iterator.__next__" ⟨[a],[]⟩:=by unfold argsOk;kernel_rfl
theorem md:Slot "set_iterator" "__iter__" "set_iterator.__iter__":=
 .of (owner:="set_iterator") (n:="__iter__") (by rw[PH,O6];kernel_rfl) (by decide+kernel) (by decide+kernel) (by decide+kernel) (by first|exact .inl (by decide+kernel)|exact .inr (by decide+kernel)) (by rw[QP];kernel_rfl)
theorem uQ:entryFor table "set_iterator.__iter__"=some OL.«dict_keyiterator.__iter__» :=
 entryFor_alias (id':="dict_keyiterator.__iter__") (by kernel_rfl) rfl (by decide+kernel) (by kernel_rfl)
theorem vg(a:Value):argsOk "set_iterator.__iter__" ⟨[a],[]⟩:=by unfold argsOk;kernel_rfl
theorem sL:entryFor table "set.__iter__"=some OL.«frozenset.__iter__» :=
 entryFor_alias (id':="frozenset.__iter__") (by kernel_rfl) rfl (by decide+kernel) (by kernel_rfl)
def eK(h:NZ)(D:Addr)(es:Array (Int×Value))(ep:Nat)(t:SetTable):Prop:= ∃o,h.get? D=some o/\o.ExactSet/\o.data=.set es ep t
def sY(h:NZ)(I D:Addr)(first:Value)(i n ep:Nat):Prop:= ∃o,h.get? I=some o/\o.cls=.type "set_iterator"/\o.data=.fields #[first,.int i 0,.ref D,.int n 0,.int ep 0]
section
variable{M:Ry}{prog:NP}{w:NT}{A:N1}{E:NI}{s:NN}
theorem sY.ty{I D:Addr}{f:Value}{i n ep:Nat}(h:sY s.heap I D f i n ep):s.TypeIs (.ref I) "set_iterator":=let ⟨o,h1,h2,_⟩:=h;⟨o,h1,h2⟩
theorem sY.keep{h h':NZ}{I D:Addr}{f:Value}{i n ep:Nat}(x:sY h I D f i n ep)(k:∀o,h.get? I=some o->h'.get? I=some o):sY h' I D f i n ep:=let ⟨o,h1,r⟩:=x;⟨o,k o h1,r⟩
theorem eK.keep{h h':NZ}{D:Addr}{es:Array (Int×Value)}{ep:Nat}{t:SetTable}(x:eK h D es ep t)(k:∀o,h.get? D=some o->h'.get? D=some o):eK h' D es ep t:=let ⟨o,h1,r⟩:=x;⟨o,k o h1,r⟩
theorem Iy{m:Sem Unit}{α:Type}{k:Unit->Sem α}{Q:α->NN->Prop}(hm:∀Q':Unit->NN->Prop,Q' () s->NS M A m Q' E s)(h:NS M A (k ()) Q E s):NS M A (m >>= k) Q E s:=NK (hm _ h)
theorem iI{D:Addr}{es:Array (Int×Value)}{ep:Nat}{t:SetTable}{Q:(Array (Int×Value)×Nat×SetTable)->NN->Prop}(hS:eK s.heap D es ep t)(hf:t.fits es.size=true)(h:Q (es,ep,t) s):NS (NX prog w) A (setState D) Q E s:=by obtain⟨o,ho,_,hd⟩:=hS;exact wpAny_setState_of ho hd hf h
theorem j9{Q:Bool->NN->Prop}(h:Q (w.params.followText "set-order") s):NS (NX prog w) A setsByText Q E s:=by unfold setsByText;exact NK (Qo (NL h))
theorem om{D:Addr}{es:Array (Int×Value)}{ep slot given:Nat}{t:SetTable}{Q:Option (Value×Nat)->NN->Prop}(hS:eK s.heap D es ep t)(g:SG (!w.params.followText "set-order") es.size t)(hb:w.params.followText "set-order"=false)(hp:t.plain=true\/es.size<=1){i:Nat}(hi:N0 t.place slot=i)
  (h:Q (match es[i]?,t.place[i]? with|some (_,x),some j=>some (x,j+1)|_,_=>none) s):NS (NX prog w) A (Qw D slot given ep) Q E s:=by
 unfold Qw;refine NK (iI hS g.fits ?_);dsimp only;refine NK (j9 ?_);rw[hb,NC T5];split
 .rename_i q;have q:(!t.plain&&decide (es.size > 1))=true:=q
  rcases hp with hp|hp
  .rw[hp]at q;cases q
  .rw[NB (by lia:¬es.size > 1),Ue]at q;cases q
 .refine Iy (λQ' q=>?_) ?_
  .show NS _ _ (if(!t.led&& !es.isEmpty)=true then _ else _) _ _ _;rw[g.led,hb];exact NL q
  .rw[hi];exact NL h
theorem oj{D:Addr}{es:Array (Int×Value)}{ep slot given:Nat}{t:SetTable}{Q:Option (Value×Nat)->NN->Prop}(hS:eK s.heap D es ep t)(hf:t.fits es.size=true)(hb:w.params.followText "set-order"=true)
  (h:Q (((Pp (w.params.setOrder D ep) es)[given]?).map λe=>(e.2,slot)) s):NS (NX prog w) A (Qw D slot given ep) Q E s:=by
 unfold Qw;refine NK (iI hS hf ?_);dsimp only;refine NK (j9 ?_);rw[hb];show NS _ _ (if(ep != ep)=true then _ else _) _ _ _;rw[NC (by simp)];refine NK ?_;unfold setWalk;refine NK (iI hS hf ?_);dsimp only;refine NK (j9 ?_);rw[hb];show NS _ _ (do let x<-ask;pure _) _ _ _;exact NK (Qo (NL (NL h)))
theorem uv{D:Addr}{es:Array (Int×Value)}{ep place:Nat}{t:SetTable}{e:Int×Value}{Q:NI}(hS:eK s.heap D es ep t)(hf:t.fits es.size=true)(he:es[place]? =some e)(h:Q e.2 s):NS (NX prog w) A (setNextDrawn D place ep) Q E s:=by unfold setNextDrawn;refine NK (iI hS hf ?_);dsimp only;rw[NC (by simp),he];exact NL h
end
def slotAt(t:SetTable)(i:Nat):Nat:=if i=0 then 0 else t.place.getD (i - 1) 0+1
theorem jJ{t:SetTable}(hr:sZ t.place){i:Nat}(hi:i<=t.place.size):N0 t.place (slotAt t i)=i:=by
 unfold slotAt
 by_cases h:i=0
 .rw[ND h,h];exact sV hr
 .rw[NC h,ve hr (by lia)];lia
section
variable{prog:NP}{w:NT}{A:N1}{E:NI}{s:NN}
theorem qq{I D:Addr}{o:Obj}{vs:Array Value}{h:NZ}{i:Nat}{x:Value}(ho:h.get? I=some o)(hc:o.cls=.type "set_iterator")(hd:o.data=.fields vs):∃o',(h.update I (Obj.mapFields (·.setIfInBounds i x))).get? I=some o'/\o'.cls=.type "set_iterator"/\o'.data=.fields (vs.setIfInBounds i x):=
 ⟨_,OK _ ho (Obj.isFreed_of_fields (Obj.data_mapFields hd _)),(Obj.cls_mapFields ..).trans hc,Obj.data_mapFields hd _⟩
end
section
variable{prog:NP}{w:NT}{A:N1}{E:NI}{s:NN}
theorem sC{I D:Addr}{es:Array (Int×Value)}{ep slot i next:Nat}{t:SetTable}{x:Value}{Q:Option Value->NN->Prop}(hi:sY s.heap I D (.int slot 0) i es.size ep)(hS:eK s.heap D es ep t)(hf:t.fits es.size=true)
  (hn:∀(Q':Option (Value×Nat)->NN->Prop)(E':NI),Q' (some (x,next)) s->NS (NX prog w) A.in1 (Qw D slot i ep) Q' E' s)
  (hQ:∀h',sY h' I D (.int next 0) (i+1) es.size ep->Oz I s.heap h'->Q (some x) {s with heap:=h'}):NS (NX prog w) A (Pb (.ref I)) Q E s:=by
 have ty:=hi.ty;obtain⟨o,ho,hc,hd⟩:=hi;unfold Pb;refine NK (O3 (Oi (name:=Pg "__next__") ty cj (Oe cj ty ip ?_ (iu _))));show NS _ _ (fieldsOf (.ref I) >>= _) _ _ s;refine NK (PU ho hd ?_);show NS _ _ (Pa D >>= _) _ _ s;unfold Pa;refine NK (NK (iI hS hf (NL ?_)));dsimp only;rw[NC (by simp)];show NS _ _ (Qw D (Int.toNat slot) (Int.toNat i) (Int.toNat ep) >>= _) _ _ s;rw[TR,TR,TR];refine NK (hn _ _ ?_);dsimp only;refine NK (O9 ho hd (by simp) ?_);obtain⟨o2,ho2,hc2,hd2⟩:=qq (D:=D) (i:=0) (x:=QO next) ho hc hd;refine NK (O9 ho2 hd2 (by simp) (NL ⟨x,rfl,NL (hQ _ ?_ ((Oo ..).trans (Oo ..)))⟩));obtain⟨o3,ho3,hc3,hd3⟩:=qq (D:=D) (i:=1) (x:=QO ((i:Int)+1)) ho2 hc2 hd2;exact⟨o3,ho3,hc3,by rw[hd3];rfl⟩
theorem wo{I D:Addr}{es:Array (Int×Value)}{ep slot i:Nat}{t:SetTable}{Q:Option Value->NN->Prop}(hh:A.handled=none)(hi:sY s.heap I D (.int slot 0) i es.size ep)(hS:eK s.heap D es ep t)(hf:t.fits es.size=true)
  (hn:∀(Q':Option (Value×Nat)->NN->Prop)(E':NI),Q' none s->NS (NX prog w) A.in1 (Qw D slot i ep) Q' E' s)
  (hQ:∀h',Heap.ExtBut I s.heap h'->Q none {s with heap:=h'}):NS (NX prog w) A (Pb (.ref I)) Q E s:=by
 have ty:=hi.ty;obtain⟨o,ho,hc,hd⟩:=hi;unfold Pb;refine NK (O3 (Oi (name:=Pg "__next__") ty cj (Oe cj ty ip ?_ (iu _))));show NS _ _ (fieldsOf (.ref I) >>= _) _ _ s;refine NK (PU ho hd ?_);show NS _ _ (Pa D >>= _) _ _ s;unfold Pa;refine NK (NK (iI hS hf (NL ?_)));dsimp only;rw[NC (by simp)];show NS _ _ (Qw D (Int.toNat slot) (Int.toNat i) (Int.toNat ep) >>= _) _ _ s;rw[TR,TR,TR];refine NK (hn _ _ ?_);dsimp only;refine NK (O9 ho hd (by simp) ?_);refine NK ?_;simp only[newExc,newTuple];refine NK (N9 ?_ (by size_fits));refine NK (m:=PZ _ _) (Qa (a:=OE) (by first|rfl|(simp only[PZ];rfl)) ?_)
 refine N9 ?_ (by size_fits);simp only[raiseNew];refine NK (wpAny_handled ?_);rw[show A.in1.handled=none from hh];refine NK (NL (wpAny_throw ?_));refine NK (Py (T:="StopIteration") (b:=true) ⟨_,NW _ rfl,rfl⟩ QQ ?_);exact NL (hQ _ (((Oo ..).extBut.push _).push _))
theorem DF{I D T:Addr}{es:Array (Int×Value)}{ps:Array Value}{ep i c k:Nat}{t:SetTable}{e:Int×Value}{ot:Obj}{Q:Option Value->NN->Prop}(hi:sY s.heap I D (.ref T) i es.size ep)(hS:eK s.heap D es ep t)(hf:t.fits es.size=true)
  (hT:s.heap.get? T=some ot) (hTd:ot.data=.seq ps c) (hp:ps[i]? =some (.int k 0)) (he:es[k]? =some e)
  (hQ:∀h',sY h' I D (.ref T) (i+1) es.size ep->Oz I s.heap h'->Q (some e.2) {s with heap:=h'}):NS (NX prog w) A (Pb (.ref I)) Q E s:=by
 have ty:=hi.ty;obtain⟨o,ho,hc,hd⟩:=hi;unfold Pb;refine NK (O3 (Oi (name:=Pg "__next__") ty cj (Oe cj ty ip ?_ (iu _))));show NS _ _ (fieldsOf (.ref I) >>= _) _ _ s;refine NK (PU ho hd ?_);show NS _ _ (Pa D >>= _) _ _ s;unfold Pa;refine NK (NK (iI hS hf (NL ?_)));dsimp only;rw[NC (by simp)];show NS _ _ (seqItems? (.ref T) >>= _) _ _ s;refine NK (OT hT hTd ?_);dsimp only;rw[TR,hp];dsimp only;rw[TR,TR];refine NK (uv hS hf he ?_);obtain⟨o3,ho3,hc3,hd3⟩:=qq (D:=D) (i:=1) (x:=QO ((i:Int)+1)) ho hc hd;exact NK (O9 ho hd (by simp) (NL ⟨_,rfl,NL (hQ _ ⟨o3,ho3,hc3,by rw[hd3];rfl⟩ (Oo ..))⟩))
theorem JY{I D T:Addr}{es:Array (Int×Value)}{ps:Array Value}{ep i c:Nat}{t:SetTable}{ot:Obj}{Q:Option Value->NN->Prop}(hh:A.handled=none)(hi:sY s.heap I D (.ref T) i es.size ep)(hS:eK s.heap D es ep t)(hf:t.fits es.size=true)
  (hT:s.heap.get? T=some ot) (hTd:ot.data=.seq ps c) (hp:ps[i]? =none)
  (hQ:∀h',Heap.ExtBut I s.heap h'->Q none {s with heap:=h'}):NS (NX prog w) A (Pb (.ref I)) Q E s:=by
 have ty:=hi.ty;obtain⟨o,ho,hc,hd⟩:=hi;unfold Pb;refine NK (O3 (Oi (name:=Pg "__next__") ty cj (Oe cj ty ip ?_ (iu _))));show NS _ _ (fieldsOf (.ref I) >>= _) _ _ s;refine NK (PU ho hd ?_);show NS _ _ (Pa D >>= _) _ _ s;unfold Pa;refine NK (NK (iI hS hf (NL ?_)));dsimp only;rw[NC (by simp)];show NS _ _ (seqItems? (.ref T) >>= _) _ _ s;refine NK (OT hT hTd ?_);dsimp only;rw[TR,hp];dsimp only;refine NK (O9 ho hd (by simp) ?_);obtain⟨o2,ho2,hc2,hd2⟩:=qq (D:=D) (i:=0) (x:=QO 0) ho hc hd;refine NK (O9 ho2 hd2 (by simp) ?_);refine NK ?_;simp only[newExc,newTuple];refine NK (N9 ?_ (by size_fits));refine NK (m:=PZ _ _) (Qa (a:=OE) (by first|rfl|(simp only[PZ];rfl)) ?_)
 refine N9 ?_ (by size_fits);simp only[raiseNew];refine NK (wpAny_handled ?_);rw[show A.in1.handled=none from hh];refine NK (NL (wpAny_throw ?_));refine NK (Py (T:="StopIteration") (b:=true) ⟨_,NW _ rfl,rfl⟩ QQ ?_);exact NL (hQ _ ((((Oo ..).trans (Oo ..)).extBut.push _).push _))
theorem pD{I D:Addr}{f:Value}{i n ep:Nat}{Q:NI}(hi:sY s.heap I D f i n ep)(h:Q (.ref I) s):NS (NX prog w) A (pyIter (.ref I)) Q E s:=by refine wpAny_pyIter_slot hi.ty md (Oe md hi.ty uQ ?_ (vg _));show NS _ _ (ret (.ref I)) _ _ s;exact NL ⟨_,rfl,"set_iterator",_,hi.ty,cj.lookup,h⟩
end
def dm(es:Array (Int×Value)):List Value:=es.toList.map (·.2)
structure WS3(prog:NP)(w:NT)(s:NN)(D:Addr)(vs:List Value)(h':NZ)(I:Addr):Prop where
 ex:∃(fp:List Addr)(St:Nat->NZ->Prop),(∀A':N1,A'.handled=none->Walks prog w A' I fp [I] vs.length (λi v=>vs[i]? =some v) St)/\St 0 h'/\(∀b∈fp,b=D\/s.heap.objs.size<=b)/\I∈fp/\(∀b∈fp,b<h'.objs.size)/\s.heap.objs.size<=I
section
variable{prog:NP}{w:NT}
theorem wI{I D:Addr}(hne:D≠I){es:Array (Int×Value)}{ep:Nat}{t:SetTable}(g:SG (!w.params.followText "set-order") es.size t)(hb:w.params.followText "set-order"=false)(hp:t.plain=true\/es.size<=1){A:N1}(hh:A.handled=none):
  Walks prog w A I [I,D] [I] (dm es).length (λi v=>(dm es)[i]? =some v) (λi h=>i<=es.size/\sY h I D (.int (slotAt t i:Nat) 0) i es.size ep/\eK h D es ep t) where
 sub:=λb hb=>by
  have:b=I:=by simpa using hb
  simp[this]
 frame:=λi h h' st k=>⟨st.1,st.2.1.keep λo e=>k I (by simp) o e,st.2.2.keep λo e=>k D (by simp) o e⟩
 item:=λi s Q E hi st hQ=>by
  have hl:(dm es).length=es.size:=by simp[dm]
  have hi':i<es.size:=by lia
  have hps:t.place.size=es.size:=by have:=g.fits;unfold Q0 at this;rw[T6]at this;exact beq_iff_eq.mp this.1
  have hv:(dm es)[i]? =some es[i].2:=by unfold dm;rw[RE,Ul,Uk hi'];rfl
  refine sC (x:=es[i].2) (next:=slotAt t (i+1)) st.2.1 st.2.2 g.fits (λQ' E' q=>om st.2.2 g hb hp (jJ g.ris (by lia)) ?_) λh' a b=>?_
  .rw[Uk hi',Uk (by lia)];have e:slotAt t (i+1)=t.place[i]+1:=by unfold slotAt;rw[NC (Nat.succ_ne_zero i),Nat.add_sub_cancel,bG (by lia)]
   rw[e]at q;exact q
  .exact hQ _ h' s.toks hv ⟨hi',a,st.2.2.keep λo e=>b.extBut D o hne e⟩ λc o hc e=>b.extBut c o (λz=>hc (by simp[z])) e
 done:=λs Q E st hQ=>by
   have hl:(dm es).length=es.size:=by simp[dm]
   have hps:t.place.size=es.size:=by have:=g.fits;unfold Q0 at this;rw[T6]at this;exact beq_iff_eq.mp this.1
   rw[hl]at st;refine wo hh st.2.1 st.2.2 g.fits (λQ' E' q=>om st.2.2 g hb hp (jJ g.ris (by lia)) ?_) λh' a=>hQ h' s.toks λc o hc e=>a c o (λz=>hc (by simp[z])) e;rw[Uo (Tj _)];exact q
 self:=λ_ _ _ _ st hQ=>pD st.2.1 hQ
theorem wH{I D:Addr}(hne:D≠I){es:Array (Int×Value)}{ep:Nat}{t:SetTable}(hf:t.fits es.size=true)(hb:w.params.followText "set-order"=true){A:N1}(hh:A.handled=none):
  Walks prog w A I [I,D] [I] (dm (Pp (w.params.setOrder D ep) es)).length (λi v=>(dm (Pp (w.params.setOrder D ep) es))[i]? =some v) (λi h=>sY h I D (.int (0:Nat) 0) i es.size ep/\eK h D es ep t) where
 sub:=λb hb=>by
  have:b=I:=by simpa using hb
  simp[this]
 frame:=λi h h' st k=>⟨st.1.keep λo e=>k I (by simp) o e,st.2.keep λo e=>k D (by simp) o e⟩
 item:=λi s Q E hi st hQ=>by
  have hi':i<(Pp (w.params.setOrder D ep) es).size:=by simpa[dm]using hi
  have hv:(dm (Pp (w.params.setOrder D ep) es))[i]? =some (Pp (w.params.setOrder D ep) es)[i].2:=by unfold dm;rw[RE,Ul,Uk hi'];rfl
  refine sC (x:=(Pp (w.params.setOrder D ep) es)[i].2) (next:=0) st.1 st.2 hf (λQ' E' q=>oj st.2 hf hb ?_) λh' a b=>?_
  .rw[Uk hi'];exact q
  .exact hQ _ h' s.toks hv ⟨a,st.2.keep λo e=>b.extBut D o hne e⟩ λc o hc e=>b.extBut c o (λz=>hc (by simp[z])) e
 done:=λs Q E st hQ=>by refine wo hh st.1 st.2 hf (λQ' E' q=>oj st.2 hf hb ?_) λh' a=>hQ h' s.toks λc o hc e=>a c o (λz=>hc (by simp[z])) e;rw[Uo (by simp[dm])];exact q
 self:=λ_ _ _ _ st hQ=>pD st.1 hQ
theorem CV{I D T:Addr}(hne:D≠I)(hT:T≠I){es:Array (Int×Value)}{ep:Nat}{t:SetTable}(hf:t.fits es.size=true)(ks:List Nat)(hk:∀k∈ks,k<es.size){A:N1}(hh:A.handled=none):
  Walks prog w A I [I,D,T] [I] (ks.map λk=>(es.getD k (0,.none)).2).length (λi v=>(ks.map λk=>(es.getD k (0,.none)).2)[i]? =some v) (λi h=>sY h I D (.ref T) i es.size ep/\eK h D es ep t/\∃ot c,h.get? T=some ot/\ot.data=.seq (ks.map λ(k:Nat)=>Pf k 0).toArray c) where
 sub:=λb hb=>by
  have:b=I:=by simpa using hb
  simp[this]
 frame:=λi h h' st k=>⟨st.1.keep λo e=>k I (by simp) o e,st.2.1.keep λo e=>k D (by simp) o e,let ⟨ot,c,h1,h2⟩:=st.2.2;⟨ot,c,k T (by simp) ot h1,h2⟩⟩
 item:=λi s Q E hi st hQ=>by
  have hi':i<ks.length:=by simpa using hi
  obtain⟨s1,s2,ot,c,h1,h2⟩:=st;have hki:ks[i]<es.size:=hk _ (RU hi');refine DF (k:=ks[i]) (e:=es[ks[i]]) s1 s2 hf h1 h2 (by simp[hi']) (Uk hki) λh' a b=>?_;refine hQ _ h' s.toks ?_ ⟨a,s2.keep λo e=>b.extBut D o hne e,ot,c,b.extBut T ot hT h1,h2⟩ λc o hc e=>b.extBut c o (λz=>hc (by simp[z])) e;rw[RE,RC hi'];show some (es.getD ks[i] (0,.none)).2=_;rw[bG hki]
 done:=λs Q E st hQ=>by obtain⟨s1,s2,ot,c,h1,h2⟩:=st;exact JY hh s1 s2 hf h1 h2 (by simp) λh' a=>hQ h' s.toks λc o hc e=>a c o (λz=>hc (by simp[z])) e
 self:=λ_ _ _ _ st hQ=>pD st.1 hQ
end
section
variable{prog:NP}{w:NT}{A:N1}{E:NI}
theorem BV{α:Type}:∀(n:Nat)(xs:List α)(s:NN)(Q:List α->NN->Prop),xs.length=n->(∀l d,l.Perm xs->Q l {s with drawn:=d})->NS (NX prog w) A (drawOrder n xs) Q E s
 |0,xs,s,Q,hn,h=>by have:xs=[]:=SS.mp hn;subst this;exact NL (h [] s.drawn (List.Perm.refl _))
 |n+1,[],s,Q,hn,h=>by cases hn
 |n+1,x::xs,s,Q,hn,h=>by
  show NS _ _ (do let i<-choose .order (x::xs).length;_) _ _ s;refine NK ?_;intro Γ p hΓ;unfold choose;rw[Sem.wp_choose];refine⟨Nat.succ_ne_zero _,?_⟩;have hi:(NX prog w).w.draws Source.order (s.drawn.get Source.order) % (x::xs).length<(x::xs).length:=TD _ (TF _);refine(NL (M:=NX prog w) (A:=A) (E:=E) ?_) Γ p hΓ;rw[RC hi];dsimp only;refine NK (BV n _ _ _ ?_ λl d hp=>?_)
  .rw[Td hi];lia
  .exact NL (h _ d ((List.Perm.cons _ hp).trans (mR (RC hi))))
end
section
variable{prog:NP}{w:NT}{A:N1}{E:NI}{s:NN}
theorem ub{es:Array (Int×Value)}{l:List Nat}(h:l.Perm (List.range es.size)):(l.map λk=>(es.getD k (0,.none)).2).Perm (dm es):=by
 refine(h.map _).trans (List.Perm.of_eq ?_);unfold dm;apply So;intro i;have e0:es.toList[i]? =es[i]? :=Ul;rw[RE,RE,e0]
 by_cases hi:i<es.size
 .rw[Sb hi,Uk hi];show some (es.getD i (0,.none)).2=some es[i].2;rw[bG hi]
 .rw[R5 (by simpa using hi),Uo (by lia)];rfl
theorem Bo{D:Addr}{es:Array (Int×Value)}{ep:Nat}{t:SetTable}{Q:NI}(hS:eK s.heap D es ep t)(g:SG (!w.params.followText "set-order") es.size t)(hz:es.size<=sizeLine)
  (hQ:∀(vs:List Value)(h':NZ)(I:Addr) d,vs.Perm (dm es)->WS3 prog w s D vs h' I->(∀b o,s.heap.get? b=some o->h'.get? b=some o)->Q (.ref I) {s with heap:=h',drawn:=d}):NS (NX prog w) A (pyIter (.ref D)) Q E s:=by
 have ty:s.TypeIs (.ref D) "set":=let ⟨o,h1,h2,_⟩:=hS;⟨o,h1,h2.1⟩;have hlt:D<s.heap.objs.size:=let ⟨o,h1,_⟩:=hS;NQ h1;refine wpAny_pyIter_slot ty F.slot_set_iter (Oe F.slot_set_iter ty sL ?_ (F.args_set_iter_1 _));show NS _ _ (Qk D >>= _) _ _ s;unfold Qk Pa;refine NK (NK (NK (iI hS g.fits (NL (NL ?_)))));dsimp only;refine NK ?_;unfold setDrawn;refine NK (iI hS g.fits ?_);dsimp only;refine NK (j9 (NL ?_));have fin:∀(first:Value)(h1:NZ)(d:Drawn),(∀b o,s.heap.get? b=some o->h1.get? b=some o)->s.heap.objs.size<=h1.objs.size->(∀I h',sY h' I D first 0 es.size ep->eK h' D es ep t->D<I->s.heap.objs.size<=I->h1.objs.size<=I->I<h'.objs.size->(∀b o,h1.get? b=some o->h'.get? b=some o)->∃vs:List Value,vs.Perm (dm es)/\WS3 prog w s D vs h' I)->
   NS (NX prog w) A.in1 (do let n<-setEpoch D;let x<-newFields "set_iterator" [first,QO 0,.ref D,QO es.size,QO n];ret x) (λr s'=>∃v,r=.done (.ret v)/\∃T' r',s'.TypeIs v T'/\Q3 (.type T') "__next__"=pure (some r')/\Q v s') E {s with heap:=h1,drawn:=d}:=λfirst h1 d k hs f=>by
  have hS1:eK h1 D es ep t:=hS.keep λo e=>k D o e;unfold setEpoch;refine NK (NK (iI hS1 g.fits (NL ?_)));refine NK (N9 (NL ?_) (by size_fits));have k2:∀b o,h1.get? b=some o->(h1.push {cls:=.type "set_iterator",data:=.fields #[first,.int 0 0,.ref D,.int es.size 0,.int ep 0]}).get? b=some o:=λb o e=>NO _ e;have hI:sY (h1.push {cls:=.type "set_iterator",data:=.fields #[first,.int 0 0,.ref D,.int es.size 0,.int ep 0]}) h1.objs.size D first 0 es.size ep:=⟨_,NW _ rfl,rfl,rfl⟩;obtain⟨vs,p,W⟩:=f _ _ hI (hS1.keep λo e=>k2 D o e) (To hlt hs) hs (Tj _) (by rw[Op];exact Tz _) k2;exact⟨_,rfl,"set_iterator",_,⟨_,NW _ rfl,rfl⟩,cj.lookup,hQ vs _ _ d p W λb o e=>k2 b o (k b o e)⟩
 cases hb:w.params.followText "set-order"with
 |true=>
  rw[NC (by simp)];refine NK (NL (fin _ s.heap s.drawn (λ_ _ e=>e) (Tj _) λI h' a b c1 c2 c3 c4 k=>⟨_,(xa (w.params.setOrder D ep) es).map _,⟨[I,D],_,λA' hA=>wH (Tk c1) g.fits hb hA,⟨a,b⟩,?_,by simp,?_,c2⟩⟩))
  .intro x hx;simp only[RB,RW,or_false]at hx
   rcases hx with rfl|rfl
   .exact .inr c2
   .exact .inl rfl
  .intro x hx;simp only[RB,RW,or_false]at hx
   rcases hx with rfl|rfl
   .exact c4
   .exact Ts c1 c4
 |false=>
  split
  .rename_i hd;have hd:(!t.plain&&decide (es.size > 1))=true:=hd;refine NK (BV es.size (List.range es.size) s _ (by simp) λl d hp=>?_);refine NK (N9 ?_ ?_)
   .refine fin _ _ d (λb o e=>NO _ e) (by rw[Op];exact Tp _) λI h' a b c1 c2 c3 c4 k=>⟨_,ub hp,⟨[I,D,s.heap.objs.size],_,λA' hA=>CV (T:=s.heap.objs.size) (Tk c1) (Tk (To (by rw[Op];exact Tz _) c3)) g.fits l (λx hx=>by simpa using hp.mem_iff.mp hx) hA,⟨a,b,_,_,k _ _ (NW _ rfl),rfl⟩,?_,by simp,?_,c2⟩⟩
    .intro x hx;simp only[RB,RW,or_false]at hx
     rcases hx with rfl|rfl|rfl
     .exact .inr c2
     .exact .inl rfl
     .exact .inr (Tj _)
    .intro x hx;simp only[RB,RW,or_false]at hx
     rcases hx with rfl|rfl|rfl
     .exact c4
     .exact Ts c1 c4
     .exact Nat.lt_of_le_of_lt c2 c4
   .have:=hp.length_eq;simp only[Sa]at this;simp[sizeOk,this,hz]
  .rename_i hd;have hd:¬(!t.plain&&decide (es.size > 1))=true:=hd;have hp:t.plain=true\/es.size<=1:=by
    cases e:t.plain with
    |true=>exact .inl rfl
    |false=>
     right
     rw[e]at hd;simp at hd;lia
   refine NK (NL (fin _ s.heap s.drawn (λ_ _ e=>e) (Tj _) λI h' a b c1 c2 c3 c4 k=>⟨_,List.Perm.refl _,⟨[I,D],_,λA' hA=>wI (Tk c1) g hb hp hA,⟨Tl _,a,b⟩,?_,by simp,?_,c2⟩⟩))
   .intro x hx;simp only[RB,RW,or_false]at hx
    rcases hx with rfl|rfl
    .exact .inr c2
    .exact .inl rfl
   .intro x hx;simp only[RB,RW,or_false]at hx
    rcases hx with rfl|rfl
    .exact c4
    .exact Ts c1 c4
end
theorem uD:Q3 (.type "set") "__len__"=pure (some (.builtin "set.__len__")):=by rw[PH,O6];kernel_rfl
section
variable{prog:NP}{w:NT}{A:N1}{E:NI}{s:NN}
theorem Br{D:Addr}{Q:Bool->NN->Prop}(ty:s.TypeIs (.ref D) "set")(q:Q false s):NS (NX prog w) A (PM (.ref D)) Q E s:=by
 unfold PM;refine NK (QA ty uD ?_);generalize hx:("set.__len__":String)=x0
 wp_delta
 rw[show splitId x0=some ("set","__len__")from by subst hx;decide+kernel];subst hx;refine NK (Py (T:="set") (b:=true) ty (by rw[QP];kernel_rfl) ?_);refine QB (λz=>NG z (by decide)) (λ_=>QB (λ_=>?_) (λz=>NG (by decide+kernel) z));exact NK (OX ty (NL q))
abbrev lm:Obj:={cls:=.type "list",data:=.seq ([]:List Value).toArray}
theorem sO{D:Addr}{es:Array (Int×Value)}{ep:Nat}{t:SetTable}{Q:List Value->NN->Prop}(hh:A.handled=none)(hS:eK s.heap D es ep t)(g:SG (!w.params.followText "set-order") es.size t)(hz:es.size<=sizeLine)
  (q:∀(vs:List Value)(h':NZ) d tk,vs.Perm (dm es)->(∀b o,s.heap.get? b=some o->h'.get? b=some o)->s.heap.objs.size<h'.objs.size->s.toks<=tk->Q vs {s with heap:=h',drawn:=d,toks:=tk}):NS (NX prog w) A (collect (.ref D)) Q E s:=by
 have hlt:D<s.heap.objs.size:=let ⟨o,h1,_⟩:=hS;NQ h1;unfold collect;refine NK (QL (Oc F.entry_proto_collect ?_));rw[Ob F.plain_proto_collect _];show NS _ A.in1 (newList [] >>= λl=>again (.builtin "list.__iadd__" ⟨[l,.ref D],[]⟩)) _ _ s;refine NK (N9 (NL ⟨O4 F.plain_list_iadd _,Oc F.entry_list_iadd ?_⟩));rw[Ob F.plain_list_iadd _];have kp:∀b o,s.heap.get? b=some o->(s.heap.push lm).get? b=some o:=λb o e=>NO _ e;have hS1:eK (s.heap.push lm) D es ep t:=hS.keep λo e=>kp D o e;have ty1:PC {s with heap:=s.heap.push lm} (.ref D) "set":=let ⟨o,h1,h2,_⟩:=hS1;⟨o,h1,h2.1⟩;have gL:(s.heap.push lm).get? s.heap.objs.size=some lm:=NW _ rfl;show NS _ A.in1 (PN (.ref s.heap.objs.size) (.ref D) (.ref s.heap.objs.size)) _ _ _;unfold PN;refine NK (OX ty1 ?_);have n1:OR (.ref s.heap.objs.size) (.ref D)=false:=by simp[OR,Tr hlt]
 rw[NC (by rw[n1];decide)];refine NK (Bo (s:={s with heap:=s.heap.push lm}) hS1 g hz λvs h' I d hp W k=>?_);obtain⟨fp,St,W,st,f1,f2,f3,f4⟩:=W.ex;have hvl:vs.length<=sizeLine:=by
  have:=hp.length_eq;have e:(dm es).length=es.size:=by simp[dm]
  lia
 have nS:s.heap.objs.size∉fp:=λz=>by
  rcases f1 _ z with e|e
  .exact Tr hlt e
  .have e:(s.heap.push lm).objs.size<=s.heap.objs.size:=e;rw[Op]at e;exact Tq _ e
 have ty2:PC {s with heap:=h',drawn:=d} (.ref D) "set":=let ⟨o,h1,h2,_⟩:=hS1;⟨o,k _ _ h1,h2.1⟩;refine NK (N4 (Br ty2 ?_));have gL2:=k _ _ gL;refine QB (λ_=>?_) (λz=>NG (by decide+kernel) z);refine NK (wpAny_rule (NK ?_));show NS _ _ (updateSeq s.heap.objs.size (·.push .none) >>= λ_=>updateSeq s.heap.objs.size (·.pop)) _ _ _;refine NK (Qz gL2 rfl ?_);have gL3:=OK (On (·.push OE)) gL2 rfl;refine Qz (hz:=by seq_fits) gL3 rfl ?_;have gL4:=OK (On (·.pop)) gL3 rfl;have oth:∀b o,b≠s.heap.objs.size->h'.get? b=some o->((h'.update s.heap.objs.size (On (·.push OE))).update s.heap.objs.size (On (·.pop))).get? b=some o:=
  λb o hb e=>(OG _ _ (Ne.symm hb)).trans ((OG _ _ (Ne.symm hb)).trans e)
 refine NL ⟨O4 F.plain_extend_loop _,codeAny_extend_loopS (A:=A) (W A.in1 hh).toS hvl _ nS _ vs.length 0 _ _ _ rfl (Tl _) ((W A.in1 hh).frame 0 _ _ st λb hb o e=>oth b o (λz=>nS (z▸hb)) e) gL4 (ItemsOf.nil _) λs2 acc c hm gA hacc=>?_⟩;show NS _ A (load s.heap.objs.size >>= _) _ _ s2;refine NK (wpAny_load gA ?_);have ea:acc.toList=vs:=by
  apply So;intro i;rw[Ul]
  by_cases hi:i<acc.size
  .have:=hacc.2 i acc[i] (Uk hi);rw[Uk hi,this]
  .rw[Uo (by lia),R5 (by have:=hacc.1;lia)]
 refine NL ?_;rw[ea];obtain⟨h2,g2,d2,t2,o2⟩:=s2;obtain rfl:g2=s.gens:=hm.gens;obtain rfl:d2=d:=hm.drawn;obtain rfl:o2=s.os:=hm.os;refine q vs _ _ _ hp (λb o e=>?_) (NQ gA) ?_
 .have hb:b≠s.heap.objs.size:=Tk (NQ e);refine hm.heap b o (λz=>?_) (oth b o hb (k b o (kp b o e)))
  rcases RB.mp z with z|z
  .exact hb z
  .have z:b=I:=RL.mp z;have e2:(s.heap.push lm).objs.size<=I:=f4;rw[Op]at e2;exact NG (NQ e) (by rw[z];exact Nat.not_lt.mpr (Nat.le_of_succ_le e2))
 .exact hm.toks
end
section
variable{prog:NP}{w:NT}{κ:Type}[DecidableEq κ]{knd:KeyKind prog w κ}{A:N1}{E:NI}{s:NN}
theorem eK.put{h:NZ}{D:Addr}{es:Array (Int×Value)}{ep:Nat}{t:SetTable}(x:eK h D es ep t)(es':Array (Int×Value))(t':SetTable):eK (h.update D (Qy es' t')) D es' (ep+1) t':=by obtain⟨o,ho,hx,hd⟩:=x;have e:=OK (Qy es' t') ho (by rw[putSet_of es' t' hd];rfl);rw[putSet_of es' t' hd]at e;exact⟨_,e,hx,rfl⟩
theorem AQ{D:Addr}{es es':Array (Int×Value)}{ep:Nat}{t t':SetTable}{Q:Unit->NN->Prop}(x:eK s.heap D es ep t)(hz:es'.size<scanBound)(q:Q () {s with heap:=s.heap.update D (Qy es' t')}):NS (NX prog w) A (storeSet D es' t') Q E s:=by obtain⟨o,ho,_,hd⟩:=x;exact wpAny_storeSet_of ho hd q (fits_of_scanBound hz)
end
section
variable{prog:NP}{w:NT}{A:N1}{E:NI}{s:NN}
theorem oh{k:List Int}{a:Addr}{Q:Bool->NN->Prop}(hk:N7 (intKind prog w) s.heap k a)(h:Q false s):NS (NX prog w) A (Qb 8 (.ref a)) Q E s:=by
 have hT:=hk.typeIs;obtain⟨o,items,n,ho,_,hd,hi⟩:=hk;unfold Qb;refine NK (OX hT ?_);dsimp only;rw[ND (by decide)];refine NK (NL ?_);simp only[Ud,T8,if_false];refine NK (OT ho hd ?_);dsimp only;refine NK ?_;rw[<-Uu];refine Qm _ (λrest r s'=>r.1=none/\s'=s/\∀v∈rest,carriedByValue v=true) _ ?_ ?_ _ _ ⟨rfl,rfl,hi.byValue⟩
 .rintro v rest r s' ⟨hr,rfl,hall⟩;have hv:=hall v RK;have e:Qb 7 v=pure false:=by
   cases v<;>first|rfl|(simp[carriedByValue]at hv)
  rw[e];refine NK (NL ?_);simp only[T8,if_false];exact NL ⟨rfl,rfl,λu hu'=>hall u (RF _ hu')⟩
 .rintro⟨r1,r2⟩ s' ⟨hr,rfl,_⟩;simp only at hr;subst hr;exact NL h
def El(prog:NP)(w:NT)(m:Addr->Prop)(h:NZ)(k:List Int)(e:Int×Value):Prop:= ∃a,m a/\e=(tupleKeyHash (intKind prog w) k,.ref a)/\N7 (intKind prog w) h k a
theorem IR{k:List Int}{x:Addr}{ys:List Value}{Q:Bool->NN->Prop}(hx:N7 (intKind prog w) s.heap k x)(hy:∀y∈ys,∃ki a,y=.ref a/\N7 (intKind prog w) s.heap ki a)(h:Q false s):
  NS (NX prog w) A (searchCouldBeSeen (.ref x) ys) Q E s:=by
 unfold searchCouldBeSeen;refine NK ?_;refine Qm _ (λrest r s'=>r.1=none/\s'=s/\∀v∈rest,∃ki a,v=.ref a/\N7 (intKind prog w) s.heap ki a) _ ?_ ?_ _ _ ⟨rfl,rfl,hy⟩
 .rintro v rest r s' ⟨hr,rfl,hall⟩;obtain⟨ki,a,rfl,ha⟩:=hall v RK;dsimp only;split
  .exact NL ⟨rfl,rfl,λu hu'=>hall u (RF _ hu')⟩
  .refine NK (QG hx ?_);simp only[Ud,T8,if_false];refine NK (QG ha ?_);simp only[Ud,T8,if_false];refine NK (oh hx ?_);simp only[T8,if_false];refine NK (oh ha ?_);simp only[T8,if_false];exact NL ⟨rfl,rfl,λu hu'=>hall u (RF _ hu')⟩
 .rintro⟨r1,r2⟩ s' ⟨hr,rfl,_⟩;simp only at hr;subst hr;exact NL h
theorem El.inj{m:Addr->Prop}{h:NZ}{k k':List Int}{e:Int×Value}(x:El prog w m h k e)(y:El prog w m h k' e):k=k':=by obtain⟨a,_,rfl,h1⟩:=x;obtain⟨b,_,e2,h2⟩:=y;injection e2 with _ e3;injection e3 with e4;subst e4;exact h1.inj h2
theorem iJ{m:Addr->Prop}{D:Addr}{es:Array (Int×Value)}{ep:Nat}{t:SetTable}{x:Addr}{k:List Int}{N:Nat}{h:Int}{Q:SetFound->NN->Prop}(eh:h=tupleKeyHash (intKind prog w) k)(hS:eK s.heap D es ep t)(g:tz es t)
  (hes:∀i,i<es.size->∃ki,El prog w m s.heap ki (es.getD i (0,.none))) (hx:N7 (intKind prog w) s.heap k x) (hu:A.units<OH) (he:t.slot (sl t.mask h N 0)=.empty) (hN:N<=t.mask+13)
  (q1:∀i,i<es.size->El prog w m s.heap k (es.getD i (0,.none))->Q (.there none) s)
  (q2:(∀i,i<es.size->¬El prog w m s.heap k (es.getD i (0,.none)))->∀n c,ke t.mask h n c->t.slot (sl t.mask h n c)=.empty->(∀a b,ke t.mask h a b->iE a b n c->¬t.slot (sl t.mask h a b)=.empty)->Q (.free (sl t.mask h n c) false) s):
  ∀(f n c:Nat)(stand:Option Pe),vj t.mask h n c (stand.getD (t.probeStart h))->(stand.getD (t.probeStart h)).dummy=none->(n<N\/(n=N/\c=0))->
   (∀a b,ke t.mask h a b->iE a b n c->∃i,t.slot (sl t.mask h a b)=.live i/\¬El prog w m s.heap k (es.getD i (0,.none)))->10*(N - n)+1<=f+c->NS (NX prog w) A (QW D (.ref x) h true f stand) Q E s
 |0,n,c,stand,a,hd,hn,hv,hf=>by have:=mq t.mask (lp t.mask h n).1;have:=a.ok;unfold ke at this;lia
 |f+1,n,c,stand,a,hd,hn,hv,hf=>by
  have hgw:t.gaveWay=false:=by unfold SetTable.gaveWay;have:=g.odd;simp;lia
  have c9:c<=9:=by have h1:=mq t.mask (lp t.mask h n).1;have h2:=a.ok;unfold ke at h2;lia
  have live_ix:∀{j i},t.slot j=.live i->i<es.size:=λ{j i} e=>by rw[<-g.ps];exact((kD g.ris).mp e).1
  unfold QW;refine NK (iI hS g.fits ?_);dsimp only;rw[hgw,NC T5];have fin:∀(hashAt:Nat->Int),(∀i,hashAt i=(es[i]?.map (·.1)).getD 0)->∃n' c' p',vj t.mask h n' c' p'/\(n'<N\/(n'=N/\c'=0))/\(iE n c n' c'\/(n=n'/\c=c'))/\(∀a b,ke t.mask h a b->(iE n c a b\/(n=a/\c=b))->iE a b n' c'->∃i,t.slot (sl t.mask h a b)=.live i/\¬hashAt i=h)/\
   ((t.slot (sl t.mask h n' c')=.empty/\t.probe hashAt h (stand.getD (t.probeStart h))=some (.empty (sl t.mask h n' c') none))\/
    (∃i,t.slot (sl t.mask h n' c')=.live i/\hashAt i=h/\t.probe hashAt h (stand.getD (t.probeStart h))=some (.candidate (sl t.mask h n' c') i (t.advance p'))/\n'<N/\p'.dummy=none)):=λhashAt _=>by
   obtain⟨n',c',p',b1,b2,b3,b4,b5⟩:=qu g.nd hashAt he (10*OJ t.mask) n c _ a hn (by unfold OJ;lia);rw[hd]at b5;exact⟨n',c',p',b1,b2,b3,b4,b5⟩
  split
  .rename_i met hm;obtain⟨hashAt,hha,hm⟩:∃fh:Nat->Int,(∀i,fh i=(es[i]?.map (·.1)).getD 0)/\t.probe fh h (stand.getD (t.probeStart h))=some met:=⟨_,λi=>rfl,hm⟩;obtain⟨n',c',p',b1,b2,b3,b4,b5⟩:=fin hashAt hha;have hv':∀a b,ke t.mask h a b->iE a b n' c'->∃i,t.slot (sl t.mask h a b)=.live i/\¬El prog w m s.heap k (es.getD i (0,.none)):=λa b o l=>by
    by_cases l2:iE a b n c
    .exact hv a b o l2
    .obtain⟨i,h1,h2⟩:=b4 a b o (by unfold iE at *;lia) l;refine⟨i,h1,λ⟨y,_,e,_⟩=>h2 ?_⟩;have hi:=live_ix h1;rw[hha i,Uk hi];rw[bG hi]at e;rw[e,eh];rfl
   rcases b5 with⟨e1,e2⟩|⟨i,e1,e2,e3,e4,e5⟩
   .rw[e2]at hm;injection hm with hm;subst hm;dsimp only;refine NL (q2 (λi hi hE=>?_) n' c' b1.ok e1 λa b o l z=>?_)
    .obtain⟨n0,c0,o0,e0,hb⟩:=g.pl i hi;have hh:(es.getD i (0,.none)).1=h:=by obtain⟨y,_,e,_⟩:=hE;rw[e,eh]
     rw[hh]at o0 e0 hb;have hsl:t.slot (t.place.getD i 0)=.live i:=(kD g.ris).mpr ⟨by rw[g.ps];exact hi,rfl⟩
     by_cases l1:iE n0 c0 n' c'
     .obtain⟨j,z1,z2⟩:=hv' n0 c0 o0 l1;rw[e0,hsl]at z1;injection z1 with z1;subst z1;exact z2 hE
     .by_cases l2:iE n' c' n0 c0
      .exact hb n' c' b1.ok l2 e1
      .have:n0=n'/\c0=c':=by unfold iE at *;lia
       obtain⟨rfl,rfl⟩:=this;rw[e0,hsl]at e1;cases e1
    .obtain⟨i,z1,_⟩:=hv' a b o l;rw[z1]at z;cases z
   .rw[e3]at hm;injection hm with hm;subst hm;have hi:=live_ix e1;obtain⟨ki,y,my,ey,hy⟩:=hes i hi;have eg:es[i]? =some (tupleKeyHash (intKind prog w) ki,NY y):=by rw[Uk hi,<-bG hi,ey]
    have hsm:t.sameMemory t.moves t.mask=some true:=by unfold SetTable.sameMemory;rw[ND (by simp)]
    have hmo:∀n2 c2,ke t.mask h n2 c2->iE n' c' n2 c2\/(n'=n2/\c'=c2)\/iE n2 c2 n' c':=λn2 c2 _=>by unfold iE;lia
    have again:¬ki=k->NS (NX prog w) A (QW D (.ref x) h true f (some (t.advance p'))) Q E s:=λne=>by
     have hd':(t.advance p').dummy=none:=by unfold PB;split<;>exact e5
     have hvn:∀n2 c2,(∀a b,ke t.mask h a b->iE a b n2 c2->iE a b n' c'\/(a=n'/\b=c'))->∀a b,ke t.mask h a b->iE a b n2 c2->∃i,t.slot (sl t.mask h a b)=.live i/\¬El prog w m s.heap k (es.getD i (0,.none)):=λn2 c2 z a b o l=>by
      rcases z a b o l with q|⟨rfl,rfl⟩
      .exact hv' a b o q
      .exact⟨i,e1,λq=>ne (El.inj ⟨y,my,ey,hy⟩ q)⟩
     by_cases hm:0<p'.more
     .refine iJ eh hS g hes hx hu he hN q1 q2 f n' (c'+1) (some (t.advance p')) (b1.more hm) hd' (.inl e4) (hvn _ _ λa b o l=>by unfold iE at *;lia) ?_;unfold iE at b3;lia
     .have hck:=b1.2.2.2;have hc9:=mq t.mask (lp t.mask h n').1;refine iJ eh hS g hes hx hu he hN q1 q2 f (n'+1) 0 (some (t.advance p')) (b1.leap hm) hd' (by lia) (hvn _ _ λa b o l=>?_) ?_
      .unfold ke at o;unfold iE at*
       by_cases e2:a=n'
       .subst e2;lia
       .lia
      .have:=b1.ok;unfold ke at this;unfold iE at b3;lia
    dsimp only;rw[eg];dsimp only;split
    .refine NK (IR hx (λv hv2=>?_) ?_)
     .rw[RA]at hv2;obtain⟨e,he2,rfl⟩:=hv2;rw[Array.toList_filter,R0]at he2;obtain⟨r,hr,rfl⟩:=Sh he2.1;have hr2:r<es.size:=by simpa using hr
      obtain⟨kr,z,_,ez,hz⟩:=hes r hr2;rw[bG hr2]at ez;exact⟨kr,z,by rw[Ut,ez],hz⟩
     .rw[NC T5];refine NK (N4 (wpAny_eqBool_tuple hu hy hx (NK (iI hS g.fits ?_))));dsimp only
      by_cases ek:ki=k
      .rw[NA ek,ND (by decide)];subst ek;exact NL (q1 i hi ⟨y,my,ey,hy⟩)
      .rw[NB ek,NC (by simp),hsm];dsimp only;rw[ND rfl,e1];dsimp only;rw[eg];dsimp only;refine NK ?_;unfold isSame;dsimp only;rw[ND (by simp)];refine NL ?_;rw[ND rfl];refine NK (NL ?_);dsimp only;rw[NC T5];exact again ek
    .refine NK (N4 (wpAny_eqBool_tuple hu hy hx (NK (iI hS g.fits ?_))));dsimp only
     by_cases ek:ki=k
     .rw[NA ek,ND (by decide)];subst ek;exact NL (q1 i hi ⟨y,my,ey,hy⟩)
     .rw[NB ek,NC (by simp),hsm];dsimp only;rw[ND rfl,e1];dsimp only;rw[eg];dsimp only;refine NK ?_;unfold isSame;dsimp only;rw[ND (by simp)];refine NL ?_;rw[ND rfl];refine NK (NL ?_);dsimp only;rw[NC T5];exact again ek
  .rename_i hm;exfalso;obtain⟨hashAt,hha,hm⟩:∃fh:Nat->Int,(∀i,fh i=(es[i]?.map (·.1)).getD 0)/\∀met,t.probe fh h (stand.getD (t.probeStart h))=some met->False:=⟨_,λi=>rfl,hm⟩;obtain⟨n',c',p',b1,b2,b3,b4,b5⟩:=fin hashAt hha
   rcases b5 with⟨e1,e2⟩|⟨i,e1,e2,e3,_⟩
   .exact hm _ e2
   .exact hm _ e3
end
section
variable{prog:NP}{w:NT}{A:N1}{E:NI}{s:NN}
theorem Bt{k:List Int}{a:Addr}{Q:Bool->NN->Prop}(hk:N7 (intKind prog w) s.heap k a)(h:∀b,Q b s):NS (NX prog w) A (hashByValue 8 (.ref a)) Q E s:=by
 have hT:=hk.typeIs;obtain⟨o,items,n,ho,_,hd,hi⟩:=hk;unfold hashByValue;refine NK (QA hT F.slot_tuple_hash.lookup ?_);dsimp only;refine NK (OT ho hd ?_);refine NK ?_;show NS _ _ (forIn items _ _) _ _ s;rw[<-Uu];refine Qm _ (λrest r s'=>s'=s/\∀v∈rest,carriedByValue v=true) _ ?_ ?_ _ _ ⟨rfl,hi.byValue⟩
 .rintro v rest r s' ⟨rfl,hall⟩;have hv:=hall v RK;have e:∃b,hashByValue 7 v=pure b:=by
   cases v<;>first|exact⟨_,rfl⟩|(simp[carriedByValue]at hv)
  obtain⟨b,e⟩:=e;rw[e];refine NK (NL ?_);split
  .exact NL (NL (h _))
  .exact NL ⟨rfl,λu hu'=>hall u (RF _ hu')⟩
 .rintro⟨r1,r2⟩ s' ⟨rfl,_⟩;cases r1 with
  |none=>exact NL (h _)
  |some b=>exact NL (h _)
theorem TK.same{h h':NZ}{k:List Int}{a D:Addr}{es:Array (Int×Value)}{ep:Nat}{t:SetTable}(x:N7 (intKind prog w) h k a)(hS:eK h D es ep t)(b:Oz D h h'):N7 (intKind prog w) h' k a:=by
 obtain⟨o,items,n,ho,hc,hd,hi⟩:=x;obtain⟨o',ho',hx',hd'⟩:=hS;have hne:a≠D:=by rintro rfl;obtain rfl:o=o':=Option.some.inj (ho.symm.trans ho');rw[hd]at hd';exact nomatch hd'
 exact⟨o,items,n,(b.2 a hne).trans ho,hc,hd,hi⟩
theorem El.same{m:Addr->Prop}{h h':NZ}{k:List Int}{e:Int×Value}{D:Addr}{es:Array (Int×Value)}{ep:Nat}{t:SetTable}(x:El prog w m h k e)(hS:eK h D es ep t)(b:Oz D h h'):El prog w m h' k e:=let ⟨a,h0,h1,h2⟩:=x;⟨a,h0,h1,TK.same h2 hS b⟩
def Rm(mask n:Nat):Prop:=(mask=7\/mask=31\/mask=127\/mask=511)/\n*5<mask*3
structure ST(prog:NP)(w:NT)(m:Addr->Prop)(h:NZ)(es:Array (Int×Value))(t:SetTable):Prop where
 el:∀e∈es.toList,∃k,El prog w m h k e
 nd:es.toList.Pairwise λe e'=>∀k,El prog w m h k e->¬El prog w m h k e'
 tg:tz es t
 led:t.led= !w.params.followText "set-order"
 rm:Rm t.mask es.size
def iW(prog:NP)(w:NT)(m:Addr->Prop)(h:NZ)(D:Addr)(S:List Int->Bool)(n:Nat):Prop:= ∃es ep t,eK h D es ep t/\ST prog w m h es t/\(∀k,S k=true<->∃e∈es.toList,El prog w m h k e)/\es.size=n
theorem C9{mask:Nat}{n:Nat}(r:Rm mask n):lc (mask+1):=by
 obtain⟨rfl|rfl|rfl|rfl,_⟩:=r
 .exact Hn
 .exact JQ
 .exact DQ
 .exact DP
theorem tz.off{es:Array (Int×Value)}{t:SetTable}(g:tz es t)(b:Bool):tz es {t with plain:=b}:=⟨g.ps,g.ris,g.nd,g.full,g.odd,g.fit,g.pl⟩
theorem MF{m:Addr->Prop}{D:Addr}{S:List Int->Bool}{n:Nat}{k:List Int}{x:Addr}{Q:Bool->NN->Prop}(hx:N7 (intKind prog w) s.heap k x)(hxm:m x)(hu:A.units<OH)(hS:iW prog w m s.heap D S n)(hr:n+1<307)
  (q:∀h',Oz D s.heap h'->iW prog w m h' D (λk'=>S k'||decide (k'=k)) (if S k then n else n+1)->Q (!S k) {s with heap:=h'}):NS (NX prog w) A (setAddHashed D (.ref x) (tupleKeyHash (intKind prog w) k)) Q E s:=by
 obtain⟨es,ep,t,o1,st,hm,rfl⟩:=hS;have g:=st.tg;unfold setAddHashed setAddHashedIn;refine N4 (NK (iI o1 g.fits ?_));dsimp only;have hbs:byScan (.ref x) es=false:=rfl;rw[hbs,NC T5];refine NK ?_;unfold setSearch;obtain⟨e0,he0,hee⟩:=xK g.ris g.nd g.fit;obtain⟨N,hN,eN⟩:=v1 g.full (tupleKeyHash (intKind prog w) k) he0;have hb:t.mask<=511:=by obtain⟨h1,_⟩:=st.rm;lia
 refine iJ (m:=m) (N:=N) rfl o1 g (λi hi=>?_) hx hu ?_ hN (λi hi hE=>?_) (λhno n' c' ok em before=>?_) 100000 0 0 none vj.start rfl ?_ (λa b _ l=>?_) ?_
 .refine st.el _ ?_;rw[bG hi];simp
 .show t.slot ((lp t.mask _ N).1+0)=_;rw[Nat.add_zero,eN];exact hee
 .dsimp only;have hs:S k=true:=(hm k).mpr ⟨_,by rw[bG hi];simp,hE⟩;refine NL ?_;have z:=q s.heap (Heap.SameBut.refl D s.heap) ⟨es,ep,t,o1,st,λk'=>?_,by rw[hs];rfl⟩
  .rw[hs]at z;exact z
  .rw[Uc,decide_eq_true_eq,<-hm k'];exact⟨λy=>y.elim id (λe=>e▸hs),.inl⟩
 .dsimp only;have hs:S k=false:=by
   cases y:S k with
   |false=>rfl
   |true=>
    obtain⟨e,a1,a2⟩:=(hm k).mp y;obtain⟨i,hi,rfl⟩:=Sh a1;have hi2:i<es.size:=by simpa using hi
    exact NG (by rw[bG hi2];simpa using a2) (hno i hi2)
  have hroom:es.size+1<=t.mask:=by obtain⟨h1,h2⟩:=st.rm;lia
  have g1:=g.put (x:=.ref x) ok em before hroom;refine NK (iI o1 g.fits ?_);dsimp only;have hled:(t.put (sl t.mask (tupleKeyHash (intKind prog w) k) n' c')).1.led=t.led:=rfl;have hmask:(t.put (sl t.mask (tupleKeyHash (intKind prog w) k) n' c')).1.mask=t.mask:=rfl;have p1:=Ps es (t.put (sl t.mask (tupleKeyHash (intKind prog w) k) n' c')).2 (tupleKeyHash (intKind prog w) k,NY x);generalize t.put (sl t.mask (tupleKeyHash (intKind prog w) k) n' c')=P at g1 hled hmask p1 ⊢;obtain⟨t1,p⟩:=P;dsimp only at g1 hled hmask p1 ⊢;generalize Oa es p (tupleKeyHash (intKind prog w) k,NY x)=es1 at g1 p1 ⊢;rw[Us]at p1;have hz1:es1.size=es.size+1:=by have:=p1.length_eq;simpa using this
  have hex:El prog w m s.heap k (tupleKeyHash (intKind prog w) k,NY x):=⟨x,hxm,rfl,hx⟩;have el1:∀e∈es1.toList,∃k,El prog w m s.heap k e:=λe he=>by
   rcases RM.mp (p1.mem_iff.mp he)with y|y
   .exact st.el e y
   .rw[RL]at y;subst y;exact⟨k,hex⟩
  have nd1:es1.toList.Pairwise λe e'=>∀k,El prog w m s.heap k e->¬El prog w m s.heap k e':=by refine(p1.pairwise_iff (λ{e e'} z k h1 h2=>z k h2 h1)).mpr (Tb.mpr ⟨st.nd,Tf ..,λe he e' he' k' h1 h2=>?_⟩);rw[RL]at he';subst he';obtain rfl:=h2.inj hex;have:=(hm k').mpr ⟨e,he,h1⟩;rw[hs]at this;cases this
  have hm1:∀k',(S k'||decide (k'=k))=true<->∃e∈es1.toList,El prog w m s.heap k' e:=λk'=>by
   rw[Uc,decide_eq_true_eq,hm k']
   constructor
   .rintro(⟨e,a1,a2⟩|rfl)
    .exact⟨e,p1.mem_iff.mpr (Sc _ a1),a2⟩
    .exact⟨_,p1.mem_iff.mpr (RS _ (RL.mpr rfl)),hex⟩
   .rintro⟨e,a1,a2⟩
    rcases RM.mp (p1.mem_iff.mp a1)with y|y
    .exact .inl ⟨e,y,a2⟩
    .rw[RL]at y;subst y;exact .inr (a2.inj hex)
  have back:∀{h':NZ},Oz D s.heap h'->∀{k' e},e∈es1.toList->El prog w m h' k' e->El prog w m s.heap k' e:=λ{h'} b{k' e} he z=>by obtain⟨k2,y⟩:=el1 e he;obtain rfl:=z.inj (y.same o1 b);exact y
  have out:∀{h':NZ}{es':Array (Int×Value)}{ep':Nat}{t':SetTable},Oz D s.heap h'->eK h' D es' ep' t'->es'.toList.Perm es1.toList->tz es' t'->t'.led=t.led->Rm t'.mask es'.size->Q true {s with heap:=h'}:=λ{h' es' ep' t'} b o' pp g' l' r'=>by
   have z:=q h' b ⟨es',ep',t',o',⟨λe he=>?_,?_,g',l'.trans st.led,r'⟩,λk'=>?_,?_⟩
   .rw[hs]at z;exact z
   .obtain⟨k2,y⟩:=el1 e (pp.mem_iff.mp he);exact⟨k2,y.same o1 b⟩
   .refine(pp.pairwise_iff (λ{e e'} z k h1 h2=>z k h2 h1)).mpr ?_;refine nd1.imp_of_mem ?_;intro e e' he he' z k' h1 h2;exact z k' (back b he h1) (back b he' h2)
   .rw[hm1 k']
    constructor
    .rintro⟨e,a1,a2⟩;exact⟨e,pp.mem_iff.mpr a1,a2.same o1 b⟩
    .rintro⟨e,a1,a2⟩;have a3:=pp.mem_iff.mp a1;exact⟨e,a3,back b a3 a2⟩
   .rw[hs];have:=pp.length_eq;simp only[Um]at this;rw[this,hz1];rfl
  have hsb:es1.size<scanBound:=by unfold scanBound;lia
  have fin:∀t2,tz es1 t2->t2.led=t.led->t2.mask=t.mask->NS (NX prog w) A (do
    storeSet D es1 t2
    if(!false&&t2.tooFull)=true then do
     setRelay D (P3 (es.size+1))
     pure true
    else pure true) Q E s:=λt2 g2 l2 m2=>by
   refine NK (AQ o1 hsb ?_);have o2:=o1.put es1 t2;have b2:=Oo s.heap D (Qy es1 t2);have hfill:t2.fill=es.size+1:=by unfold SetTable.fill;rw[g2.nd,g2.ps,hz1];rfl
   split
   .rename_i hfull;have hfull:t2.tooFull=true:=by simpa using hfull
    unfold SetTable.tooFull at hfull;rw[hfill,m2]at hfull;have hfull:t.mask*3<=(es.size+1)*5:=by simpa using hfull
    have hsz:(t.mask=7/\es.size+1=5)\/(t.mask=31/\es.size+1=19)\/(t.mask=127/\es.size+1=77):=by obtain⟨h1,h2⟩:=st.rm;lia
    have hw:∃M,Oy (P3 (es.size+1))=M+1/\Rm M (es.size+1):=by
     rcases hsz with⟨_,e⟩|⟨_,e⟩|⟨_,e⟩
     .rw[e];exact⟨31,by decide,by unfold Rm;lia⟩
     .rw[e];exact⟨127,by decide,by unfold Rm;lia⟩
     .rw[e];exact⟨511,by decide,by unfold Rm;lia⟩
    obtain⟨M,hM,hRm⟩:=hw;have hM1:Oy (P3 (es.size+1)) - 1=M:=by lia
    obtain⟨t3,order,r1,r2,r3,r4,r5,r6⟩:=wX (es:=es1) (t:=t2) (wanted:=P3 (es.size+1)) (by rw[hM1];exact C9 hRm) (by rw[hM1];obtain⟨h1,_⟩:=hRm;lia) (by rw[hM1,hz1];obtain⟨h1,h2⟩:=hRm;lia);refine NK ?_;unfold setRelay;refine NK (iI o2 g2.fits ?_);dsimp only;rw[NC (by rw[hM];obtain⟨h1,_⟩:=hRm;unfold sizeLine;lia),r1];refine NK ?_;show NS _ _ (if((order.filterMap (es1[·]?)).size != es1.size)=true then _ else pure (order.filterMap (es1[·]?),t3)) _ _ _;rw[NC (by rw[r2];simp)];refine NL (AQ o2 (by rw[r2];exact hsb) (NL ?_));exact out (b2.trans (Oo _ D (Qy _ t3))) (o2.put _ t3) r3 r4 (r5.trans l2) (by rw[r6,hM1,r2,hz1];exact hRm)
   .rename_i hfull;have hfull:t2.tooFull=false:=by simpa using hfull
    unfold SetTable.tooFull at hfull;rw[hfill,m2]at hfull;have hfull:(es.size+1)*5<t.mask*3:=by simpa using hfull
    refine NL (out b2 o2 (List.Perm.refl _) g2 l2 ?_);rw[m2,hz1];exact⟨st.rm.1,hfull⟩
  split
  .refine NK (Bt hx λbv=>?_);cases bv with
   |true=>exact fin t1 g1 hled hmask
   |false=>exact fin _ (g1.off false) hled hmask
  .exact NK (NL (fin t1 g1 hled hmask))
 .lia
 .unfold iE at l;lia
 .lia
theorem El.low{m:Addr->Prop}{h h':NZ}{k:List Int}{e:Int×Value}(x:El prog w m h k e)(kp:∀b o,m b->h.get? b=some o->h'.get? b=some o):El prog w m h' k e:=let ⟨a,h0,h1,o,items,n,ho,r⟩:=x;⟨a,h0,h1,o,items,n,kp a o h0 ho,r⟩
theorem iW.low{m:Addr->Prop}{h h':NZ}{D:Addr}{S:List Int->Bool}{n:Nat}(x:iW prog w m h D S n)(kd:∀o,h.get? D=some o->h'.get? D=some o)(kp:∀b o,m b->h.get? b=some o->h'.get? b=some o):iW prog w m h' D S n:=by
 obtain⟨es,ep,t,o1,st,hm,e⟩:=x;have back:∀{k' e},e∈es.toList->El prog w m h' k' e->El prog w m h k' e:=λ{k' e} he z=>by obtain⟨k2,y⟩:=st.el e he;obtain rfl:=z.inj (y.low kp);exact y
 refine⟨es,ep,t,o1.keep kd,⟨λe he=>let ⟨k,y⟩:=st.el e he;⟨k,y.low kp⟩,?_,st.tg,st.led,st.rm⟩,λk=>?_,e⟩
 .refine st.nd.imp_of_mem ?_;intro e e' he he' z k' h1 h2;exact z k' (back he h1) (back he' h2)
 .rw[hm k];exact⟨λ⟨e,a1,a2⟩=>⟨e,a1,a2.low kp⟩,λ⟨e,a1,a2⟩=>⟨e,a1,back a1 a2⟩⟩
theorem iW.congr{m:Addr->Prop}{h:NZ}{D:Addr}{S S':List Int->Bool}{n n':Nat}(x:iW prog w m h D S n)(e1:∀k,S k=S' k)(e2:n=n'):iW prog w m h D S' n':=by obtain rfl:S=S':=funext e1;subst e2;exact x
end
end L2
namespace L2
open PySem PySem.Spec PyProof.Rows
section
variable{prog:NP}{w:NT}{A:N1}{E:NI}{s:NN}{κ:Type}[DecidableEq κ]{knd:KeyKind prog w κ}
theorem wP(a:Value){Q1:NI}(q:Q1 (.ref s.heap.objs.size) {s with heap:=s.heap.push (cw (!w.params.followText "set-order"))}):O7 (NX prog w) A (.call (.builtin "set.__new__") ⟨[.type "set",a],[]⟩) (wants Q1 E) s:=by
 refine QC ?_;show NS _ A.in1 (do Qs "set.__new__" ⟨[.type "set",a],[]⟩;again _) _ _ s;refine NK (Qa (F.newCall_set_1 a) (NL ⟨O4 F.plain_set_new _,Oc F.entry_set_new ?_⟩));rw[Ob F.plain_set_new _];unfold OL.«set.__new__» Builtin.Frozenset.newClass;have hsub:=sub_set_self;obtain⟨hp,g,d,tk,os⟩:=s;dsimp only
 wp_walk
 refine Qo (NL ?_);dsimp only;simp only[newObj];refine NK (wpAny_alloc (NL (NL q)))
end
section
variable{prog:NP}{w:NT}{A:N1}{R:Ra->NN->Prop}{I:Addr}{fp wr:List Addr}{G:Array P4->Array P4->Prop}{n:Nat}{Pt:Nat->Value->Prop}{St:Nat->NN->Prop}
theorem wR{m:Addr->Prop}(W:WalksS prog w A.in1 I fp wr G n Pt St)(D:Addr)(hD:D∉fp)(hDm:¬m D)(hwr:∀b∈wr,¬m b)(hu:A.units+1<OH){h0:NZ}(val:Nat->List Int)(hv:∀i v,Pt i v->∃a,v=.ref a/\m a/\N7 (intKind prog w) h0 (val i) a)(hb:n+1<307):
  ∀(k i:Nat)(s:NN),n - i=k->i<=n->St i s->(∀b o,m b->h0.get? b=some o->s.heap.get? b=some o)->iW prog w m s.heap D (λx=>decide (x∈bX val i)) (bX val i).length->
   (∀s2,Moved (D::wr) G s s2->iW prog w m s2.heap D (λx=>decide (x∈bX val n)) (bX val n).length->R (.ok (.ret .none)) s2)->O7 (NX prog w) A (.builtin "set.update.loop" ⟨[.ref D,.ref I],[]⟩) R s:=by
 have nW:D∉wr:=λz=>hD (W.sub _ z);have up:∀b∈wr,b∈D::wr:=λb z=>RF _ z;have mv:∀{s s2:NN}{S:List Int->Bool}{r:Nat},Moved wr G s s2->iW prog w m s.heap D S r->iW prog w m s2.heap D S r:=λhm x=>x.low (λo e=>hm.heap D _ nW e) λb o hb e=>hm.heap b _ (λz=>hwr b z hb) e;intro k
 induction k with
 |zero=>
  intro i s e1 e2 st kp hS hR;have e3:i=n:=by lia
  subst e3;refine Oc OV ?_;rw[Ob Os _];show NS _ A.in1 (Pb (.ref I) >>= _) _ _ s;refine NK (W.done s _ _ st λs2 hm=>?_);show NS _ A.in1 (ret OE) _ _ s2;exact NL (hR s2 (hm.mono up) (mv hm hS))
 |succ k ih=>
  intro i s e1 e2 st kp hS hR;have e3:i<n:=by lia
  refine Oc OV ?_;rw[Ob Os _];show NS _ A.in1 (Pb (.ref I) >>= _) _ _ s;refine NK (W.item i s _ _ e3 st λv s2 hp st2 hm=>?_);obtain⟨a,rfl,ha,ka⟩:=hv i v hp;have kp2:∀b o,m b->h0.get? b=some o->s2.heap.get? b=some o:=λb o hb e=>hm.heap b _ (λz=>hwr b z hb) (kp b o hb e);have ka2:N7 (intKind prog w) s2.heap (val i) a:=let ⟨o,items,r,ho,rr⟩:=ka;⟨o,items,r,kp2 a o ha ho,rr⟩;have hS2:=mv hm hS;show NS _ A.in1 (Qc [.ref a] (setAdd D (.ref a)) >>= _) _ _ s2;refine NK (N4 ?_);unfold setAdd;refine N4 (NK (wpAny_pyHash_tuple hu ka2 ?_));have room:(bX val i).length+1<307:=by have:=jX val i;lia
  refine MF (m:=m) (s:={s2 with toks:=s2.toks+((val i).length+1)}) ka2 ha hu hS2 room λh2 sb hS3=>?_;have hS4:iW prog w m h2 D (λx=>decide (x∈bX val (i+1))) (bX val (i+1)).length:=by
   refine hS3.congr (λx=>?_) ?_
   .show(decide (x∈bX val i)||decide (x=val i))=decide (x∈uT (bX val i) (val i))
    unfold uT
    by_cases m:val i∈bX val i
    .rw[ND m]
     by_cases e:x=val i
     .subst e;rw[NA m];simp
     .rw[NB e,Ub]
    .rw[NC m,T7];simp
   .show(if decide (val i∈bX val i)=true then _ else _)=(uT (bX val i) (val i)).length;unfold uT
    by_cases m:val i∈bX val i
    .rw[ND (NA m),ND m]
    .rw[NC (by rw[NB m];decide),NC m,RI];rfl
  refine NL ⟨O4 Os _,ih (i+1) _ (by lia) e3 (W.frame _ s2 _ _ st2 (TH _ _) λb hb o e=>?_) (λb o hb e=>?_) hS4 λs3 hm3 hS5=>?_⟩
  .exact(sb.2 b (λz:b=D=>hD (z▸hb))).trans e
  .exact(sb.2 b (λz:b=D=>hDm (z▸hb))).trans (kp2 b o hb e)
  .refine hR s3 (Moved.trans W.gtrans ((hm.mono up).then_heap (TH _ _) λb o hb e=>?_) hm3) hS5;exact(sb.2 b (λz:b=D=>hb (by rw[z];exact RK))).trans e
end
section
variable{prog:NP}{w:NT}{A:N1}{E:NI}{s:NN}
theorem wQ(M:Addr->Prop){l:Addr}{its:Array Value}{Q:NI}(val:Nat->List Int)(hh:A.handled=none)(hl:s.heap.IsList l its)(hu:A.units+4<OH)(hv:∀i v,its[i]? =some v->∃a,v=.ref a/\M a/\N7 (intKind prog w) s.heap (val i) a)(hM:∀a,M a->a<s.heap.objs.size)(hb:its.size+1<307)
  (k:∀(h2:NZ)(tk:Nat),iW prog w M h2 s.heap.objs.size (λx=>decide (x∈bX val its.size)) (bX val its.size).length->(∀b o,b<s.heap.objs.size->s.heap.get? b=some o->h2.get? b=some o)->Q (.ref s.heap.objs.size) {s with heap:=h2,toks:=tk}):
  NS (NX prog w) A (call (.type "set") [.ref l]) Q E s:=by
 obtain⟨c0,tl0,hmro⟩:=F.called_set.mro;have hmade:=F.called_set.made;have hsub:=F.called_set.sub;have n1:=F.called_set.notType;have n2:=F.called_set.canCreate;have n3:=F.typeCall_set_1 (.ref l);refine Pm (QC ?_);show NS _ _ (callAny (.type "set") _) _ _ _;refine NL ⟨P5 _ (by decide+kernel),Oc F.entry_type_call ?_⟩;rw[Around.under_plain (QH "set" [.ref l] []) rfl]
 repeat (any_goals (first|assumption|wp_step))
 refine Ou (wP (.ref l) (E:=E) (Q1:=λo s1=>o=.ref s.heap.objs.size/\s1={s with heap:=s.heap.push (cw (!w.params.followText "set-order"))}) ⟨rfl,rfl⟩) λr s1 hr=>?_;cases r with
 |error e=>exact hr
 |ok fl=>
  cases fl with
  |ret ob=>
   obtain⟨rfl,rfl⟩:=hr;generalize hld:(!w.params.followText "set-order")=led;have g0:(s.heap.push (cw led)).get? s.heap.objs.size=some (cw led):=NW _ rfl;have ty:PC {s with heap:=s.heap.push (cw led)} (.ref s.heap.objs.size) "set":=⟨_,g0,rfl⟩;have m1:=F.called_set.init.lookup;have m2:=F.called_set.init.bind (.ref s.heap.objs.size)
   repeat (any_goals (first|assumption|wp_step))
   refine Ou (Pd (R:=wants (λr s2=>r=.none/\∃h2 tk,s2={s with heap:=h2,toks:=tk}/\iW prog w M h2 s.heap.objs.size (λx=>decide (x∈bX val its.size)) (bX val its.size).length/\
     (∀b o,b<s.heap.objs.size->s.heap.get? b=some o->h2.get? b=some o)) E) F.called_set.init.plain F.entry_set_init (check_set_init_1 ty ?_)) λr2 s2 hr2=>?_
   .obtain⟨⟨oc,od,oda,osl⟩,ho,hc,nl,hd⟩:=hl;simp only at hc hd;subst hc;subst hd;have hol:(s.heap.push (cw led)).get? l=some {cls:=.type "list",dict:=od,data:=.seq its nl,slots:=osl}:=NO _ ho;have b1:=F.sub_list_set;have b2:=F.sub_list_frozenset;have b3:(P2 "list" == P2 "dict")=false:=by decide
    have hl1:(s.heap.push (cw led)).IsList l its:=⟨_,hol,rfl,nl,rfl⟩;unfold OL.«set.__init__» noKeywords PK;generalize hPI:pyIter=PI
    wp_walk
    subst hPI;refine OO hl1 (NK (QL ?_));have hlt:l<s.heap.objs.size:=NQ ho;have h3:A.in1.in1.in1.handled=none:=by simp[hh]
    have sz:(s.heap.push (cw led)).objs.size=s.heap.objs.size+1:=Op ..;have ne1:l≠(s.heap.push (cw led)).objs.size:=by rw[sz];exact Tk (Tw hlt)
    have ne2:s.heap.objs.size∉[(s.heap.push (cw led)).objs.size,l]:=by
     rw[sz];intro z
     rcases RB.mp z with z|z
     .exact TB _ z.symm
     .exact Tr hlt (RL.mp z)
    refine wR (m:=M) (h0:=s.heap) ((Q7 h3 _ l ne1 its).toS) s.heap.objs.size ne2 (λz=>Tq _ (hM _ z)) (λb hb z=>by rw[RL.mp hb,sz]at z;exact NG (hM _ z) (Nat.not_lt.mpr (Tp _))) (by show A.units+1+1+1<OH;lia) val (λi v hp=>?_) hb (its.size - 0) 0 _ (by lia) (Tl _) ⟨⟨_,NW _ rfl,rfl,rfl⟩,(hl1.push _)⟩ (λb o _ e=>NO _ (NO _ e)) ?_ (λs3 hm hS3=>?_)
    .exact hv i v hp
    .refine⟨#[],0,.fresh 0 0 led,⟨_,NO _ g0,⟨rfl,rfl,rfl⟩,rfl⟩,⟨λe he=>by simp at he,List.Pairwise.nil,tz.fresh,by rw[hld];rfl,⟨.inl rfl,by show 0*5<7*3;decide⟩⟩,λx=>?_,rfl⟩;show decide (x∈([]:List (List Int)))=true<->_;simp
    .obtain⟨hh3,gg3,dd3,tk3,os3⟩:=s3;obtain rfl:gg3=s.gens:=hm.gens;obtain rfl:dd3=s.drawn:=hm.drawn;obtain rfl:os3=s.os:=hm.os;show NS _ _ _ _ _ _;refine NL ?_;show NS _ _ (ret OE) _ _ _;refine NL ⟨rfl,hh3,tk3,rfl,hS3,λb o hb2 e=>?_⟩;refine hm.heap b o ?_ (NO _ (NO _ e));rw[sz];intro z
     rcases RB.mp z with z|z
     .exact Tk hb2 z
     .exact Tk (Tw hb2) (RL.mp z)
   .cases r2 with
    |error e=>exact hr2
    |ok fl2=>
     cases fl2 with
     |ret r3=>
      obtain⟨rfl,h2,tk,rfl,hS2,kp⟩:=hr2
      repeat (any_goals (first|assumption|wp_step))
      exact k _ _ hS2 kp
     |_=>exact hr2.elim
  |_=>exact hr.elim
end
end L2
namespace L2
open PySem PySem.W PyProof.Rows
structure MG(n:Nat)(lt:Nat->Nat->Bool):Prop where
 tr:∀a b c,a<n->b<n->c<n->lt a b=true->lt b c=true->lt a c=true
 as:∀a b,a<n->b<n->lt a b=true->lt b a=false
 tt:∀a b,a<n->b<n->a≠b->lt a b=false->lt b a=true
abbrev gp(p:Array Nat)(i:Nat):Nat:=p.getD i 0
structure PR(n:Nat)(p:Array Nat):Prop where
 sz:p.size=n
 lo:∀i,i<n->gp p i<n
 nd:∀i j,i<n->j<n->gp p i=gp p j->i=j
theorem oF(p:Array Nat)(i:Nat):gp p i=(p[i]?).getD 0:=by unfold gp;simp[Array.getD_eq_getD_getElem?]
theorem PR.of{n:Nat}{p:Array Nat}(h:p.toList.Perm (List.range n)):PR n p:=by
 have hs:p.size=n:=by have:=h.length_eq;simpa using this
 have hn:p.toList.Nodup:=h.nodup_iff.mpr SH;have at_:∀i(hi:i<n),gp p i=p.toList[i]'(by simpa[hs]using hi):=λi hi=>by
  have:i<p.size:=by lia
  simp[gp,this]
 refine⟨hs,λi hi=>?_,λi j hi hj e=>?_⟩
 .rw[at_ i hi];exact RJ.mp (h.mem_iff.mp (RU _))
 .rw[at_ i hi,at_ j hj]at e;have hw:=SI.mp hn
  rcases TC i j with z|z|z
  .exact NG e (hw i j _ _ z)
  .exact z
  .exact NG e.symm (hw j i _ _ z)
def Up(lt:Nat->Nat->Bool)(p:Array Nat)(k:Nat):Prop:= ∀i j,i<j->j<k->lt (gp p i) (gp p j)=true
def Dn(lt:Nat->Nat->Bool)(p:Array Nat)(k:Nat):Prop:= ∀i j,i<j->j<k->lt (gp p j) (gp p i)=true
section
variable{n:Nat}{lt:Nat->Nat->Bool}{s:NN}{cmp:Nat->Nat->(Bool->NN->Prop)->NN->Prop}(O:MG n lt)(hc:∀i j(C:Bool->NN->Prop),i<n->j<n->C (lt i j) s->cmp i j C s)
include O hc
theorem Cg{p:Array Nat}(P:PR n p):∀(f a:Nat){Q:Nat->NN->Prop},1<=a->a+f<=n->Up lt p a->(∀m,a<=m->m<=a+f->Up lt p m->(m=a+f\/lt (gp p m) (gp p (m - 1))=true)->Q m s)->(kas_asc p f a).kasWp cmp Q s
 |0,a,Q,_,_,u,q=>q a (Tj _) (Tj _) u (.inl rfl)
 |f+1,a,Q,h1,h2,u,q=>by
  refine hc _ _ _ (P.lo a (by lia)) (P.lo (a - 1) (by lia)) ?_;cases e:lt (p.getD a 0) (p.getD (a - 1) 0)with
  |true=>exact q a (Tj _) (by lia) u (.inr e)
  |false=>
   refine Cg P f (a+1) (by lia) (by lia) ?_ λm m1 m2 m3 m4=>q m (by lia) (by lia) m3 (m4.imp (λz=>by lia) id);have e2:lt (gp p (a - 1)) (gp p a)=true:=O.tt _ _ (P.lo a (by lia)) (P.lo (a - 1) (by lia)) (λz=>by have:=P.nd a (a - 1) (by lia) (by lia) z;lia) e;intro i j hij hj
   by_cases ej:j=a
   .subst ej
    by_cases ei:i=j - 1
    .subst ei;exact e2
    .exact O.tr _ _ _ (P.lo i (by lia)) (P.lo (j - 1) (by lia)) (P.lo j (by lia)) (u i (j - 1) (by lia) (by lia)) e2
   .exact u i j hij (by lia)
theorem BX{p:Array Nat}(P:PR n p):∀(f a:Nat){Q:Array Nat×Nat×Nat->NN->Prop},1<=a->a+f<=n->Dn lt p a->(∀m,a<=m->m<=a+f->Dn lt p m->Q (p,m,0) s)->(kas_desc f p a 0).kasWp cmp Q s
 |0,a,Q,_,_,u,q=>q a (Tj _) (Tj _) u
 |f+1,a,Q,h1,h2,u,q=>by
  refine hc _ _ _ (P.lo a (by lia)) (P.lo (a - 1) (by lia)) ?_;cases e:lt (p.getD a 0) (p.getD (a - 1) 0)with
  |true=>
   show(kas_desc f p (a+1) 0).kasWp cmp Q s;refine BX P f (a+1) (by lia) (by lia) ?_ λm m1 m2 m3=>q m (by lia) (by lia) m3;intro i j hij hj
   by_cases ej:j=a
   .subst ej
    by_cases ei:i=j - 1
    .subst ei;exact e
    .exact O.tr _ _ _ (P.lo j (by lia)) (P.lo (j - 1) (by lia)) (P.lo i (by lia)) e (u i (j - 1) (by lia) (by lia))
   .exact u i j hij (by lia)
  |false=>
   have e2:lt (p.getD (a - 1) 0) (p.getD a 0)=true:=O.tt _ _ (P.lo a (by lia)) (P.lo (a - 1) (by lia)) (λz=>by have:=P.nd a (a - 1) (by lia) (by lia) z;lia) e;show KasT.kasWp cmp (KasT.ask _ _ _) Q s;refine hc _ _ _ (P.lo (a - 1) (by lia)) (P.lo a (by lia)) ?_;rw[e2];exact q a (Tj _) (by lia) u
theorem pR{p:Array Nat}(P:PR n p){k:Nat}(hk:k<n)(u:Up lt p k):∀(f l r:Nat){Q:Nat->NN->Prop},l<=r->r<=k->r - l<=f->(∀i,i<l->lt (gp p i) (gp p k)=true)->(∀i,r<=i->i<k->lt (gp p k) (gp p i)=true)->
  (∀m,m<=k->(∀i,i<m->lt (gp p i) (gp p k)=true)->(∀i,m<=i->i<k->lt (gp p k) (gp p i)=true)->Q m s)->(Rs p k f l r).kasWp cmp Q s
 |0,l,r,Q,h1,h2,h3,a,b,q=>by
  have:l=r:=by lia
  subst this;exact q l h2 a b
 |f+1,l,r,Q,h1,h2,h3,a,b,q=>by
  unfold Rs
  by_cases hlr:l≥r
  .rw[ND hlr];have:l=r:=by lia
   subst this;exact q l h2 a b
  .rw[NC hlr];refine hc _ _ _ (P.lo k hk) (P.lo ((l+r) / 2) (by lia)) ?_;cases e:lt (p.getD k 0) (p.getD ((l+r) / 2) 0)with
   |true=>
    show(Rs p k f l ((l+r) / 2)).kasWp cmp Q s;refine pR P hk u f l ((l+r) / 2) (by lia) (by lia) (by lia) a (λi i1 i2=>?_) q
    by_cases ei:i=(l+r) / 2
    .subst ei;exact e
    .exact O.tr _ _ _ (P.lo k hk) (P.lo ((l+r) / 2) (by lia)) (P.lo i (by lia)) e (u _ _ (by lia) i2)
   |false=>
    show(Rs p k f ((l+r) / 2+1) r).kasWp cmp Q s;have e2:lt (gp p ((l+r) / 2)) (gp p k)=true:=O.tt _ _ (P.lo k hk) (P.lo ((l+r) / 2) (by lia)) (λz=>by have:=P.nd k ((l+r) / 2) hk (by lia) z;lia) e;refine pR P hk u f ((l+r) / 2+1) r (by lia) h2 (by lia) (λi i1=>?_) b q
    by_cases ei:i=(l+r) / 2
    .subst ei;exact e2
    .exact O.tr _ _ _ (P.lo i (by lia)) (P.lo ((l+r) / 2) (by lia)) (P.lo k hk) (u _ _ (by lia) (by lia)) e2
omit O hc in
theorem AZ{p q:Array Nat}{n:Nat}(h:p.toList.Perm (List.range n))(e:q.Perm p):q.toList.Perm (List.range n):=(Array.perm_iff_toList_perm.mp e).trans h
theorem Hy:∀(f k:Nat)(p:Array Nat){Q:Array Nat->NN->Prop},p.toList.Perm (List.range n)->1<=k->k+f=n->Up lt p k->(∀p',p'.toList.Perm (List.range n)->Up lt p' n->Q p' s)->(kas_bin f p k).kasWp cmp Q s
 |0,k,p,Q,hp,h1,h2,u,q=>q p hp (by rw[<-h2];exact u)
 |f+1,k,p,Q,hp,h1,h2,u,q=>by
  have P:=PR.of hp;unfold kas_bin;rw[Pl];refine pR O hc P (by lia) u k 0 k (Tl _) (Tj _) (by lia) (λi z=>NG z (Nat.not_lt_zero _)) (λi z1 z2=>by lia) λm hm a b=>?_;refine Hy f (k+1) _ (AZ hp (bubble_perm _ _ _)) (by lia) (by lia) ?_ q;have ge:∀i,gp (bubble p k (k - m)) i=if i=m then gp p k else if m<i/\i<=k then gp p (i - 1)else gp p i:=λi=>by
   rw[oF,getElem?_bubble (by rw[P.sz];lia) (k - m) (by lia) i,show k - (k - m)=m by lia];split
   .rw[oF]
   .split<;>rw[oF]
  intro i j hij hj;rw[ge,ge]
  by_cases e1:i=m
  .rw[ND e1]
   by_cases e2:j=m
   .lia
   .rw[NC e2,ND (by lia)];exact b (j - 1) (by lia) (by lia)
  .rw[NC e1]
   by_cases e2:j=m
   .rw[ND e2,NC (by lia)];exact a i (by lia)
   .rw[NC e2]
    by_cases e3:m<i/\i<=k
    .rw[ND e3,ND (by lia)];exact u (i - 1) (j - 1) (by lia) (by lia)
    .rw[NC e3]
     by_cases e4:m<j/\j<=k
     .rw[ND e4];exact u i (j - 1) (by lia) (by lia)
     .rw[NC e4];exact u i j hij (by lia)
theorem J0{p:Array Nat}(hp:p.toList.Perm (List.range n)){Q:Nat×Array Nat->NN->Prop}(h2:2<=n)(hd:lt (gp p 1) (gp p 0)=true)(q:∀m p',p'.toList.Perm (List.range n)->1<=m->m<=n->Up lt p' m->Q (m,p') s):(kas_descPart 1 n p).kasWp cmp Q s:=by
 have P:=PR.of hp;unfold kas_descPart;rw[Pl];refine BX O hc P (n - (1+1)) (1+1) (by lia) (by lia) (λi j hij hj=>?_) λm m1 m2 m3=>?_
 .have e1:i=0:=by lia
  have e2:j=1:=by lia
  subst e1;subst e2;exact hd
 .show(kas_tail3 m n p).kasWp cmp Q s;unfold kas_tail3;rw[Pl];have hp2:(kas_rev p 0 m).toList.Perm (List.range n):=AZ hp (mirror_perm _ _ _ _);have ge:∀i,gp (kas_rev p 0 m) i=if i<m then gp p (m - 1 - i)else gp p i:=λi=>by
   unfold kas_rev;rw[oF,getElem?_mirror_all (by rw[P.sz];lia)]
   by_cases e:i<m
   .rw[ND ⟨Tl _,e⟩,ND e,oF,Tt]
   .rw[NC (λz=>e z.2),NC e,oF]
  refine Cg O hc (PR.of hp2) (n - m) m (by lia) (by lia) (λi j hij hj=>?_) λr r1 r2 r3 _=>q r _ hp2 (by lia) (by lia) r3;rw[ge,ge,ND (by lia),ND hj];exact m3 _ _ (by lia) (by lia)
theorem IK{Q:Array Nat->NN->Prop}(h2:2<=n)(q:∀p,p.toList.Perm (List.range n)->Up lt p n->Q p s):(kas_sort n).kasWp cmp Q s:=by
 have hp:(List.toArray (List.range n)).toList.Perm (List.range n):=List.Perm.refl _;have P:=PR.of hp;unfold kas_sort kas_count;rw[Pl,Pl];have fin:∀m p',p'.toList.Perm (List.range n)->1<=m->m<=n->Up lt p' m->KasT.kasWp cmp (if m<n then kas_bin (n - max m 1) p' (max m 1)else KasT.ret p') Q s:=λm p' hp' m1 m2 u=>by
  by_cases e:m<n
  .rw[ND e,show max m 1=m by lia];exact Hy O hc (n - m) m p' hp' m1 (by lia) u q
  .rw[NC e];have:m=n:=by lia
   subst this;exact q p' hp' u
 refine Cg O hc P (n - 1) 1 (Tj _) (by lia) (λi j hij hj=>by lia) λm m1 m2 m3 m4=>?_
 by_cases e:m=n
 .rw[ND (by simp[e])];exact fin m _ hp m1 (by lia) m3
 .rw[NC (by simp[e])]
  by_cases e1:m > 1
  .rw[ND e1];refine hc _ _ _ (P.lo 0 (by lia)) (P.lo (m - 1) (by lia)) ?_;have:lt ((List.toArray (List.range n)).getD 0 0) ((List.toArray (List.range n)).getD (m - 1) 0)=true:=m3 0 (m - 1) (by lia) (by lia);rw[this];exact fin m _ hp m1 (by lia) m3
  .rw[NC e1];have:m=1:=by lia
   subst this;refine J0 O hc hp h2 (by rcases m4 with z|z;exact NG z (by lia);exact z) λm p' a b c d=>fin m p' a b c d
end
end L2
namespace L2
open PySem PySem.W PySem.Calls PyProof.Rows
def dz:List Int->List Int->Bool
 | [],[]=>false
 | [],_::_=>true
 |_::_,[]=>false
 |a::x,b::y=>if a=b then dz x y else decide (a<b)
theorem jY:∀x,dz x x=false
 | []=>rfl
 |a::x=>by unfold dz;rw[ND rfl];exact jY x
theorem v3:∀x y,x≠y->dz x y=false->dz y x=true
 | [],[],h,_=>NG rfl h
 | [],_::_,_,e=>by cases e
 |_::_,[],_,_=>rfl
 |a::x,b::y,h,e=>by
  unfold dz at e ⊢
  by_cases ab:a=b
  .subst ab;rw[ND rfl]at e ⊢;exact v3 x y (λz=>h (by rw[z])) e
  .rw[NC ab]at e;rw[NC (Ne.symm ab)];have:=NF e;exact NA (by lia)
theorem qo:∀x y,dz x y=true->dz y x=false
 | [],[],e=>by cases e
 | [],_::_,_=>rfl
 |_::_,[],e=>by cases e
 |a::x,b::y,e=>by
  unfold dz at e ⊢
  by_cases ab:a=b
  .subst ab;rw[ND rfl]at e ⊢;exact qo x y e
  .rw[NC ab]at e;rw[NC (Ne.symm ab)];have:=NE e;exact NB (by lia)
theorem v4:∀x y z,dz x y=true->dz y z=true->dz x z=true
 | [],[],_,e,_=>by cases e
 | [],_::_,[],_,e=>by cases e
 | [],_::_,_::_,_,_=>rfl
 |_::_,[],_,e,_=>by cases e
 |_::_,_::_,[],_,e=>by cases e
 |a::x,b::y,c::z,e,f=>by
  unfold dz at e f ⊢
  by_cases ab:a=b
  .subst ab;rw[ND rfl]at e
   by_cases ac:a=c
   .subst ac;rw[ND rfl]at f ⊢;exact v4 x y z e f
   .rw[NC ac]at f ⊢;exact f
  .rw[NC ab]at e;have e:=NE e
   by_cases bc:b=c
   .subst bc;rw[NC ab];exact NA e
   .rw[NC bc]at f;have f:=NE f;rw[NC (by lia)];exact NA (by lia)
section
variable{prog:NP}{w:NT}{A:N1}{E:NI}{s:NN}
theorem Hc{fin:Bool}{Q:Bool->NN->Prop}:∀(x y:List Int)(us vs:List Value)(i:Nat),ItemsAre (intKind prog w) x us->ItemsAre (intKind prog w) y vs->(x.length<y.length<->fin=true)->Q (dz x y) s->KatLex prog w A true fin Q (us.zip vs) i s
 | [],[],_,_,i,.nil,.nil,hf,q=>by
   refine kat_nil ?_;have:fin=false:=by cases fin with|false=>rfl|true=>exact NG (hf.mpr rfl) (by simp)
   rw[this];exact q
 | [],_::_,_,_,i,.nil,.cons _ _,hf,q=>by refine kat_nil ?_;rw[hf.mp (by simp)];exact q
 |_::_,[],_,_,i,.cons _ _,.nil,hf,q=>by
  show KatLex prog w A true fin Q [] i s;refine kat_nil ?_;have:fin=false:=by cases fin with|false=>rfl|true=>exact NG (hf.mpr rfl) (by simp)
  rw[this];exact q
 |a::x,b::y,u::us,v::vs,i,.cons h1 t1,.cons h2 t2,hf,q=>by
  obtain⟨t,rfl⟩:∃t,u=.int a t:=by cases u<;>simp[intKind,Qd]at h1;exact⟨_,by rw[h1]⟩
  obtain⟨t',rfl⟩:∃t',v=.int b t':=by cases v<;>simp[intKind,Qd]at h2;exact⟨_,by rw[h2]⟩
  show KatLex prog w A true fin Q ((Pf a t,Pf b t')::us.zip vs) i s;refine kat_cons (wpAny_eqBool_int ?_);unfold dz at q
  by_cases ab:a=b
  .subst ab;rw[ND rfl]at q;rw[show(a == a)=true by simp];exact kat_yes (Hc x y us vs (i+1) t1 t2 (by simpa using hf) q)
  .rw[NC ab]at q;rw[show(a == b)=false by simp[ab]];refine kat_no ?_
   by_cases hi:i=0
   .subst hi;exact oneLt_int q
   .have:(true&&i == 0)=false:=by simp[hi]
    rw[this];exact kat_one _ _ (PyProof.Rows.lt_int q)
theorem LV{x y:Addr}{kx ky:List Int}{Q:Bool->NN->Prop}(hx:N7 (intKind prog w) s.heap kx x)(hy:N7 (intKind prog w) s.heap ky y)(q:Q (dz kx ky) s):NS (NX prog w) A (keyLt' (tuples' true) (.ref x) (.ref y)) Q E s:=by obtain⟨ox,xs,n,h1,_,h2,h3⟩:=hx;obtain⟨oy,ys,k,h4,_,h5,h6⟩:=hy;refine kat_lt h1 h2 h4 h5 (Hc kx ky _ _ 0 h3 h6 ?_ q);rw[h3.length,h6.length];simp
theorem uC{B:NZ}{L a:Addr}{m:NH}{vs:List Value}{ks:List (List Int)}{n:Nat}{P:PySem.Fin->NN->Prop}(F:Fr B L s.heap m)(ho:s.heap.get? a=some (seqObj "list" vs.toArray n))(haL:a≠L)(ha0:B.get? a=none)
  (hl:ks.length=vs.length) (hv:∀i,i<vs.length->∃x,vs.getD i .none=.ref x/\x≠L/\x≠a/\N7 (intKind prog w) s.heap (ks.getD i []) x/\ks.getD i []≠[]) (nd:ks.Nodup) (h2:2<=vs.length) (h64:vs.length<64)
  (h:∀(p:Array Nat)(h':NZ)(c:Nat),p.toList.Perm (List.range vs.length)->(∀i j,i<j->j<vs.length->dz (ks.getD (gp p i) []) (ks.getD (gp p j) [])=true)->Fr B L h' m->(∀b o,b≠L->b≠a->s.heap.get? b=some o->h'.get? b=some o)->
   h'.get? a=some (seqObj "list" (p.toList.map λi=>vs.getD i .none).toArray c)->P (.done (.ret .none)) {s with heap:=h'}):
  NS (NX prog w) A (OL.«list.sort» ⟨[.ref a],[]⟩) P E s:=by
 have N:News B L s.heap (rest B s.heap L a):=λp hp=>Dv haL ha0 ho p (RF _ hp);refine kat_list_sort F N ho haL ha0 rest_ne h2 h64 λe1 h' F' N'=>?_;have kp:∀b o,b≠L->b≠a->s.heap.get? b=some o->h'.get? b=some o:=jZ F.keep F' λp hp=>N' p (RF _ hp);have key:∀i,i<vs.length->∃x,vs.getD i .none=.ref x/\N7 (intKind prog w) h' (ks.getD i []) x/\ks.getD i []≠[]:=λi hi=>by obtain⟨x,e1,e2,e3,⟨o,items,r,e4,e5⟩,e6⟩:=hv i hi;exact⟨x,e1,⟨o,items,r,kp x o e2 e3 e4,e5⟩,e6⟩
 have hkk:∀i j,i<vs.length->j<vs.length->ks.getD i []=ks.getD j []->i=j:=λi j hi hj e=>by rw[RH,RH,RC (by lia),RC (by lia)]at e;exact(SL nd).mp (by simpa using e)
 have O:MG vs.length λi j=>dz (ks.getD i []) (ks.getD j []):=⟨λx y z _ _ _ h1 h2=>v4 _ _ _ h1 h2,λx y _ _ h1=>qo _ _ h1,λx y hx hy ne h1=>v3 _ _ (λe=>ne (hkk x y hx hy e)) h1⟩;obtain⟨fs,tp,fl,fi⟩:∃fs,KatTups h' vs fs/\fs.length=vs.length/\∀f∈fs,∃n t,f=Pf n t:=by
  have go:∀(us:List Value)(f:Nat->List Int),(∀i,i<us.length->∃x,us.getD i .none=.ref x/\N7 (intKind prog w) h' (f i) x/\f i≠[])->∃fs,KatTups h' us fs/\fs.length=us.length/\∀f∈fs,∃n t,f=Pf n t:=by
   intro us
   induction us with
   |nil=>exact λf _=>⟨[],.nil,rfl,λf z=>nomatch z⟩
   |cons u us ih=>
    intro f hf;obtain⟨fs,t1,t2,t3⟩:=ih (λi=>f (i+1)) λi hi=>hf (i+1) (by simpa using hi);obtain⟨x,e1,⟨o,items,r,e4,e5,e6,e7⟩,e8⟩:=hf 0 (by simp);have e1:u=.ref x:=e1;subst e1;generalize f 0=kk at e7 e8;generalize hit:items.toList=its at e7;cases e7 with
    |nil=>exact NG rfl e8
    | @cons k v ks' vs' h1 h2=>
      obtain⟨t,rfl⟩:∃t,v=.int k t:=by cases v<;>simp[intKind,Qd]at h1;exact⟨_,by rw[h1]⟩
      refine⟨.int k t::fs,KatTups.cons e4 e5 e6 ?_ t1,by simp[t2],λf z=>?_⟩
      .rw[<-Ul,hit];rfl
      .rcases RB.mp z with rfl|z
       .exact⟨k,t,rfl⟩
       .exact t3 f z
  exact go vs (λi=>ks.getD i []) key
 refine kat_kind (T:=.type "int") tp (by lia) (λf hf=>?_) (by decide) ?_
 .obtain⟨k,t,rfl⟩:=fi f hf;exact Looks.of_pure rfl
 .show(kas_sort vs.length).kasWp (kas_ask prog w A (tuples' true) vs) _ _;refine IK O (λi j C hi hj hC=>?_) h2 λp hp up=>?_
  .obtain⟨x,e1,kx,_⟩:=key i hi;obtain⟨y,e2,ky,_⟩:=key j hj;unfold kas_ask;rw[e1,e2];exact LV (s:={s with heap:=h'}) kx ky hC
  .refine KasFin.intro F' N' (UpdF.head rest_ne) λh'' c F'' N''=>?_;exact h p h'' c hp up F'' (jZ F.keep F'' λq hq=>N'' q (RF _ hq)) (N'' _ (.head _)).1
end
end L2
namespace L2
open PySem PySem.W PySem.Calls PySem.Spec PyProof.Rows
theorem vV{α β:Type}[DecidableEq α](f:α->β):∀{vs:List β}{l:List α},vs.Perm (l.map f)->∃l':List α,l'.Perm l/\vs=l'.map f
 | [],l,h=>by
   have:l=[]:=by have:=h.length_eq;simpa using this.symm
   subst this;exact⟨[],List.Perm.refl _,rfl⟩
 |v::vs,l,h=>by obtain⟨x,hx,rfl⟩:=RA.mp (h.mem_iff.mp RK);have hp:=Te hx;have h2:vs.Perm ((l.erase x).map f):=(h.trans (hp.map f)).cons_inv;obtain⟨l',p1,rfl⟩:=vV f h2;exact⟨x::l',(List.Perm.cons x p1).trans hp.symm,rfl⟩
theorem De{α:Type}(d:α){l:List α}{p:List Nat}(h:p.Perm (List.range l.length)):(p.map λi=>l.getD i d).Perm l:=by
 refine(h.map _).trans (List.Perm.of_eq ?_);apply So;intro i;rw[RE]
 by_cases hi:i<l.length
 .rw[Sb hi,RC hi];simp[RH,hi]
 .rw[R5 (by simpa using hi),R5 (by lia)];rfl
section
variable{prog:NP}{w:NT}{A:N1}{E:NI}{s:NN}
theorem nM{a:Addr}{vs:List Value}{n:Nat}{P:PySem.Fin->NN->Prop}(ho:s.heap.get? a=some (seqObj "list" vs.toArray n))(h1:vs.length<2)
  (h:P (.done (.ret .none)) {s with heap:=sortedHeap s.heap a vs vs.toArray}):NS (NX prog w) A (OL.«list.sort» ⟨[.ref a],[]⟩) P E s:=by
 obtain⟨e1,g1⟩:∃e1,(s.heap.update a (On λ_=> #[])).get? a=some (seqObj "list" #[] e1):=⟨_,get?_update_seq ho (λ_=> #[])⟩;have lt:a<s.heap.objs.size:=NQ ho;have g2:(((s.heap.update a (On λ_=> #[])).push (seqObj "tuple" vs.toArray 0)).push (seqObj "list" #[] 0)).get? a=some (seqObj "list" #[] e1):=NO _ (NO _ g1);have few:vs.toArray.size<2:=by rw[RD];exact h1
 have zz:(vs.toArray.zip vs.toArray).map (·.2)=vs.toArray:=by apply Ur.mp;simp;exact List.map_snd_zip (Tj _)
 have sm:vs.toArray.size<=sizeLine:=by rw[NR];lia
 rw[list_sort_plain];refine NK (listItems_at ho rfl (NK (listUpdate_at ho rfl (NK (seqEpoch_at g1 rfl (NK (wpAny_newTuple (NK (QV (N4 ?_))))))))));dsimp only;rw[ND few,ND few];refine NK (NL ?_);rw[StateT.run_pure];refine NK (NL ?_);dsimp only;refine NK (seqEpoch_at g2 rfl (NK (listUpdate_at g2 rfl ?_ (hsz2:=?_))))
 .simp only[bne_self_eq_false,T8,if_false];refine NL ?_;rw[show Array.map (λx=>x.snd) (arrOf (SortSt.mk' general' (vs.toArray.zip vs.toArray) #[] 7 none))=vs.toArray from zz];exact h
 .rw[show Array.map (λx=>x.snd) (arrOf (SortSt.mk' general' (vs.toArray.zip vs.toArray) #[] 7 none))=vs.toArray from zz];lia
structure Cw(prog:NP)(w:NT)(h:NZ)(L:Addr)(ps:List (List Int×Addr)):Prop where
 at_:∀p∈ps,p.2≠L/\p.1≠[]/\N7 (intKind prog w) h p.1 p.2
 nd:(ps.map (·.1)).Nodup
theorem Cw.perm{h:NZ}{L:Addr}{ps ps':List (List Int×Addr)}(x:Cw prog w h L ps)(p:ps'.Perm ps):Cw prog w h L ps':=⟨λq hq=>x.at_ q (p.mem_iff.mp hq),(p.map _).nodup_iff.mpr x.nd⟩
theorem Cw.keep{h h':NZ}{L:Addr}{ps:List (List Int×Addr)}(x:Cw prog w h L ps)(k:∀b o,b≠L->h.get? b=some o->h'.get? b=some o):Cw prog w h' L ps:=⟨λq hq=>let ⟨a,b,o,its,r,e,rr⟩:=x.at_ q hq;⟨a,b,o,its,r,k _ o a e,rr⟩,x.nd⟩
theorem on{B:NZ}{L:Addr}{m:NH}{ps:List (List Int×Addr)}{Q:NI}(F:Fr B L s.heap m)(T:Cw prog w s.heap L ps)(h64:ps.length<64)
  (q:∀(ps':List (List Int×Addr))(h':NZ)(c:Nat),ps'.Perm ps->ps'.Pairwise (λx y=>dz x.1 y.1=true)->Fr B L h' m->(∀b o,b≠L->s.heap.get? b=some o->h'.get? b=some o)->
   h'.get? s.heap.objs.size=some (seqObj "list" (ps'.map λz=>NY z.2).toArray c)->Q .none {s with heap:=h'}):
  NS (NX prog w) A (OL.«list.sort» ⟨[.ref s.heap.objs.size],[]⟩) (λr s'=>r=.done (.ret .none)/\Q .none s') E {s with heap:=s.heap.push (seqObj "list" (ps.map λz=>NY z.2).toArray 0)}:=by
 have hL:L<s.heap.objs.size:=F.ns.lt;have gL:(s.heap.push (seqObj "list" (ps.map λz=>NY z.2).toArray 0)).get? s.heap.objs.size=some (seqObj "list" (ps.map λz=>NY z.2).toArray 0):=NW _ rfl;have kp:∀b o,s.heap.get? b=some o->(s.heap.push (seqObj "list" (ps.map λz=>NY z.2).toArray 0)).get? b=some o:=λb o e=>NO _ e;have F1:Fr B L (s.heap.push (seqObj "list" (ps.map λz=>NY z.2).toArray 0)) m:=F.kept kp;have hlen:(ps.map λz=>NY z.2).length=ps.length:=Rz ..
 by_cases h2:2<=ps.length
 .have hat:∀i(hi:i<ps.length),(ps.map λz=>NY z.2).getD i .none=.ref (ps.getD i ([],0)).2/\(ps.map (·.1)).getD i []=(ps.getD i ([],0)).1/\ps.getD i ([],0)∈ps:=λi hi=>by simp[RH,RC hi]
  refine uC (ks:=ps.map (·.1)) F1 gL (Tr hL) (PF (Tn F.above (Tx hL))) (by simp) (λi hi=>?_) T.nd (by rw[hlen];exact h2) (by rw[hlen];exact h64) λp h' c hp up F' k' ga=>?_
  .rw[hlen]at hi;obtain⟨e1,e2,e3⟩:=hat i hi;obtain⟨a1,a2,o,its,r,e,rr⟩:=T.at_ _ e3;exact⟨_,e1,a1,Tk (NQ e),by rw[e2];exact⟨o,its,r,kp _ _ e,rr⟩,by rw[e2];exact a2⟩
  .rw[hlen]at hp up;have P:=PR.of hp;refine⟨rfl,q (p.toList.map λi=>ps.getD i ([],0)) h' c (De _ hp) ?_ F' (λb o n e=>k' b o n (Tk (NQ e)) (kp b o e)) ?_⟩
   .rw[RX,SI];intro i j hi hj hij;have hi2:i<ps.length:=by rw[<-P.sz];simpa using hi
    have hj2:j<ps.length:=by rw[<-P.sz];simpa using hj
    have z:=up i j hij hj2;have gi:gp p i=p.toList[i]:=by
     have:i<p.size:=by rw[P.sz];exact hi2
     simp[gp,this]
    have gj:gp p j=p.toList[j]:=by
     have:j<p.size:=by rw[P.sz];exact hj2
     simp[gp,this]
    rw[gi,gj]at z;rw[<-(hat _ (by rw[<-gi];exact P.lo i hi2)).2.1,<-(hat _ (by rw[<-gj];exact P.lo j hj2)).2.1];exact z
   .rw[ga,RN];congr 3;refine R9 λi hi=>?_;exact(hat i (RJ.mp (hp.mem_iff.mp hi))).1
 .refine nM gL (by rw[hlen];lia) ?_;obtain⟨e,he⟩:=sortedHeap_at (out:=(ps.map λz=>NY z.2).toArray) gL;have k2:∀b o,s.heap.get? b=some o->(sortedHeap (s.heap.push (seqObj "list" (ps.map λz=>NY z.2).toArray 0)) s.heap.objs.size (ps.map λz=>NY z.2) (ps.map λz=>NY z.2).toArray).get? b=some o:=λb o e=>by rw[sortedHeap_old (Tk (NQ e)) (by rw[Op];exact Tw (NQ e))];exact kp b o e
  refine⟨rfl,q ps _ e (List.Perm.refl _) ?_ (F.kept k2) (λb o _ e=>k2 b o e) he⟩
  match ps,h2 with
  | [],_=>exact List.Pairwise.nil
  | [_],_=>exact Tf ..
  |_::_::_,h=>exact NG (by simp) h
end
section
variable{prog:NP}{w:NT}{A:N1}{E:NI}{s:NN}
def sX(prog:NP)(w:NT)(h:NZ)(D:Addr)(ps:List (List Int×Addr)):Prop:= ∃es ep t,eK h D es ep t/\es.toList.Perm (ps.map λp=>(tupleKeyHash (intKind prog w) p.1,NY p.2))/\SG (!w.params.followText "set-order") es.size t
theorem sX.keep{h h':NZ}{D:Addr}{ps:List (List Int×Addr)}(x:sX prog w h D ps)(k:∀o,h.get? D=some o->h'.get? D=some o):sX prog w h' D ps:=let ⟨es,ep,t,h1,r⟩:=x;⟨es,ep,t,h1.keep k,r⟩
theorem BS{M:Addr->Prop}{h:NZ}:∀{l:List (Int×Value)},(∀e∈l,∃k,El prog w M h k e)->∃ps:List (List Int×Addr),l=ps.map (λp=>(tupleKeyHash (intKind prog w) p.1,NY p.2))/\∀p∈ps,M p.2/\N7 (intKind prog w) h p.1 p.2
 | [],_=>⟨[],rfl,λ_ z=>nomatch z⟩
 |e::l,hl=>by obtain⟨ps,rfl,h1⟩:=BS λe' he=>hl e' (RF _ he);obtain⟨k,a,h2,rfl,h3⟩:=hl e RK;exact⟨(k,a)::ps,rfl,λp hp=>(RB.mp hp).elim (λz=>z▸⟨h2,h3⟩) (h1 p)⟩
theorem iW.toP{M:Addr->Prop}{h:NZ}{D:Addr}{S:List Int->Bool}{n:Nat}(x:iW prog w M h D S n):∃ps:List (List Int×Addr),sX prog w h D ps/\(∀p∈ps,M p.2/\N7 (intKind prog w) h p.1 p.2)/\(ps.map (·.1)).Nodup/\(∀k,S k=true<->k∈ps.map (·.1))/\ps.length=n:=by
 obtain⟨es,ep,t,o1,st,hm,hz⟩:=x;obtain⟨ps,e,h1⟩:=BS st.el;refine⟨ps,⟨es,ep,t,o1,List.Perm.of_eq e,st.tg.fits,st.led,st.tg.ris⟩,h1,?_,λk=>?_,?_⟩
 .have z:=st.nd;rw[e,RX]at z;rw[R4,RX];refine z.imp_of_mem ?_;intro p p' hp hp' q e2;exact q p.1 ⟨p.2,(h1 p hp).1,rfl,(h1 p hp).2⟩ ⟨p'.2,(h1 p' hp').1,by rw[e2],by rw[e2];exact(h1 p' hp').2⟩
 .rw[hm k,e,RA]
  constructor
  .rintro⟨e',he,z⟩;obtain⟨p,hp,rfl⟩:=RA.mp he;exact⟨p,hp,(El.inj (m:=M) ⟨p.2,(h1 p hp).1,rfl,(h1 p hp).2⟩ z)⟩
  .rintro⟨p,hp,rfl⟩;exact⟨_,RA.mpr ⟨p,hp,rfl⟩,p.2,(h1 p hp).1,rfl,(h1 p hp).2⟩
 .have:=congrArg List.length e;rw[Rz,Um]at this;lia
theorem rp{B:NZ}{L:Addr}{m:NH}{D:Addr}{ps:List (List Int×Addr)}{Q:NI}(F:Fr B L s.heap m)(hh:A.handled=none)(hS:sX prog w s.heap D ps)(T:Cw prog w s.heap L ps)(h64:ps.length<64)
  (q:∀(ps':List (List Int×Addr))(h':NZ)(p:Addr)(e:Nat) d tk,ps'.Perm ps->ps'.Pairwise (λx y=>dz x.1 y.1=true)->Fr B L h' m->(∀b o,b≠L->s.heap.get? b=some o->h'.get? b=some o)->s.heap.objs.size<=p->h'.get? p=some (seqObj "list" (ps'.map λz=>NY z.2).toArray e)->s.toks<=tk->Q (.ref p) {s with heap:=h',drawn:=d,toks:=tk}):
  NS (NX prog w) A (call (.builtin "sorted") [.ref D]) Q E s:=by
 obtain⟨es,ep,t,o1,hp,g⟩:=hS;have hz:es.size=ps.length:=by have:=hp.length_eq;simpa using this
 refine P8 kind_sorted plain_sorted entry_sorted (args_sorted1 _) ?_;unfold OL.«sorted»;refine NK (m:=checkCount "sorted" 1 1 _) (NL ?_);refine NK (sO (by exact hh) o1 g (by rw[NR];lia) λvs h1 d1 tk1 hv k1 hsz ht1=>?_);obtain⟨ps1,p1,rfl⟩:=vV (λp:List Int×Addr=>NY p.2) (hv.trans (by
  have z:=hp.map (·.2);rw[RN]at z;exact z))
 refine NK (QV ?_ (by rw[Rz,p1.length_eq,NR];lia));have gL:(h1.push (seqObj "list" (ps1.map λz=>NY z.2).toArray 0)).get? h1.objs.size=some (seqObj "list" (ps1.map λz=>NY z.2).toArray 0):=NW _ rfl;refine NK (N4 (Oe slot_list_sort ⟨_,gL,rfl⟩ entry_list_sort (Oq (on (s:={s with heap:=h1,drawn:=d1,toks:=tk1}) (Q:=λ_ s'=>NS (NX prog w) A.in1 (ret (.ref h1.objs.size)) (λr s''=>∃v,r=.done (.ret v)/\Q v s'') E s') (F.kept k1) ((T.perm p1).keep λb o _ e=>k1 b o e) (by rw[p1.length_eq];exact h64) λps' h' c hp' pw F' k' ga=>?_) (λr s' z=>⟨_,z.1,z.2⟩) λ_ _ z=>z) (args_list_sort _)));exact NL ⟨_,rfl,q ps' h' _ c _ _ (hp'.trans p1) pw F' (λb o n e=>k' b o n (k1 b o e)) (Tx hsz) ga ht1⟩
end
theorem bH.hereS{P:NP}{w:NT}{H:Hp}{h:NZ}{a:Addr}{o:HO}(x:bH P w H h a o):∃u,h.get? a=some u:=by
 cases o with
 |lst xs=>obtain⟨_,_,_,_,e⟩:=x;exact⟨_,e⟩
 |tup xs=>obtain⟨_,_,_,o,e,_⟩:=x;exact⟨_,e⟩
 |dK kvs=>obtain⟨_,_,_,_,o,_,_,e,_⟩:=x;exact⟨_,e⟩
 |dT kvs=>obtain⟨_,_,_,_,o,_,_,e,_⟩:=x;exact⟨_,e⟩
 |set S n=>obtain⟨o,_,_,_,e,_⟩:=x;exact⟨_,e⟩
 |ins C dx fs=>obtain⟨_,_,_,e,_⟩:=x;exact⟨_,e⟩
 |own y=>obtain⟨_,e⟩:=x;exact⟨_,e⟩
 |xd fs=>obtain⟨_,⟨_,_,_,e,_⟩,_⟩:=x;exact⟨_,e⟩
 |rng lo hi=>obtain⟨_,_,_,e⟩:=x;exact⟨_,e⟩
 |frz ob u=>obtain⟨e,_⟩:=x;exact⟨_,e⟩
 |tbl ps=>exact⟨_,(show h.get? a=some _ from x)⟩
 |met f y=>exact⟨_,(show h.get? a=some _ from x)⟩
 |ext φ=>obtain⟨_,⟨_,e⟩,_⟩:=x;exact⟨_,e⟩
section
variable{X:Cx}
theorem nR:∀(ps:List (List Int×Addr)),aZ (ps.map λz=>V.ref z.2) (ps.map λz=>NY z.2)
 | []=>.nil
 |p::ps=>.cons rfl (nR ps)
theorem sB{P:NP}{w:NT}:∀{k:List Int}{us:List Value},aZ (k.map V.int) us->ItemsAre (intKind P w) k us
 | [],_,.nil=>.nil
 |n::k,_,.cons r t=>by obtain⟨tk,rfl⟩:=r;exact .cons (intKind_is _ _ _ _) (sB t)
theorem vw{P:NP}{w:NT}{H:Hp}{h:NZ}{a:Addr}{k:List Int}(x:bH P w H h a (.tup (k.map V.int))):N7 (intKind P w) h k a:=by obtain⟨_,its,r,o,ho,hc,n,hd⟩:=x;exact⟨o,_,n,ho,hc,hd,sB r⟩
theorem oY{gV:NJ}{σ:St}{H:Hp}{s:NN}{Q:VK}(I:aM X gV σ H s){m:NH}(F:Fr X.Ny X.env.locals s.heap m){h':NZ}{p:Addr}{e tk:Nat}{d:Drawn}{ps':List (List Int×Addr)}(F':Fr X.Ny X.env.locals h' m)
  (kp:∀b o,b≠X.env.locals->s.heap.get? b=some o->h'.get? b=some o) (hle:s.heap.objs.size<=p) (ga:h'.get? p=some (seqObj "list" (ps'.map λz=>NY z.2).toArray e)) (hz:ps'.length<64)
  (q:H p=none->Q (.ref p) (upd H p (.lst (ps'.map λz=>V.ref z.2)))):EP X gV σ Q (.ref p) {s with heap:=h',drawn:=d,toks:=tk}:=by
 have hD:s.heap.get? p=none:=PF hle;have hHD:H p=none:=by
  cases z:H p with
  |none=>rfl
  |some u=>
   obtain⟨o,e⟩:=(I.hok p u z).hereS;rw[hD]at e;cases e
 refine⟨.ref p,upd H p (.lst (ps'.map λz=>V.ref z.2)),?_,rfl,q hHD⟩;have hlenZ:(ps'.map λz=>V.ref z.2).length<=sizeLine:=by rw[Rz,NR];lia
 have neD:∀b u,H b=some u->b≠p:=λb u e=>aC e hHD;have neLH:∀b u,H b=some u->b≠X.env.locals:=λb u e=>aC e I.free;refine I.step (g':=s.gens) (d':=d) (ch:=[]) (λ_ z=>nomatch z) (λb o n _ _ e _=>kp b o n e) (λb o n _ _ e _=>⟨o.slots,kp b o n e⟩) (λb o _ e n=>?_) (λb o _ e=>?_)
  (λb xs e=>by rw[av (neD b _ e)];exact e) (λb o u e=>by rw[av (neD b _ e)];exact e) (λb ps e=>⟨#[],by rw[av (neD b _ e),e];simp⟩) (λm' hm=>?_) (λb u e=>?_) I.bare
 .rw[av (λz=>by rw[z,hD]at e;cases e)];exact n
 .by_cases hb:b=X.env.locals
  .obtain⟨o',_,_,e',_⟩:=F'.ns;rw[hb];exact⟨o',e'⟩
  .exact⟨o,kp b o hb e⟩
 .rw[hm.eq_nsMap,<-F.ns.eq_nsMap];exact F'.ns
 .by_cases hb:b=p
  .subst hb;rw[ah]at e;cases e;exact⟨hlenZ,_,_,nR ps',by simpa[seqObj]using ga⟩
  .rw[av hb]at e;refine(I.hok b u e).stay (λb' v hb' z=>kp b' v ?_ z) (λb' z=>by rw[av (neD b' _ z)];exact z) λb' xs z=>by rw[av (neD b' _ z)];exact z
   rcases hb' with rfl|hb'
   .exact neLH _ _ e
   .exact neLH _ _ hb'
def rz(P:NP)(w:NT)(K:Frag)(xs:List V)(H:Hp)(Q:VK):Prop:= ∃(d:Addr)(ps:List (List Int×Addr)),xs=[.ref d]/\aY K H d (ps.map λz=>V.ref z.2)/\(∀p∈ps,H p.2=some (.tup (p.1.map V.int)))/\ps.length+1<307/\
 ∀(q:Addr)(ps':List (List Int×Addr)),H q=none->(∀p∈ps',p∈ps)->(ps'.map (·.1)).Nodup->(∀k,k∈ps'.map (·.1)<->k∈ps.map (·.1))->Q (.ref q) (upd H q (.ext λh=>sX P w h q ps'))
def l8(P:NP)(w:NT)(xs:List V)(H:Hp)(Q:VK):Prop:= ∃(d:Addr)(ps:List (List Int×Addr)),xs=[.ref d]/\H d=some (.ext λh=>sX P w h d ps)/\(∀p∈ps,p.1≠[]/\H p.2=some (.tup (p.1.map V.int)))/\(ps.map (·.1)).Nodup/\ps.length<64/\
 ∀(ps':List (List Int×Addr))(q:Addr),ps'.Perm ps->ps'.Pairwise (λx y=>dz x.1 y.1=true)->H q=none->Q (.ref q) (upd H q (.lst (ps'.map λz=>V.ref z.2)))
theorem Ap{gV:NJ}{σ:St}{H:Hp}{s:NN}(I:aM X gV σ H s){ps:List (List Int×Addr)}(hp:∀p∈ps,p.1≠[]/\H p.2=some (.tup (p.1.map V.int)))(nd:(ps.map (·.1)).Nodup):Cw X.prog X.w s.heap X.env.locals ps:=
 ⟨λp h=>⟨aC (hp p h).2 I.free,(hp p h).1,vw (I.hok _ _ (hp p h).2)⟩,nd⟩
theorem sR(hh:X.A.handled=none):bn X (.builtin "sorted") (l8 X.prog X.w):=by intro gV s σ H xs us Q I r h;obtain⟨d,ps,rfl,hd,hp,nd,h64,q⟩:=h;obtain⟨u,rfl,rx⟩:=dL r;cases rx;obtain⟨pS,_,_⟩:=(show bH X.prog X.w H s.heap d (.ext _)from I.hok d _ hd);obtain⟨m,F⟩:=I.fr;refine rp F hh pS (Ap I hp nd) h64 λps' h' p e dr tk a1 a2 F' kp hle ga _=>?_;exact oY I F F' kp hle ga (by rw[a1.length_eq];exact h64) (q ps' p a1 a2)
theorem uZ(hh:X.A.handled=none)(hu:X.A.units+4<OH):bn X (.type "set") (rz X.prog X.w X.K):=by
 intro gV s σ H xs us Q I r h;obtain⟨d,ps,rfl,hq,hp,hb,q⟩:=h;obtain⟨u,rfl,rx⟩:=dL r;cases rx;obtain⟨its,r',pl,hz⟩:=I.list hq;have hlen:=r'.length;rw[Rz]at hlen;have hs:its.toArray.size=ps.length:=by rw[RD,<-hlen]
 have hM:∀p∈ps,N7 (intKind X.prog X.w) s.heap p.1 p.2:=λp h=>vw (I.hok _ _ (hp p h));refine wQ (λa=>∃p∈ps,p.2=a) (λi=>(ps.getD i ([],0)).1) hh pl.isList hu (λi v hv=>?_) (λa ⟨p,hp1,e⟩=>?_) (by rw[hs];exact hb) λh2 tk hS kp=>?_
 .rw[SU]at hv;have hi:i<its.length:=(RO.mp hv).1;have hi2:i<ps.length:=by lia
  have hx:(ps.map λz=>V.ref z.2)[i]? =some (.ref ps[i].2):=by rw[RE,RC hi2];rfl
  obtain⟨u,hu,ru⟩:=r'.get hx;rw[hv]at hu;cases hu;have eg:ps.getD i ([],0)=ps[i]:=by simp[RH,hi2]
  rw[eg];exact⟨_,ru,⟨_,RU hi2,rfl⟩,hM _ (RU hi2)⟩
 .obtain⟨o,_,_,ho,_⟩:=hM p hp1;rw[<-e];exact NQ ho
 .rw[hs]at hS;have k2:∀b u,s.heap.get? b=some u->h2.get? b=some u:=λb u e=>kp b u (NQ e) e;obtain⟨ps',s1,s2,s3,s4,_⟩:=hS.toP;have ho:∃o,h2.get? s.heap.objs.size=some o:=let ⟨_,_,_,⟨o,h1,_⟩,_⟩:=s1;⟨o,h1⟩;refine⟨.ref s.heap.objs.size,_,I.laid (t':=tk) k2 (Tj _) (show bH X.prog X.w _ h2 _ (.ext λh=>sX X.prog X.w h s.heap.objs.size ps')from⟨s1,ho,λh1 h2 e k=>e.keep k⟩),rfl,q _ ps' (I.hok.fresh (Tj _)) (λp h=>?_) s3 λk=>?_⟩
  .obtain⟨⟨p2,h2p,e2⟩,kk⟩:=s2 p h;obtain⟨o,items,n,g1,rr⟩:=hM p2 h2p;have:p2.1=p.1:=IsTupleKey.inj (knd:=intKind X.prog X.w) (h:=h2) (a:=p.2) (e2▸⟨o,items,n,k2 _ _ g1,rr⟩) kk;have:p2=p:=Prod.ext this e2;exact this▸h2p
  .rw[<-s4 k,decide_eq_true_eq,mK,RA,RA]
   constructor
   .rintro⟨i,hi,rfl⟩;have hi2:=RJ.mp hi;exact⟨ps[i],RU hi2,by simp[RH,hi2]⟩
   .rintro⟨p,h,rfl⟩;obtain⟨i,hi,rfl⟩:=Sh h;exact⟨i,RJ.mpr hi,by simp[RH,hi]⟩
end
end L2
namespace L2
open PySem PySem.Spec PyProof.Rows
section
variable{X:Cx}{a b c e o:N5}{ta tb tc te to:TE}{p p2 pos:Px}{es:List N5}{t:TA}
def MA(to te:TE):TE:=λσ H Q=>to σ H λx H1=>match x with
 | .ref l=>(∃xs,H1 l=some (.lst xs))/\te σ H1 λy H2=>∃b xs zs,y=.ref b/\H2 l=some (.lst xs)/\H2 b=some (.lst zs)/\xs.length+zs.length<=sizeLine/\Q .non (upd H2 l (.lst (xs++zs)))
 |_=>False
theorem B7{apos cpos:Px}(ho:PE X o to)(he:PE X e te)(hbase:Ot o "extend" X.env (Om o X.env)=Om o X.env:=by rfl)
  (hfew:((Oh cpos (NU [e] X.env)).all (λx=> !x.1)&&(P1 cpos (Pc [] X.env)).all (λx=>x.1.isSome)
   &&decide ([e].length+([]:List Ph).length+(if([]:List Ph).isEmpty then 0 else 1)<30))=true:=by rfl)
  (hline:(apos.endLine == cpos.line)=true:=by rfl) (hs:NU [e] X.env=(false,Om e X.env)::NU [] X.env:=by rfl) (hplain:(Oh cpos (NU [] X.env)).any (·.1)=false:=by rfl):
  PE X (.Call (.Attribute o "extend" apos) [e] [] cpos) (MA to te):=by
 intro gV s σ H Q I h;refine OF hbase hfew hline rfl (bU (ho gV s σ H _ I h) λv s1 ⟨x,H1,I1,r1,q1⟩=>?_);cases x with
 |ref l=>
  obtain⟨⟨xs0,e0⟩,q1⟩:=q1;have ty:IA X.K "list" (.ref l) H1:=.inl ⟨rfl,xs0,aY.of e0⟩;obtain⟨h1,h2⟩:=ko I1 r1 ty;refine⟨"list","list.extend",PySem.F.plainAttrs_list,PySem.F.slot_list_extend,PySem.F.type_list_extend,h1,h2,?_⟩;have hA:=(pa_cons he pa_nil hs:PA X [e] (bx te df)) cpos gV s1 σ H1 (λvs H2=>lM (.ref l) vs H2 Q) I1 (by
   show te σ H1 λy H2=>lM (.ref l) [y] H2 Q;have:(λ(y:V)(H2:Hp)=>∃b xs zs,y=.ref b/\H2 l=some (.lst xs)/\H2 b=some (.lst zs)/\xs.length+zs.length<=sizeLine/\Q .non (upd H2 l (.lst (xs++zs))))=λy H2=>lM (.ref l) [y] H2 Q:=by
    funext y H2;apply propext
    constructor
    .rintro⟨b,xs,zs,rfl,z⟩;exact⟨l,b,xs,zs,rfl,rfl,z⟩
    .rintro⟨l',b,xs,zs,e1,e2,z⟩;cases e1;have:y=.ref b:=by injection e2
     exact⟨b,xs,zs,this,z⟩
   rw[<-this];exact q1)
  rw[hs]at hA ⊢;refine Ow (by show(false||(Oh cpos (NU [] X.env)).any (·.1))=false;rw[hplain]<;>rfl) (OA ?_)
  exact bU hA λus s2 ⟨vs,H2,I2,r2,q3⟩=>xo gV s2 σ H2 _ vs v us Q I2 r1 r2 q3
 |_=>exact q1.elim
theorem L4(P:NP)(w:NT)(K:Frag){j:Nat}(hr:cI j X.A)(hP:X.prog=P:=by rfl)(hw:X.w=w:=by rfl)(hK:X.K=K:=by rfl):bn X (.type "set") (rz P w K):=by subst hP hw hK;exact uZ hr.hd (by have:=hr.units;lia)
theorem Jx(P:NP)(w:NT){j:Nat}(hr:cI j X.A)(hP:X.prog=P:=by rfl)(hw:X.w=w:=by rfl):bn X (.builtin "sorted") (l8 P w):=by subst hP hw;exact sR hr.hd
end
section
variable{P:NP}{w:NT}{K:Frag}{σ:St}{H:Hp}{Q:VK}{te to:TE}{D:dq}{u:TS}
theorem tO(h:te σ H λv H1=>rz P w K [v] H1 λu H2=>l8 P w [u] H2 Q):cB (l8 P w) (bx (cB (rz P w K) (bx te df)) df) σ H Q:=h
def pk(x:Int×Int):List Int:=[x.1,x.2]
theorem pT{x y:Int×Int}(h:pk x=pk y):x=y:=by unfold pk at h;injection h with h1 h2;injection h2 with h2 _;exact Prod.ext h1 h2
theorem tR{d:Addr}{ps:List (List Int×Addr)}(hd:aY K H d (ps.map λz=>V.ref z.2))(hp:∀p∈ps,p.1≠[]/\H p.2=some (.tup (p.1.map V.int)))(hl:ps.length+1<307)(h64:∀l:List (List Int),l.Nodup->(∀k,k∈l<->k∈ps.map (·.1))->l.length<64)
  (q:∀(ps':List (List Int×Addr))(q:Addr)(H':Hp),(∀p∈ps',p∈ps)->(∀k,k∈ps'.map (·.1)<->k∈ps.map (·.1))->ps'.Pairwise (λx y=>dz x.1 y.1=true)->H q=none->ak H H'->H' q=some (.lst (ps'.map λz=>V.ref z.2))->Q (.ref q) H'):rz P w K [.ref d] H λu H2=>l8 P w [u] H2 Q:=by
 refine⟨d,ps,rfl,hd,λp h=>(hp p h).2,hl,λq1 ps1 hq1 sub nd mem=>?_⟩;have z1:ps1.length<64:=by have:=h64 _ nd mem;rwa[Rz]at this
 refine⟨q1,ps1,rfl,ah,λp h=>⟨(hp p (sub p h)).1,?_⟩,nd,z1,λps2 q2 pm pw hq2=>?_⟩
 .rw[av (aC (hp p (sub p h)).2 hq1)];exact(hp p (sub p h)).2
 .have n12:q2≠q1:=λz=>by rw[z,ah]at hq2;cases hq2
  have hq2':H q2=none:=by rw[av n12]at hq2;exact hq2
  refine q ps2 q2 _ (λp h=>sub p (pm.mem_iff.mp h)) (λk=>?_) pw hq2' (((ak.refl H).upd hq1).upd hq2) ah;rw[<-mem k];exact(pm.map _).mem_iff
end
def sdV(row:Str)(s:Int):V:=bP (row.cps.toList.getD s.toNat 0)
noncomputable def de(row:Str)(sd:Int)(aim:Str):List Int->List (Int×Int)
 | []=>[]
 |g::r=>if sdV row g=.non then(if aim="hit"then de row sd aim r else(g, -1)::de row sd aim r)else if¬sdV row g=.int sd/\¬aim="go"then [(g,g)]else []
noncomputable def jumpL(row:Str)(sd:Int):List Int->List (Int×Int)
 |g::b::_=>if sdV row g=.int (1 - sd)/\sdV row b=.non then [(b,g)]else []
 |_=>[]
theorem kE(row:Str)(sd:Int)(aim:Str):∀l,(de row sd aim l).length<=l.length
 | []=>Tj _
 |g::r=>by
  have:=kE row sd aim r;unfold de;split
  .split<;>simp<;>lia
  .split<;>simp
theorem kT(row:Str)(sd:Int):∀l,(jumpL row sd l).length<=1
 | []=>Tl _
 | [_]=>Tl _
 |g::b::r=>by
  show(if sdV row g=.int (1 - sd)/\sdV row b=.non then [(b,g)]else []).length<=1;split
  .exact Tj _
  .exact Tl _
def bA(H H':Hp)(q:Addr)(l:List (Int×Int)):Prop:= ∃ps:List (List Int×Addr),ps.map (·.1)=l.map pk/\H' q=some (.lst (ps.map λz=>V.ref z.2))/\∀p∈ps,H p.2=none/\H' p.2=some (.tup (p.1.map V.int))
theorem ij{row:Str}{sd:Int}{aim:Str}{g:Int}{r:List Int}:de row sd aim (g::r)=if sdV row g=.non then(if aim="hit"then de row sd aim r else(g, -1)::de row sd aim r)else if¬sdV row g=.int sd/\¬aim="go"then [(g,g)]else []:=rfl
structure RowS(row:Str):Prop where
 len:row.length<=64
 asc:∀c∈row.cps.toList,c<128
def Az(K:Frag):Sp:=λvs H Q _=>∃(row aim:Str)(sd:Int)(p:Addr)(path:List Int),vs=[.str row,.int sd,.str aim,.ref p]/\aY K H p (path.map V.int)/\RowS row/\(∀g∈path,0<=g/\g<row.length)/\path.length<=8/\
 ∀(q:Addr)(H':Hp),H q=none->bA H H' q (de row sd aim path)->ak H H'->Q (.ref q) H'
def AE(K:Frag):Sp:=λvs H Q _=>∃(row:Str)(sd:Int)(p:Addr)(path:List Int),vs=[.str row,.int sd,.ref p]/\aY K H p (path.map V.int)/\RowS row/\(∀g∈path,0<=g/\g<row.length)/\(sd=0\/sd=1)/\
 ∀(q:Addr)(H':Hp),H q=none->bA H H' q (jumpL row sd path)->ak H H'->Q (.ref q) H'
structure CRs(P:NP)(w:NT)(K:Frag)(mg:NH)(Ny:NZ):Prop where
 side_of:dg P w K mg Ny "side_of" ["sign"] 1 lZ
theorem RowS.at{row:Str}(R:RowS row){s:Int}(h0:0<=s)(h1:s<row.length):km row.cps.toList s=some (row.cps.toList.getD s.toNat 0)/\row.cps.toList.getD s.toNat 0<128:=by
 have hl:s.toNat<row.cps.toList.length:=by have:row.length=row.cps.toList.length:=rfl;lia
 have e:row.cps.toList[s.toNat]? =some (row.cps.toList.getD s.toNat 0):=by rw[RH,RC hl];rfl
 have z:=bO e;rw[T0 h0]at z;exact⟨z,R.asc _ (RT e)⟩
theorem bA.nil{H:Hp}{q:Addr}:bA H (upd H q (.lst [])) q []:=⟨[],rfl,ah,λ_ z=>nomatch z⟩
theorem bA.add{H H1:Hp}{q t:Addr}{l:List (Int×Int)}{x y:Int}{ps:List (List Int×Addr)}(h1:ps.map (·.1)=l.map pk)(h2:H1 q=some (.lst (ps.map λz=>V.ref z.2)))(h3:∀p∈ps,H p.2=none/\H1 p.2=some (.tup (p.1.map V.int)))(s:ak H H1)(ht:H1 t=none):
  bA H (upd (upd H1 t (.tup [.int x,.int y])) q (.lst ((ps.map λz=>V.ref z.2)++[.ref t]))) q (l++[(x,y)]):=by
 have hqt:q≠t:=λz=>by rw[<-z,h2]at ht;cases ht
 refine⟨ps++[([x,y],t)],by rw[RQ,RQ,h1];rfl,by rw[ah,RQ];rfl,λp hp=>?_⟩
 rcases RM.mp hp with z|z
 .obtain⟨a1,a2⟩:=h3 p z;refine⟨a1,?_⟩;rw[av (λw=>by rw[w]at a2;rw[h2]at a2;cases a2),av (λw=>by rw[w,ht]at a2;cases a2)];exact a2
 .rw[RL.mp z];refine⟨?_,by rw[av (Ne.symm hqt),ah];rfl⟩;cases w:H t with
  |none=>rfl
  |some u=>have:=s t u w;rw[ht]at this;cases this
theorem Lq{t u:TT}{σ:St}{H:Hp}{R:Bool->Hp->Prop}(h:t σ H λc H1=>if c=true then R true H1 else u σ H1 R):Ls t u σ H R:=h
section
variable{K:Frag}{c:Nat}{H:Hp}{Q:VK}
theorem C6{sd:Int}:fT K .NotEq (bP c) (.int sd) H Q=Q (.bl (!decide (bP c=.int sd))) H:=by
 unfold bP
 by_cases h:c=46\/c=35
 .rw[ND h];show Q (.bl true) H=Q (.bl (!decide (V.non=V.int sd))) H;rw[NB (by intro z;cases z)];rfl
 .rw[NC h];show Q (.bl (!decide (_=sd))) H=Q (.bl (!decide (V.int _=V.int sd))) H;have:∀i:Int,decide (i=sd)=decide (V.int i=V.int sd):=λi=>by
   by_cases e:i=sd
   .rw[NA e,NA (congrArg V.int e)]
   .rw[NB e,NB (λz=>e (by injection z))]
  rw[this]
theorem tQ:fT K .IsNot (bP c) .non H Q=Q (.bl (!decide (bP c=.non))) H:=by
 unfold bP
 by_cases h:c=46\/c=35
 .rw[ND h];show Q (.bl false) H=Q (.bl (!decide (V.non=V.non))) H;rw[NA rfl];rfl
 .rw[NC h];show Q (.bl true) H=Q (.bl (!decide (V.int _=V.non))) H;rw[NB (by intro z;cases z)];rfl
end
theorem nT{t:TT}{ta tb:TE}{σ:St}{H:Hp}{Q:VK}{b:Bool}(hc:Tv t σ H b)(h1:b=true->ta σ H Q)(h2:b=false->tb σ H Q):MN t ta tb σ H Q:=hc _ (by
 cases b with
 |true=>exact iR (h1 rfl)
 |false=>exact iB (h2 rfl))
noncomputable def qG(row:Str)(sd:Int)(so ai:Str)(path:List Int):List (Int×Int):=if so="jump"then jumpL row sd path else de row sd ai (if so="leap"then path.take 1 else path)
theorem D6(row:Str)(sd:Int)(so ai:Str){path:List Int}(h:path.length<=8):(qG row sd so ai path).length<=8:=by
 unfold qG;split
 .have:=kT row sd path;lia
 .have:=kE row sd ai (if so="leap"then path.take 1 else path);have:(if so="leap"then path.take 1 else path).length<=8:=by
   split
   .rw[RV];lia
   .exact h
  lia
structure aP where
 kd:Str
 so:Str
 ai:Str
 ax:Int
 up:Int
abbrev aP.vs(r:aP):List V:=[.str r.kd,.str r.so,.str r.ai,.int r.ax,.int r.up]
abbrev aP.dy(r:aP)(sd:Int):Int:=if sd=0 then r.up else -r.up
def rj(K:Frag)(cB:Addr):Sp:=λvs H Q _=>∃(b r:Addr)(row:Str)(sq sd wi hi:Int)(hs:List Int)(u:aP),vs=[.ref b,.str row,.int sq,.ref r]/\cu K cB H b wi hi hs/\cr K H r u.vs/\RowS row/\(row.length:Int)=wi*hi/\0<=sq/\sq<wi*hi/\
 sdV row sq=.int sd/\(sd=0\/sd=1)/\¬(u.ax=0/\u.up=0)/\∀(n:Nat)(q:Addr)(H':Hp),ib wi hi hs sq u.ax (u.dy sd) n->n<=8->H q=none->bA H H' q (qG row sd u.so u.ai (rayL wi sq u.ax (u.dy sd) n))->ak H H'->Q (.ref q) H'
structure CRb(P:NP)(w:NT)(K:Frag)(mg:NH)(Ny:NZ)(cB:Addr):Prop extends CRs P w K mg Ny where
 ray:dg P w K mg Ny "ray" ["board","square","across","up"] 3 (GH K cB)
 jumped:dg P w K mg Ny "jumped" ["row","side","path"] 2 (AE K)
 slid:dg P w K mg Ny "slid" ["row","side","aim","path"] 2 (Az K)
theorem pO{wi hi:Int}{hs:List Int}{s ax up:Int}{n:Nat}(w1:1<=wi)(R:ib wi hi hs s ax up n):∀g∈rayL wi s ax up n,0<=g/\g<wi*hi/\¬g∈hs:=λg hg=>by
 unfold rayL at hg;obtain⟨j,hj,rfl⟩:=RA.mp hg;obtain⟨a,b,c,d,e⟩:=R.1 j (RJ.mp hj);refine⟨?_,?_,e⟩
 .unfold lX;have:=T2 c (by lia:0<=wi);lia
 .unfold lX;have z:(s / wi+((j+1:Nat):Int)*up)*wi<=(hi - 1)*wi:=T3 (by lia) (by lia);rw[Int.sub_mul,TY,TW hi wi]at z;lia
theorem bA.from{H H1 H':Hp}{q:Addr}{l:List (Int×Int)}(h:bA H1 H' q l)(s:ak H H1):bA H H' q l:=by
 obtain⟨ps,a,b,c⟩:=h;refine⟨ps,a,b,λp hp=>⟨?_,(c p hp).2⟩⟩;cases w:H p.2 with
 |none=>rfl
 |some u=>have:=s _ u w;rw[(c p hp).1]at this;cases this
theorem GU{sp:Sp}{t:TA}{D:dq}{σ:St}{H:Hp}(h:t σ H λvs H1=>sp vs H1 D.rt E0):cM (fH sp t) D σ H:=h
theorem Mr(xs:List Int):cutV (xs.map V.int) none (some 1)=(xs.take 1).map V.int:=by
 unfold cutV;rw[HT.sIx_none];have:HT.sIx (xs.map V.int).length (xs.map V.int).length (some 1)=min 1 (xs.map V.int).length:=HT.sIx_nat _ _ 1;rw[this,SC,TJ,SJ];cases xs with
 |nil=>rfl
 |cons a l=>simp
theorem ak.tupY{K:Frag}{H H':Hp}{a:Addr}{xs:List V}(e:ak H H')(h:cr K H a xs):cr K H' a xs:=by
 rcases h with(h|⟨o,h⟩)|h
 .exact .inl (.inl (e _ _ h))
 .exact .inl (.inr ⟨o,e _ _ h⟩)
 .exact .inr h
def eM(H:Hp)(us:List (aP×Addr)):Prop:= ∀z∈us,H z.2=some (.tup z.1.vs)
theorem eM.same{H H':Hp}{us:List (aP×Addr)}(h:eM H us)(s:ak H H'):eM H' us:=λz hz=>s _ _ (h z hz)
abbrev cF(us:List (aP×Addr)):List V:=us.map λz=>V.ref z.2
noncomputable def ofKind(us:List (aP×Addr))(kd:Str):List (aP×Addr):=us.filter λz=>decide (z.1.kd=kd)
def MR(us:List (aP×Addr))(kd:Str)(v:V):Bool:=us.any λz=>decide (V.ref z.2=v/\z.1.kd=kd)
theorem Bm{H:Hp}{us:List (aP×Addr)}(h:eM H us){kd:Str}{z:aP×Addr}(hz:z∈us):MR us kd (.ref z.2)=decide (z.1.kd=kd):=by
 unfold MR
 by_cases e:z.1.kd=kd
 .rw[NA e,R6];exact⟨z,hz,NA ⟨rfl,e⟩⟩
 .rw[NB e,Sd];intro y hy w;obtain⟨e1,e2⟩:=NE w;have e1:y.2=z.2:=by injection e1
  have a:=h y hy;rw[e1,h z hz]at a;injection a with a;injection a with a;injection a with a _;injection a with a;exact e (a.trans e2)
theorem uF{H:Hp}{us:List (aP×Addr)}(h:eM H us){kd:Str}:(cF us).filter (MR us kd)=cF (ofKind us kd):=by unfold cF ofKind;rw[Su];congr 1;refine S3 λz hz=>?_;exact Bm h hz
def nY(cG:Addr):Sp:=λvs H Q _=>∃(g b:Addr)(kd:Str)(ks ts es:List V)(st:Str)(us:List (aP×Addr)),vs=[.ref g,.str kd]/\gw cG H g b ks (cF us) ts es st/\eM H us/\us.length<=24/\
 ∀(q:Addr)(H':Hp),H q=none->H' q=some (.lst (cF (ofKind us kd)))->ak H H'->Q (.ref q) H'
def fN(wi hi:Int)(hs:List Int)(row:Str)(sq sd:Int)(u:aP)(l:List (Int×Int)):Prop:= ∃n:Nat,ib wi hi hs sq u.ax (u.dy sd) n/\n<=8/\l=qG row sd u.so u.ai (rayL wi sq u.ax (u.dy sd) n)
theorem fN.uniq{wi hi:Int}{hs:List Int}{row:Str}{sq sd:Int}{u:aP}{l l':List (Int×Int)}(h:fN wi hi hs row sq sd u l)(h':fN wi hi hs row sq sd u l'):l=l':=by obtain⟨n,a,_,rfl⟩:=h;obtain⟨m,b,_,rfl⟩:=h';rw[a.uniq b λ_=>Iff.rfl]
theorem fN.len{wi hi:Int}{hs:List Int}{row:Str}{sq sd:Int}{u:aP}{l:List (Int×Int)}(h:fN wi hi hs row sq sd u l):l.length<=8:=by obtain⟨n,a,b,rfl⟩:=h;exact D6 _ _ _ _ (by rw[hG];exact b)
inductive aX(wi hi:Int)(hs:List Int)(row:Str)(sq sd:Int):List (aP×Addr)->List (Int×Int)->Prop
 |nil:aX wi hi hs row sq sd [] []
 |cons {z us l r}:fN wi hi hs row sq sd z.1 l->aX wi hi hs row sq sd us r->aX wi hi hs row sq sd (z::us) (l++r)
theorem aX.uniq{wi hi:Int}{hs:List Int}{row:Str}{sq sd:Int}:∀{us:List (aP×Addr)}{l l':List (Int×Int)},aX wi hi hs row sq sd us l->aX wi hi hs row sq sd us l'->l=l'
 |_,_,_,.nil,.nil=>rfl
 |_,_,_,.cons a b,.cons c d=>by rw[a.uniq c,aX.uniq b d]
theorem aX.len{wi hi:Int}{hs:List Int}{row:Str}{sq sd:Int}:∀{us:List (aP×Addr)}{l:List (Int×Int)},aX wi hi hs row sq sd us l->l.length<=8*us.length
 |_,_,.nil=>Tl _
 |_,_,.cons a b=>by have:=a.len;have:=aX.len b;rw[RI,RR];lia
theorem aX.add{wi hi:Int}{hs:List Int}{row:Str}{sq sd:Int}{z:aP×Addr}{l:List (Int×Int)}(h:fN wi hi hs row sq sd z.1 l):∀{us:List (aP×Addr)}{r:List (Int×Int)},aX wi hi hs row sq sd us r->aX wi hi hs row sq sd (us++[z]) (r++l)
 |_,_,.nil=>by
  have:=aX.cons h aX.nil
  rwa[RP]at this
 |_,_,.cons a b=>by rw[Sl];exact .cons a (aX.add h b)
def m7(l l':List (Int×Int)):Prop:=(∀x,x∈l'<->x∈l)/\l'.Pairwise λx y=>dz (pk x) (pk y)=true
theorem m7.uniq{l:List (Int×Int)}:∀{a b:List (Int×Int)},m7 l a->m7 l b->a=b:=by
 have key:∀(a b:List (Int×Int)),(∀x,x∈a<->x∈b)->a.Pairwise (λx y=>dz (pk x) (pk y)=true)->b.Pairwise (λx y=>dz (pk x) (pk y)=true)->a=b:=by
  intro a
  induction a with
  |nil=>
   intro b h _ _;cases b with
   |nil=>rfl
   |cons y b=>exact NG ((h y).mpr RK) (by simp)
  |cons x a ih=>
   intro b h pa pb;cases b with
   |nil=>exact NG ((h x).mp RK) (by simp)
   |cons y b=>
    obtain⟨a1,a2⟩:=Sw.mp pa;obtain⟨b1,b2⟩:=Sw.mp pb;have e:x=y:=by
     rcases RB.mp ((h x).mp RK)with z|z
     .exact z
     .rcases RB.mp ((h y).mpr RK)with w|w
      .exact w.symm
      .have t1:=b1 x z;have t2:=a1 y w;rw[qo _ _ t1]at t2;cases t2
    subst e;rw[ih b (λz=>?_) a2 b2]
    constructor
    .intro hz
     rcases RB.mp ((h z).mp (RF _ hz))with w|w
     .rw[w]at hz;have:=a1 x hz;rw[jY]at this;cases this
     .exact w
    .intro hz
     rcases RB.mp ((h z).mpr (RF _ hz))with w|w
     .rw[w]at hz;have:=b1 x hz;rw[jY]at this;cases this
     .exact w
 intro a b ha hb;exact key a b (λx=>(ha.1 x).trans (hb.1 x).symm) ha.2 hb.2
def px(K:Frag)(cB cG:Addr):Sp:=λvs H Q _=>∃(g b:Addr)(row kd:Str)(sq sd wi hi:Int)(hs:List Int)(ks ts es:List V)(st:Str)(us:List (aP×Addr)),vs=[.ref g,.str row,.int sq]/\gw cG H g b ks (cF us) ts es st/\cu K cB H b wi hi hs/\eM H us/\us.length<=12/\(∀z∈us,¬(z.1.ax=0/\z.1.up=0))/\
 RowS row/\(row.length:Int)=wi*hi/\0<=sq/\sq<wi*hi/\sdV row sq=.int sd/\(sd=0\/sd=1)/\jm (row.cps.toList.getD sq.toNat 0)=.str kd/\(∀l,aX wi hi hs row sq sd (ofKind us kd) l->∀m:List (Int×Int),m.Nodup->(∀x∈m,x∈l)->m.length<64)/\
 ∀(l l':List (Int×Int))(q:Addr)(H':Hp),aX wi hi hs row sq sd (ofKind us kd) l->m7 l l'->H q=none->bA H H' q l'->ak H H'->Q (.ref q) H'
structure CRg(P:NP)(w:NT)(K:Frag)(mg:NH)(Ny:NZ)(cB cG:Addr):Prop where
 kind_of:dg P w K mg Ny "kind_of" ["sign"] 1 tN
 by_rule:dg P w K mg Ny "by_rule" ["board","row","square","rule"] 4 (rj K cB)
 Game_rules_of:qO P w K mg Ny cG "rules_of" ["self","kind"] 1 (nY cG)
theorem CW{l:List (Int×Int)}:∀{L:List (List Int)},(∀k∈L,k∈l.map pk)->∃m:List (Int×Int),L=m.map pk/\∀x∈m,x∈l
 | [],_=>⟨[],rfl,λ_ z=>nomatch z⟩
 |k::L,h=>by obtain⟨m,rfl,hm⟩:=CW λk' hk'=>h k' (RF _ hk');obtain⟨x,hx,rfl⟩:=RA.mp (h k RK);exact⟨x::m,rfl,λy hy=>(RB.mp hy).elim (λz=>z▸hx) (hm y)⟩
theorem bA.cat{H H1 H2:Hp}{q:Addr}{l l2:List (Int×Int)}{ps ps2:List (List Int×Addr)}(h1:ps.map (·.1)=l.map pk)(h2:H2 q=some (.lst (ps.map λz=>V.ref z.2)))(h3:∀p∈ps,H p.2=none/\H2 p.2=some (.tup (p.1.map V.int)))(s:ak H H1)
  (g1:ps2.map (·.1)=l2.map pk) (g3:∀p∈ps2,H1 p.2=none/\H2 p.2=some (.tup (p.1.map V.int))):bA H (upd H2 q (.lst ((ps.map λz=>V.ref z.2)++ps2.map λz=>V.ref z.2))) q (l++l2):=by
 refine⟨ps++ps2,by rw[RQ,RQ,h1,g1],by rw[ah,RQ],λp hp=>?_⟩;have ne:∀{p:Addr}{xs:List V},H2 p=some (.tup xs)->p≠q:=λa e=>by rw[e,h2]at a;cases a
 rcases RM.mp hp with z|z
 .obtain⟨a1,a2⟩:=h3 p z;exact⟨a1,by rw[av (ne a2)];exact a2⟩
 .obtain⟨a1,a2⟩:=g3 p z;exact⟨s.free a1,by rw[av (ne a2)];exact a2⟩
theorem Hq{to te:TE}{σ:St}{H:Hp}{D:dq}{l:Addr}{xs:List V}(ho:Ev to σ H (.ref l))(hl:H l=some (.lst xs))(q:te σ H λy H2=>∃b xs zs,y=.ref b/\H2 l=some (.lst xs)/\H2 b=some (.lst zs)/\xs.length+zs.length<=sizeLine/\D.nx σ (upd H2 l (.lst (xs++zs)))):jD (MA to te) D σ H:=ho _ ⟨⟨xs,hl⟩,q⟩
theorem ME{sp:Sp}{t' t:TA}{σ:St}{H:Hp}{R:List V->Hp->Prop}(h:t' σ H λvs H1=>sp vs H1 (λx H2=>t σ H2 λxs H3=>R (x::xs) H3) E0):bx (fH sp t') t σ H R:=h
structure jp(H:Hp)(d:Addr)(ks:List Nat):Prop where
 at_:H d=some (.lst (ks.map strV))
 ltr:∀k∈ks,lG k
 l1:1<=ks.length
 l6:ks.length<=6
 nd:ks.Nodup
theorem jp.same{H H':Hp}{d:Addr}{ks:List Nat}(h:jp H d ks)(s:ak H H'):jp H' d ks:=⟨s _ _ h.at_,h.ltr,h.l1,h.l6,h.nd⟩
theorem vU{ss:List Str}{i:Int}(h0:0<=i)(h1:i<ss.length):∃s,km (ss.map V.str) i=some (.str s)/\s∈ss:=by obtain⟨v,e1,e2⟩:=ms (xs:=ss.map V.str) h0 (by rw[Rz];exact h1);obtain⟨s,hs,rfl⟩:=RA.mp e2;exact⟨s,e1,hs⟩
theorem jp.pick{H:Hp}{d:Addr}{ks:List Nat}(h:jp H d ks)(i:Int):∃k∈ks,km (ks.map strV) (i % ((ks.map strV).length:Int))=some (strV k):=by
 have hl:(0:Int)<((ks.map strV).length:Int):=by rw[Rz];have:=h.l1;lia
 obtain⟨v,e1,e2⟩:=ms (xs:=ks.map strV) (TN i (by lia)) (TQ i hl);obtain⟨k,hk,rfl⟩:=RA.mp e2;exact⟨k,hk,e1⟩
theorem eF{te:TE}{ta:TA}{σ:St}{H:Hp}{v:V}{Q:List V->Hp->Prop}(h:Ev te σ H v)(q:ta σ H (λxs H2=>Q (v::xs) H2)):bx te ta σ H Q:=h _ q
theorem tupY{t:TA}{σ:St}{H:Hp}{Q:VK}(q:t σ H (λvs H2=>vs.length<=sizeLine/\∀p,H2 p=none->Q (.ref p) (upd H2 p (.tup vs)))):Ar t σ H Q:=q
theorem rS{σ:St}{H:Hp}{Q:List V->Hp->Prop}(q:Q [] H):df σ H Q:=q
structure kh(ks:List Nat)(u:aP):Prop where
 kd:∃c∈ks,u.kd=one c
 so:u.so∈sortsL
 ai:u.ai∈aimsL
 jh:u.so="jump"->u.ai="hit"
 ax: -(if u.so="leap"then 3 else 1)<=u.ax/\u.ax<=(if u.so="leap"then 3 else 1)
 up: -(if u.so="leap"then 3 else 1)<=u.up/\u.up<=(if u.so="leap"then 3 else 1)
 n0:¬(u.ax=0/\u.up=0)
def vG:Sp:=λvs H Q _=>∃(c:Int)(d:Addr)(ks:List Nat),vs=[.int c,.ref d]/\jp H d ks/\∀(t:Addr)(u:aP)(H':Hp),kh ks u->H t=none->H' t=some (.tup u.vs)->ak H H'->Q (.ref t) H'
theorem xM{ta:TA}{te:TE}{src:List (Option Nat)}{σ rest:St}{H:Hp}{Q:VK}{n:Int}(hl:∀Q':List V->Hp->Prop,(∀H',ak H H'->Q' [.int n] H')->ta σ H Q')(h0:0<=n)(h1:n<=1000)(hs:fO src σ=none::rest)(R:Nat->Hp->V->Prop)(hR:∀i H H' v,R i H v->ak H H'->R i H' v)
  (he:∀(i:Nat) H',i<n.toNat->ak H H'->∀Q:VK,(∀v H2,R i H2 v->ak H' H2->Q v H2)->te (some (.int (0+(i:Int)))::rest) H' Q)
  (q:∀d H' ys,ak H H'->H' d=none->ys.length=n.toNat->(∀i y,ys[i]? =some y->R i H' y)->Q (.ref d) (upd H' d (.lst ys))):tComp (mP ta) (gName 0) lT te src σ H Q:=by
 refine hl _ λH0 s0=>⟨n,rfl,by lia,by lia,?_⟩;refine mW n.toNat (λi ys σ' H'=>ak H H'/\(∃v,σ'=v::rest)/\ys.length=i/\∀j y,ys[j]? =some y->R j H' y) (by rw[NR];lia)
  (λi ys σ H h=>Tu h.2.2.1) (λi ys σ H _ hi=>hi) (λys σ H _=>Tj _) ⟨s0,⟨none,hs⟩,rfl,λj y hy=>by simp at hy⟩ ?_ ?_
 .rintro i ys _ H1 x H2 hi ⟨s1,⟨v0,rfl⟩,hl,hy⟩ ⟨rfl,rfl⟩ Kt Kf ht hf;simp only[gName,lT,Tg,if_true];exact(he i _ hi s1 _ λv H2 rv s2=>ht _ _ _ ⟨s1.trans s2,⟨_,rfl⟩,by rw[RI,hl];rfl,λj y hm=>by
   by_cases hj:j<ys.length
   .rw[Sz hj]at hm;exact hR _ _ _ _ (hy j y hm) s2
   .rw[S6 (by lia)]at hm;have e0:j - ys.length=0:=by have:=(RO.mp hm).1;simp at this;exact this
    rw[e0]at hm;have:v=y:=by simpa using hm
    subst this;have:j=i:=by lia
    subst this;exact rv⟩)
 .rintro ys _ H1 dd ⟨s1,_,hl,hy⟩ hd;exact q dd H1 ys s1 hd hl hy
def gv(H:Hp)(zs:List ((Str×Str)×Addr)):Prop:= ∀z∈zs,H z.2=some (.tup [.str z.1.1,.str z.1.2])
theorem gv.same{H H':Hp}{zs:List ((Str×Str)×Addr)}(h:gv H zs)(s:ak H H'):gv H' zs:=λz hz=>s _ _ (h z hz)
abbrev bQ(zs:List ((Str×Str)×Addr)):List V:=zs.map λz=>V.ref z.2
structure tm(ks:List Nat)(zs:List ((Str×Str)×Addr)):Prop where
 len:zs.length<=6
 kd:∀z∈zs,(∃a∈ks,z.1.1=one a)/\∃b∈ks,z.1.2=one b
 nd:(zs.map λz=>z.1.1).Nodup
 ap:∀z∈zs,∀y∈zs,¬z.1.2=y.1.1
def ra:Sp:=λvs H Q _=>∃(c:Int)(d:Addr)(ks:List Nat),vs=[.int c,.ref d]/\jp H d ks/\∀(q:Addr)(zs:List ((Str×Str)×Addr))(H':Hp),tm ks zs->gv H' zs->H q=none->H' q=some (.lst (bQ zs))->ak H H'->Q (.ref q) H'
theorem jV{a b:Nat}(h:one a=one b):a=b:=by unfold one at h;simp only[Str.mk.injEq]at h;have:=congrArg Array.toList h;simpa using this
theorem vS{H:Hp}(F:Nat->Str×Str):∀(ys:List V)(o:Nat),(∀i y,ys[i]? =some y->∃a,y=.ref a/\H a=some (.tup [.str (F (o+i)).1,.str (F (o+i)).2]))->∃zs:List ((Str×Str)×Addr),ys=bQ zs/\gv H zs/\zs.length=ys.length/\∀i z,zs[i]? =some z->z.1=F (o+i)
 | [],o,_=>⟨[],rfl,λ_ z=>(nomatch z),rfl,λi z h=>by simp at h⟩
 |y::ys,o,h=>by
  obtain⟨a,rfl,ha⟩:=h 0 y rfl;obtain⟨zs,rfl,h1,h2,h3⟩:=vS F ys (o+1) λi y hy=>by obtain⟨a,e1,e2⟩:=h (i+1) y (by simpa using hy);exact⟨a,e1,by rw[show o+1+i=o+(i+1) by lia];exact e2⟩
  refine⟨(F o,a)::zs,rfl,λz hz=>?_,by simp,λi z hz=>?_⟩
  .rcases RB.mp hz with rfl|hz
   .exact ha
   .exact h1 z hz
  .cases i with
   |zero=>
    have:(F o,a)=z:=by simpa using hz
    rw[<-this];rfl
   |succ i=>
    rw[h3 i z (by simpa using hz),show o+1+i=o+(i+1) by lia]
theorem oo{H H1 H':Hp}{x dx:Addr}{o1 o2:HO}(s:ak H H1)(nx:H1 x=none)(nd:H1 dx=none)(sb:SameBut x (upd (upd H1 dx o1) x o2) H'):ak H H':=λb o e=>by have e1:=s b o e;have nbx:=aC e1 nx;have nbd:=aC e1 nd;exact sb b o (by rw[av nbx,av nbd];exact e1) nbx
theorem xx{H:Hp}{q:Addr}{ks:List Nat}(h:H q=some (.lst (ks.map strV)))(hl:∀k∈ks,lG k)(nd:ks.Nodup)(k1:1<=ks.length)(k6:ks.length<=6):mL H (.ref q)=true:=by
 have e:lstOf H (.ref q)=some (ks.map strV):=by simp only[lstOf,h]
 unfold mL;rw[e];dsimp only;rw[Rz,NA ⟨k1,k6⟩,Ua,T6];refine⟨R1.mpr λx hx=>?_,NA ?_⟩
 .obtain⟨k,hk,rfl⟩:=RA.mp hx;exact NA (p:=97<=k/\k<=122) (hl k hk)
 .rw[RN];exact RX.mpr (nd.imp λhab e=>hab (Jo.mp e))
theorem dg.imp{P:NP}{w:NT}{K:Frag}{mg:NH}{Ny:NZ}{name:Str}{ps:List Str}{k:Nat}{sp sp':Sp}(C:dg P w K mg Ny name ps k sp)(h:∀vs H Q E,sp' vs H Q E->sp vs H Q E):dg P w K mg Ny name ps k sp':=by obtain⟨f,fd,F,a,b,c⟩:=C.ex;exact⟨f,fd,F.imp h,a,b,c⟩
theorem Kl{P:NP}{w:NT}{K:Frag}{mg:NH}{Ny:NZ}(C:dg P w K mg Ny "is_among" ["thing","least","most"] 2 l7):dg P w K mg Ny "is_among" ["thing","least","most"] 2 GN:=dg.imp C λvs H Q E h=>by obtain⟨t,a,b,rfl,q⟩:=h;exact⟨.int t,a,b,rfl,trivial,q⟩
theorem DK{ks:List Nat}{u:aP}(g:kh ks u):jg u.vs (ks.map one)=true:=by
 obtain⟨c,hc,e⟩:=g.kd;show(wordB (.str u.kd) (ks.map one)&&decide (u.so∈sortsL)&&decide (u.ai∈aimsL)&& !(decide (u.so="jump")&& !decide (u.ai="hit"))&&lg u.so (.int u.ax) (.int u.up))=true;have h1:wordB (.str u.kd) (ks.map one)=true:=NA (RA.mpr ⟨c,hc,e.symm⟩);have h2:(!(decide (u.so="jump")&& !decide (u.ai="hit")))=true:=by
  by_cases z:u.so="jump"
  .rw[g.jh z];simp
  .simp[z]
 have h3:lg u.so (.int u.ax) (.int u.up)=true:=by
  have a:=g.ax;have b:=g.up;have n:=g.n0;unfold lg amongB limS;have e1:decide (-(if u.so="leap"then(3:Int)else 1)<=u.ax/\u.ax<=if u.so="leap"then 3 else 1)=true:=NA a;have e2:decide (-(if u.so="leap"then(3:Int)else 1)<=u.up/\u.up<=if u.so="leap"then 3 else 1)=true:=NA b;dsimp only;rw[e1,e2]
  by_cases z:u.ax=0
  .have z2:¬u.up=0:=λw=>n ⟨z,w⟩;simp[z,z2]
  .simp[z]
 rw[h1,NA g.so,NA g.ai,h2,h3];rfl
theorem uB{H:Hp}{a:Addr}{xs:List V}(h:H a=some (.lst xs)):lstOf H (.ref a)=some xs:=by simp only[lstOf,h]
theorem o4{H:Hp}{a:Addr}{xs:List V}(h:H a=some (.tup xs)):tupOf H (.ref a)=some xs:=by simp only[tupOf,h]
theorem wW{H:Hp}{d:Addr}{us:List (aP×Addr)}{ks:List Nat}(h:H d=some (.lst (cF us)))(R:eM H us)(g:∀z∈us,kh ks z.1)(h24:us.length<=24):fI H (.ref d) (ks.map one)=true:=by unfold fI;rw[uB h];show(decide ((cF us).length<=24)&&(cF us).all λx=>dY H x (ks.map one))=true;rw[Rz,NA h24,Ua,R1];intro x hx;obtain⟨z,hz,rfl⟩:=RA.mp hx;unfold dY;rw[o4 (R z hz)];exact DK (g z hz)
theorem oa{H:Hp}{d:Addr}{zs:List ((Str×Str)×Addr)}{A B:List Str}(h:H d=some (.lst (bQ zs)))(R:gv H zs)(g:∀z∈zs,z.1.1∈A/\z.1.2∈B)(h6:zs.length<=6):pairsB H (.ref d) A B=true:=by unfold pairsB;rw[uB h];show(decide ((bQ zs).length<=6)&&(bQ zs).all λx=>eA H x A B)=true;rw[Rz,NA h6,Ua,R1];intro x hx;obtain⟨z,hz,rfl⟩:=RA.mp hx;unfold eA;rw[o4 (R z hz)];show(decide (z.1.1∈A)&&decide (z.1.2∈B))=true;rw[NA (g z hz).1,NA (g z hz).2];rfl
theorem wJ{H:Hp}{d:Addr}{zs:List ((Str×Str)×Addr)}{ks:List Nat}(h:H d=some (.lst (bQ zs)))(R:gv H zs)(g:tm ks zs):fW H (.ref d) (ks.map one)=true:=by
 unfold fW;rw[oa h R (λz hz=>?_) g.len,uB h,Ua]
 .have e1:(bQ zs).map (cA H)=zs.map λz=>z.1.1:=by rw[RN];refine R9 λz hz=>?_;show cA H (.ref z.2)=_;unfold cA;rw[o4 (R z hz)]
  show(!((bQ zs).any λx=>decide (gS H x∈(bQ zs).map (cA H)))&&decide (((bQ zs).map (cA H)).Nodup))=true;rw[e1,NA g.nd,Uf,T9,Sd];intro x hx w;obtain⟨z,hz,rfl⟩:=RA.mp hx;have w:=NE w;have e2:gS H (.ref z.2)=z.1.2:=by unfold gS;rw[o4 (R z hz)]
  rw[e2]at w;obtain⟨y,hy,e⟩:=RA.mp w;exact g.ap z hz y hy e.symm
 .obtain⟨⟨a,ha,e1⟩,b,hb,e2⟩:=g.kd z hz;exact⟨RA.mpr ⟨a,ha,e1.symm⟩,RA.mpr ⟨b,hb,e2.symm⟩⟩
theorem iP(a:Nat):(one a).length<=1000:=by show 1<=1000;decide
theorem IL{s:Str}(h:s∈sortsL):s.length<=1000:=(by decide:∀s∈sortsL,s.length<=1000) s h
theorem Ko{s:Str}(h:s∈aimsL):s.length<=1000:=(by decide:∀s∈aimsL,s.length<=1000) s h
theorem JZ{s:Str}(h:s∈iA):s.length<=1000:=(by decide:∀s∈iA,s.length<=1000) s h
theorem IT{H:Hp}{d:Addr}{us:List (aP×Addr)}{ks:List Nat}(h:H d=some (.lst (cF us)))(R:eM H us)(g:∀z∈us,kh ks z.1):fV H 2 (.ref d):=by
 refine la.n (la.lst h λx hx=>?_);obtain⟨z,hz,rfl⟩:=RA.mp hx;refine la.tup (R z hz) λy hy=>?_;obtain⟨c,_,e⟩:=(g z hz).kd;simp only[aP.vs,RB,RW,or_false]at hy
 rcases hy with rfl|rfl|rfl|rfl|rfl
 .exact la.flat (show z.1.kd.length<=1000 by rw[e];exact iP c) rfl
 .exact la.flat (IL (g z hz).so) rfl
 .exact la.flat (Ko (g z hz).ai) rfl
 .exact la.flat trivial rfl
 .exact la.flat trivial rfl
theorem AU{H:Hp}{d:Addr}{zs:List ((Str×Str)×Addr)}(h:H d=some (.lst (bQ zs)))(R:gv H zs)(g:∀z∈zs,z.1.1.length<=1000/\z.1.2.length<=1000):fV H 2 (.ref d):=by
 refine la.n (la.lst h λx hx=>?_);obtain⟨z,hz,rfl⟩:=RA.mp hx;refine la.tup (R z hz) λy hy=>?_;simp only[RB,RW,or_false]at hy
 rcases hy with rfl|rfl
 .exact la.flat (g z hz).1 rfl
 .exact la.flat (g z hz).2 rfl
theorem JD{H:Hp}{d:Addr}{ks:List Nat}(h:jp H d ks):fV H 1 (.ref d):=by refine la.n (la.lst h.at_ λx hx=>?_);obtain⟨c,_,rfl⟩:=RA.mp hx;exact la.flat (iP c) rfl
structure jq(K:Frag)(cB cG:Addr)(H:Hp)(g b kq:Addr)(wi hi:Int)(hs:List Int)(ks:List Nat)(us:List (aP×Addr))(ts es:List ((Str×Str)×Addr))(st:Str):Prop where
 gm:gw cG H g b (ks.map strV) (cF us) (bQ ts) (bQ es) st
 bd:cu K cB H b wi hi hs
 ltr:∀k∈ks,lG k
 k1:1<=ks.length
 k6:ks.length<=6
 knd:ks.Nodup
 rl:eM H us
 r12:us.length<=12
 rg:∀z∈us,kh ks z.1
 tt:gv H ts
 tg:tm ks ts
 et:gv H es
 e6:es.length<=6
 eg:∀z∈es,z.1.1∈iA/\∃b∈ks,z.1.2=one b
 sg:st∈iG
theorem jq.same{K:Frag}{cB cG:Addr}{H H':Hp}{g b kq:Addr}{wi hi:Int}{hs:List Int}{ks:List Nat}{us:List (aP×Addr)}{ts es:List ((Str×Str)×Addr)}{st:Str}(x:jq K cB cG H g b kq wi hi hs ks us ts es st)(s:ak H H'):jq K cB cG H' g b kq wi hi hs ks us ts es st:=
 ⟨x.gm.same s,x.bd.same s,x.ltr,x.k1,x.k6,x.knd,x.rl.same s,x.r12,x.rg,x.tt.same s,x.tg,x.et.same s,x.e6,x.eg,x.sg⟩
theorem G3{C:Addr}{sp:Sp}{t:TA}{σ:St}{H:Hp}{Q:VK}(h:t σ H λvs H1=>∀x dx,H1 x=none->H1 dx=none->dx≠x->sp (.ref x::vs) (upd (upd H1 dx (.own x)) x (.ins C dx [])) (λv H2=>v=.non/\Q (.ref x) H2) E0):ww C sp t σ H Q:=h
def vH(K:Frag)(cB cG:Addr):Sp:=λvs H Q _=>∃(a:Addr)(ns:List Int),vs=[.ref a]/\aY K H a (ns.map V.int)/\∀(g b kq:Addr)(wi hi:Int)(hs:List Int)(ks:List Nat)(us:List (aP×Addr))(ts es:List ((Str×Str)×Addr))(st:Str)(H':Hp),
 jq K cB cG H' g b kq wi hi hs ks us ts es st->hs.length<=2->(hs.length:Int)<wi*hi->ak H H'->Q (.ref g) H'
structure LGg(P:NP)(w:NT)(K:Frag)(mg:NH)(Ny:NZ)(cB cG:Addr):Prop extends LG1 P w K mg Ny where
 _law_board:dg P w K mg Ny "_law_board" ["_law_script"] 2 (re K)
 _law_kinds:dg P w K mg Ny "_law_kinds" ["_law_cell"] 1 rc
 _law_rule:dg P w K mg Ny "_law_rule" ["_law_cell","_law_kinds_here"] 1 vG
 _law_turns:dg P w K mg Ny "_law_turns" ["_law_cell","_law_kinds_here"] 1 ra
 Board:oX P w K mg Ny "Board" cB ["self","wide","high","holes"] 4 (pz K cB)
 Game:oX P w K mg Ny "Game" cG ["self","board","kinds","rules","turns","ends","stuck"] 6 (vI K cG)
theorem eM.add{H H':Hp}{us:List (aP×Addr)}{u:aP}{t:Addr}(h:eM H us)(s:ak H H')(ht:H' t=some (.tup u.vs)):eM H' (us++[(u,t)]):=λz hz=>by
 rcases RM.mp hz with w|w
 .exact s _ _ (h z w)
 .rw[RL.mp w];exact ht
theorem gv.add{H H':Hp}{zs:List ((Str×Str)×Addr)}{x y:Str}{t:Addr}(h:gv H zs)(s:ak H H')(ht:H' t=some (.tup [.str x,.str y])):gv H' (zs++[((x,y),t)]):=λz hz=>by
 rcases RM.mp hz with w|w
 .exact s _ _ (h z w)
 .rw[RL.mp w];exact ht
theorem eM.put{H:Hp}{us:List (aP×Addr)}{q:Addr}{xs ys:List V}(h:eM H us)(hq:H q=some (.lst xs)):eM (upd H q (.lst ys)) us:=λz hz=>by rw[av (λw=>by have:=h z hz;rw[w,hq]at this;cases this)];exact h z hz
theorem gv.put{H:Hp}{zs:List ((Str×Str)×Addr)}{q:Addr}{xs ys:List V}(h:gv H zs)(hq:H q=some (.lst xs)):gv (upd H q (.lst ys)) zs:=λz hz=>by rw[av (λw=>by have:=h z hz;rw[w,hq]at this;cases this)];exact h z hz
theorem Lx{C:Addr}{sp:Sp}{t:TA}{σ:St}{H:Hp}{D:dq}(h:ww C sp t σ H D.rt):cM (ww C sp t) D σ H:=h
def jG:Sp:=λvs H Q _=>∃c:Nat,vs=[.str (one c)]/\Sg c/\Q (bP c) H
def lJ(K:Frag)(cB cG:Addr):Sp:=λvs H Q _=>∃(g b:Addr)(wi hi s ax up:Int)(hs:List Int)(ks rs ts es:List V)(st:Str),vs=[.ref g,.int s,.int ax,.int up]/\gw cG H g b ks rs ts es st/\cu K cB H b wi hi hs/\Q (oI (Kx wi hi hs s ax up)) H
theorem wA{c:Nat}:c∈("abcdefghijklmnopqrstuvwxyz":Str).cps.toList<->lG c:=by
 have e:("abcdefghijklmnopqrstuvwxyz":Str).cps.toList=(List.range 26).map (97+ ·):=by decide+kernel
 rw[e,RA];unfold lG
 constructor
 .rintro⟨i,hi,rfl⟩;have:=RJ.mp hi;lia
 .intro h;exact⟨c - 97,RJ.mpr (by lia),by lia⟩
structure vi(row:Str)(hs:List Int):Prop extends RowS row where
 sg:∀c∈row.cps.toList,Sg c
 nh:∀s:Int,0<=s->s<row.length->¬s∈hs->¬row.cps.toList.getD s.toNat 0=35
theorem IW{wi hi:Int}{hs:List Int}{s ax up:Int}(w8:wi<=8)(h8:hi<=8)(w1:1<=wi)(s0:0<=s)(s1:s<wi*hi)(n0:¬(ax=0/\up=0)):∃n,ib wi hi hs s ax up n/\n<=8:=by
 have key:∀m:Nat,(∀j<m,oe wi hi hs s ax up (j+1))\/∃n,n<m/\ib wi hi hs s ax up n:=by
  intro m
  induction m with
  |zero=>exact .inl λj hj=>NG hj (Nat.not_lt_zero _)
  |succ m ih=>
   rcases ih with ih|⟨n,h1,h2⟩
   .by_cases h:oe wi hi hs s ax up (m+1)
    .refine .inl λj hj=>?_
     by_cases e:j=m
     .rw[e];exact h
     .exact ih j (by lia)
    .exact .inr ⟨m,by lia,ih,h⟩
   .exact .inr ⟨n,by lia,h2⟩
 rcases key 9 with h|⟨n,h1,h2⟩
 .have:=uu w8 h8 w1 s0 s1 n0 (h 8 (by lia));lia
 .exact⟨n,h2,by lia⟩
theorem mr{wi hi:Int}{hs:List Int}{s ax up:Int}{n j:Nat}(R:ib wi hi hs s ax up n)(hj:j<=n):(if oe wi hi hs s ax up (j+1)then some (lX wi s ax up (j+1))else none)=(rayL wi s ax up n)[j]? :=by
 unfold rayL;rw[RE]
 by_cases e:j<n
 .rw[ND (R.1 j e),Sb e];rfl
 .have:j=n:=by lia
  subst this;rw[NC R.2,R5 (by simp)];rfl
def n4(K:Frag)(cB cG:Addr):Sp:=λvs H Q _=>∃(g b r:Addr)(row:Str)(sq sd wi hi:Int)(hs:List Int)(u:aP)(ks rs ts es:List V)(st:Str),vs=[.ref g,.str row,.int sq,.ref r]/\gw cG H g b ks rs ts es st/\cu K cB H b wi hi hs/\cr K H r u.vs/\vi row hs/\(row.length:Int)=wi*hi/\0<=sq/\sq<wi*hi/\
 sdV row sq=.int sd/\(sd=0\/sd=1)/\¬(u.ax=0/\u.up=0)/\∀(l:List (Int×Int))(q:Addr)(H':Hp),fN wi hi hs row sq sd u l->H q=none->bA H H' q l->ak H H'->Q (.ref q) H'
structure CLb(P:NP)(w:NT)(K:Frag)(mg:NH)(Ny:NZ)(cB cG:Addr):Prop where
 _law_side:dg P w K mg Ny "_law_side" ["_law_sign"] 1 jG
 _law_step:dg P w K mg Ny "_law_step" ["_law_game_here","_law_square","_law_across","_law_up"] 1 (lJ K cB cG)
theorem vi.look{row:Str}{hs:List Int}(R:vi row hs){s:Int}(h0:0<=s)(h1:s<row.length)(hn:¬s∈hs):∃c,km row.cps.toList s=some c/\Sg c/\sdV row s=bP c/\(one c="."<->sdV row s=.non):=by
 obtain⟨a,b⟩:=R.toRowS.at h0 h1;refine⟨_,a,?_,rfl,?_⟩
 .obtain⟨j,_,e,_⟩:=jd a;exact R.sg _ (RT (by assumption))
 .have nh:=R.nh s h0 h1 hn;unfold sdV;generalize row.cps.toList.getD s.toNat 0=c at nh;unfold bP
  constructor
  .intro z;rw[ND (.inl (jV (b:=46) (z.trans (by decide+kernel))))]
  .intro z
   by_cases w:c=46\/c=35
   .rcases w with w|w
    .rw[w];decide+kernel
    .exact NG w nh
   .rw[NC w]at z;cases z
theorem sG{K:Frag}{σ:St}{H:Hp}{t:TA}{tb:TE}{c:Nat}{v:Int}(h:Av t σ H [.str (one c)])(hc:Sg c)(hb:Ev tb σ H (.int v)):Ev (fG K .Eq (fH jG t) tb) σ H (.bl (decide (bP c=.int v))):=λQ q=>h _ ⟨c,rfl,hc,hb _ (by rw[pC];exact q)⟩
noncomputable def nQ(row:Str)(ai:Str)(x:Int):List (Int×Int):=if sdV row x=.non/\¬ai="hit"then [(x, -1)]else []
noncomputable def qL(row:Str)(sd:Int)(ai:Str)(x:Int):List (Int×Int):=if sdV row x=.int (1 - sd)/\¬ai="go"then [(x,x)]else []
theorem AH{row:Str}{sd:Int}{ai:Str}{x:Int}{r:List Int}(hsd:sd=0\/sd=1):de row sd ai (x::r)=(nQ row ai x++qL row sd ai x)++(if sdV row x=.non then de row sd ai r else []):=by
 by_cases h:sdV row x=.non
 .have a2:qL row sd ai x=[]:=by unfold qL;rw[NC (λz=>by have:=z.1;rw[h]at this;cases this)]
  rw[ij,ND h,ND h,a2,RP];unfold nQ
  by_cases a:ai="hit"
  .rw[ND a,NC (λz=>z.2 a)];rfl
  .rw[NC a,ND ⟨h,a⟩];rfl
 .have a1:nQ row ai x=[]:=by unfold nQ;rw[NC (λz=>h z.1)]
  rw[ij,NC h,NC h,a1,List.nil_append,RP];unfold qL;have e:(¬sdV row x=.int sd/\¬ai="go")<->(sdV row x=.int (1 - sd)/\¬ai="go"):=by
   refine and_congr_left' ?_;have:∃v:Int,sdV row x=.int v/\(v=0\/v=1):=by
    unfold sdV bP at h ⊢;split
    .rename_i z;rw[ND z]at h;exact NG rfl h
    .refine⟨_,rfl,?_⟩;split
     .exact .inl rfl
     .exact .inr rfl
   obtain⟨v,e,hv⟩:=this;rw[e]
   constructor
   .intro z;have:¬v=sd:=λw=>z (by rw[w]);have:v=1 - sd:=by lia
    rw[this]
   .intro z w;have z:v=1 - sd:=by injection z
    have w:v=sd:=by injection w
    lia
  by_cases z:¬sdV row x=.int sd/\¬ai="go"
  .rw[ND z,ND (e.mp z)]
  .rw[NC z,NC (λw=>z (e.mpr w))]
theorem Ed(row:Str)(sd:Int)(ai:Str)(x:Int):(nQ row ai x).length<=1/\(qL row sd ai x).length<=1:=by
 unfold nQ qL
 constructor<;>(split<;>simp)
end L2
namespace L2
open PySem PySem.W PySem.Calls PySem.Spec PyProof.Rows
section
variable{prog:NP}{w:NT}{A:N1}{E:NI}{s:NN}
theorem pA{B:NZ}{L:Addr}{m:NH}{D:Addr}{ps:List (List Int×Addr)}{Q:NI}(F:Fr B L s.heap m)(hl:s.heap.IsList D (ps.map λz=>NY z.2).toArray)(T:Cw prog w s.heap L ps)(h64:ps.length<64)
  (q:∀(ps':List (List Int×Addr))(h':NZ)(p:Addr)(e:Nat),ps'.Perm ps->ps'.Pairwise (λx y=>dz x.1 y.1=true)->Fr B L h' m->(∀b o,b≠L->s.heap.get? b=some o->h'.get? b=some o)->s.heap.objs.size<=p->h'.get? p=some (seqObj "list" (ps'.map λz=>NY z.2).toArray e)->Q (.ref p) {s with heap:=h'}):
  NS (NX prog w) A (call (.builtin "sorted") [.ref D]) Q E s:=by
 refine P8 kind_sorted plain_sorted entry_sorted (args_sorted1 _) ?_;unfold OL.«sorted»;refine NK (m:=checkCount "sorted" 1 1 _) (NL ?_);refine NK (collect_list hl ?_ (by rw[Rz,NR];lia));have k1:∀b o,s.heap.get? b=some o->((s.heap.push (seqObj "list" #[] 0)).update s.heap.objs.size (On (· ++(ps.map λz=>NY z.2).toArray))).get? b=some o:=λb o e=>by rw[Heap.get?_update_ne _ _ _ _ (Tk (NQ e))];exact NO _ e
 have hsz:s.heap.objs.size<=((s.heap.push (seqObj "list" #[] 0)).update s.heap.objs.size (On (· ++(ps.map λz=>NY z.2).toArray))).objs.size:=by rw[Heap.size_update,size_push'];exact Tp _
 generalize(s.heap.push (seqObj "list" #[] 0)).update s.heap.objs.size (On (· ++(ps.map λz=>NY z.2).toArray))=h1 at k1 hsz;refine NK (QV ?_ (by rw[Rz,NR];lia));have gL:(h1.push (seqObj "list" (ps.map λz=>NY z.2).toArray 0)).get? h1.objs.size=some (seqObj "list" (ps.map λz=>NY z.2).toArray 0):=NW _ rfl;refine NK (N4 (Oe slot_list_sort ⟨_,gL,rfl⟩ entry_list_sort (Oq (on (s:={s with heap:=h1}) (Q:=λ_ s'=>NS (NX prog w) A.in1 (ret (.ref h1.objs.size)) (λr s''=>∃v,r=.done (.ret v)/\Q v s'') E s') (F.kept k1) (T.keep λb o _ e=>k1 b o e) h64 λps' h' c hp' pw F' k' ga=>?_) (λr s' z=>⟨_,z.1,z.2⟩) λ_ _ z=>z) (args_list_sort _)));exact NL ⟨_,rfl,q ps' h' _ c hp' pw F' (λb o n e=>k' b o n (k1 b o e)) hsz ga⟩
end
section
variable{X:Cx}
theorem kK:∀{ps:List (List Int×Addr)}{us:List Value},aZ (ps.map λz=>V.ref z.2) us->us=ps.map λz=>NY z.2
 | [],_,.nil=>rfl
 |p::ps,_,.cons r t=>by cases r;rw[kK t];rfl
def tP(K:Frag)(xs:List V)(H:Hp)(Q:VK):Prop:= ∃(d:Addr)(ps:List (List Int×Addr)),xs=[.ref d]/\aY K H d (ps.map λz=>V.ref z.2)/\(∀p∈ps,p.1≠[]/\H p.2=some (.tup (p.1.map V.int)))/\(ps.map (·.1)).Nodup/\ps.length<64/\
 ∀(ps':List (List Int×Addr))(q:Addr),ps'.Perm ps->ps'.Pairwise (λx y=>dz x.1 y.1=true)->H q=none->Q (.ref q) (upd H q (.lst (ps'.map λz=>V.ref z.2)))
theorem sS:bn X (.builtin "sorted") (tP X.K):=by intro gV s σ H xs us Q I r h;obtain⟨d,ps,rfl,hd,hp,nd,h64,q⟩:=h;obtain⟨u,rfl,rx⟩:=dL r;cases rx;obtain⟨its,r',pl,hz⟩:=I.list hd;have e:=kK r';subst e;obtain⟨m,F⟩:=I.fr;refine pA F pl.isList (Ap I hp nd) h64 λps' h' p e a1 a2 F' kp hle ga=>?_;exact oY I F F' kp hle ga (by rw[a1.length_eq];exact h64) (q ps' p a1 a2)
theorem Jy(K:Frag)(hK:X.K=K:=by rfl):bn X (.builtin "sorted") (tP K):=by subst hK;exact sS
end
theorem j3:∀{k k':List Int},k.map V.int=k'.map V.int->k=k'
 | [],[],_=>rfl
 | [],_::_,h=>by cases h
 |_::_,[],h=>by cases h
 |x::k,y::k',h=>by injection h with h1 h2;injection h1 with h1;rw[h1,j3 h2]
theorem Km{k k':List Int}:((List.range (min (k.map V.int).length (k'.map V.int).length)).all (λi=>eqV (.int (k.getD i 0)) (.int (k'.getD i 0)))&&(k.map V.int).length == (k'.map V.int).length)=decide (k=k'):=by
 rw[Rz,Rz]
 by_cases e:k=k'
 .subst e;rw[NA rfl,beq_self_eq_true,Uf,R1];intro i _;exact BQ rfl
 .rw[NB e]
  by_cases hl:k.length=k'.length
  .rw[hl,beq_self_eq_true,Uf];cases hh:(List.range (min k'.length k'.length)).all λi=>eqV (.int (k.getD i 0)) (.int (k'.getD i 0))with
   |false=>rfl
   |true=>
    refine NG (List.ext_getElem hl λi h1 h2=>?_) e;have:=R1.mp hh i (RJ.mpr (by lia));have:=NE (show decide (k.getD i 0=k'.getD i 0)=true from this);simpa[RH,h1,h2]using this
  .rw[show(k.length == k'.length)=false by simpa using hl,Ue]
theorem wn{K:Frag}{H:Hp}{n:Nat}{a b:Addr}{k k':List Int}(ha:H a=some (.tup (k.map V.int)))(hb:H b=some (.tup (k'.map V.int))):wC K H (n+1) (.ref a) (.ref b) (decide (k=k')):=by
 by_cases e:a=b
 .subst e;rw[ha]at hb;have hb:k.map V.int=k'.map V.int:=by injection hb with z;injection z
  have:k=k':=j3 hb;rw[NA this];exact .same
 .rw[<-Km];refine .tup (cr.of ha) (cr.of hb) e λi x y hx hy=>?_;have h1:i<k.length:=by have:=(RO.mp hx).1;rwa[Rz]at this
  have h2:i<k'.length:=by have:=(RO.mp hy).1;rwa[Rz]at this
  rw[RE,RC h1]at hx;rw[RE,RC h2]at hy;cases hx;cases hy;have z:=wC.flat (K:=K) (H:=H) (n:=n) (x:=.int k[i]) (y:=.int k'[i]) rfl rfl;rw[RH,RH,RC h1,RC h2];exact z
section
variable{X:Cx}{a b:N5}{ta tb:TE}{pos:Px}
def MT(K:Frag)(op:O8)(x y:V)(H:Hp)(Q:VK):Prop:=match op,x,y with
 | .NotIn,.ref c,.ref d=>∃(k:List Int)(ps:List (List Int×Addr)),H c=some (.tup (k.map V.int))/\aY K H d (ps.map λz=>V.ref z.2)/\(∀p∈ps,H p.2=some (.tup (p.1.map V.int)))/\Q (.bl (!decide (k∈ps.map (·.1)))) H
 |_,_,_=>False
theorem Jj(op:O8)(hu:X.A.units+20<OH):iD X (Ol op) (MT X.K op):=by
 intro gV s σ H x y v u Q I rx ry h;unfold MT at h;split at h
 .rename_i c d;obtain⟨k,ps,hc,hd,hp,q⟩:=h;cases rx;cases ry;obtain⟨its,r',pl,hz⟩:=I.list hd;have e:=kK r';subst e;refine SeqAt.notIn_listAt (λv=>ps.any λp=>(match v with| .ref a=>a == p.2|_=>false)&&decide (p.1=k)) pl.isList (λy hy=>?_) (fin_bl I q ?_)
  .have hy:y∈ps.map λz=>NY z.2:=by simpa using hy
   obtain⟨p,hpp,rfl⟩:=RA.mp hy;have z:=mS I (wn (K:=X.K) (n:=0) (hp p hpp) hc) X.A.in1 (by show X.A.units+1+(0+1)<OH;lia) (u:=.ref p.2) (v:=.ref c) rfl rfl;have e:(ps.any λp'=>(p.2 == p'.2)&&decide (p'.1=k))=decide (p.1=k):=by
    by_cases h:p.1=k
    .rw[NA h,R6];exact⟨p,hpp,by rw[beq_self_eq_true,NA h];rfl⟩
    .rw[NB h,Sd];intro p' hp' w;rw[T6]at w;have e1:p.2=p'.2:=by simpa using w.1
     have e2:=NE w.2;have a1:=hp p hpp;rw[e1]at a1;have z1:=wn (K:=X.K) (n:=0) a1 (hp p' hp');have:p.1.map V.int=p'.1.map V.int:=by have a2:=hp p' hp';rw[a1]at a2;injection a2 with a2;injection a2
     exact h ((j3 this).trans e2)
   show Q9 X.A.in1 s (.ref p.2) (.ref c) (ps.any λp'=>(p.2 == p'.2)&&decide (p'.1=k));rw[e];exact z
  .congr 1;have:((ps.map λz=>NY z.2).toArray.any λv=>ps.any λp=>(match v with| .ref a=>a == p.2|_=>false)&&decide (p.1=k))=decide (k∈ps.map (·.1)):=by
    rw[List.any_toArray,SD]
    by_cases h:k∈ps.map (·.1)
    .rw[NA h,R6];obtain⟨p,hpp,e⟩:=RA.mp h;refine⟨p,hpp,?_⟩;show(ps.any λp'=>(p.2 == p'.2)&&decide (p'.1=k))=true;rw[R6];exact⟨p,hpp,by rw[beq_self_eq_true,NA e];rfl⟩
    .rw[NB h,Sd];intro p hpp w;have w:(ps.any λp'=>(p.2 == p'.2)&&decide (p'.1=k))=true:=w;obtain⟨p',hp',w⟩:=R6.mp w;rw[T6]at w;exact h (RA.mpr ⟨p',hp',NE w.2⟩)
   rw[this]
 .exact h.elim
def Ka(K:Frag)(op:O8)(ta tb:TE):TE:=λσ H Q=>ta σ H λx H1=>tb σ H1 λy H2=>MT K op x y H2 Q
theorem v5(K:Frag){op:O8}(hu:X.A.units+20<OH)(ha:PE X a ta)(hb:PE X b tb)(hm:behindInMarks op b=false:=by first|exact mI _|with_unfolding_all rfl)(hK:X.K=K:=by rfl):PT X (.Compare a [op] [b] pos) (ia (Ka K op ta tb)):=by subst hK;exact CY (Jj op hu) ha hb hm
end
end L2
namespace L2
open PySem PySem.Spec PyProof.Rows
theorem jW{α:Type}[DecidableEq α]:∀{m C:List α},m.Nodup->(∀x∈m,x∈C)->m.length<=C.length
 | [],_,_,_=>Tl _
 |x::m,C,nd,h=>by obtain⟨n1,n2⟩:=Si.mp nd;have hx:=h x RK;have z:=jW (C:=C.erase x) n2 (λy hy=>(SY (a:=y) (b:=x) (λe=>n1 (by rw[<-e];exact hy))).mpr (h y (RF _ hy)));rw[SX hx]at z;have:0<C.length:=SF hx;rw[RR];lia
def prG(row:Str)(g:Int):Int×Int:=(g,if sdV row g=.non then -1 else g)
theorem lK(row:Str)(sd:Int)(ai:Str):∀path:List Int,(de row sd ai path).Sublist (path.map (prG row))
 | []=>List.Sublist.refl _
 |g::r=>by
  rw[ij,RY];have ih:=lK row sd ai r
  by_cases h:sdV row g=.non
  .rw[ND h]
   by_cases a:ai="hit"
   .rw[ND a];exact ih.cons _
   .rw[NC a];have:prG row g=(g, -1):=by unfold prG;rw[ND h]
    rw[this];exact ih.cons₂ _
  .rw[NC h];have:prG row g=(g,g):=by unfold prG;rw[NC h]
   rw[this];split
   .exact(List.nil_sublist _).cons₂ _
   .exact List.nil_sublist _
theorem IV{wi hi:Int}{hs:List Int}{s ax up:Int}{n:Nat}(w1:1<=wi)(n0:¬(ax=0/\up=0))(R:ib wi hi hs s ax up n):(rayL wi s ax up n).Nodup:=by
 unfold rayL;rw[R4,RX];refine(R4.mp SH).imp_of_mem ?_;intro i j hi hj hij e;obtain⟨a1,a2,_⟩:=R.1 i (RJ.mp hi);obtain⟨b1,b2,_⟩:=R.1 j (RJ.mp hj);obtain⟨x1,x2⟩:=pe (up:=up) w1 a1 a2;obtain⟨y1,y2⟩:=pe (up:=up) w1 b1 b2;rw[e]at x1 x2;have e1:((i+1:Nat):Int)*ax=((j+1:Nat):Int)*ax:=by omega
 have e2:((i+1:Nat):Int)*up=((j+1:Nat):Int)*up:=by omega
 have key:∀d:Int,d≠0->((i+1:Nat):Int)*d=((j+1:Nat):Int)*d->False:=λd hd z=>by have:=Int.eq_of_mul_eq_mul_right hd z;lia
 by_cases z:ax=0
 .exact key up (λw=>n0 ⟨z,w⟩) e2
 .exact key ax z e1
theorem uR{u:aP}{sd:Int}(n0:¬(u.ax=0/\u.up=0)):¬(u.ax=0/\u.dy sd=0):=λz=>n0 ⟨z.1,by have:=z.2;unfold aP.dy at this;split at this<;>lia⟩
theorem Ju(row:Str){path:List Int}(h:path.Nodup):(path.map (prG row)).Nodup:=by rw[R4,RX];refine(R4.mp h).imp λz e=>z ?_;exact congrArg Prod.fst e
theorem fN.nd{wi hi:Int}{hs:List Int}{row:Str}{sq sd:Int}{u:aP}{l:List (Int×Int)}(w1:1<=wi)(n0:¬(u.ax=0/\u.up=0))(h:fN wi hi hs row sq sd u l):l.Nodup:=by
 obtain⟨n,ry,_,rfl⟩:=h;have rn:=IV w1 (uR n0) ry;unfold qG;split
 .have:=kT row sd (rayL wi sq u.ax (u.dy sd) n);generalize jumpL row sd (rayL wi sq u.ax (u.dy sd) n)=l at this
  match l,this with
  | [],_=>exact Sx
  | [_],_=>simp
  |_::_::_,h=>simp at h
 .refine(lK row sd u.ai _).nodup (Ju row ?_);split
  .exact(SO _ _).nodup rn
  .exact rn
def Ht:List (Int×Int):=[(-1, -1),(-1,0),(-1,1),(0, -1),(0,1),(1, -1),(1,0),(1,1)]
theorem D0{x y:Int}(x1: -1<=x)(x2:x<=1)(y1: -1<=y)(y2:y<=1)(n0:¬(x=0/\y=0)):(x,y)∈Ht:=by
 have hx:x= -1\/x=0\/x=1:=by lia
 have hy:y= -1\/y=0\/y=1:=by lia
 rcases hx with rfl|rfl|rfl<;>rcases hy with rfl|rfl|rfl<;>first|decide|exact NG ⟨rfl,rfl⟩ n0
theorem Hu{wi hi:Int}{hs:List Int}{row:Str}{sq sd:Int}{ks:List Nat}(w8:wi<=8)(h8:hi<=8)(w1:1<=wi)(s0:0<=sq)(s1:sq<wi*hi):
  ∀{us:List (aP×Addr)}{l:List (Int×Int)},aX wi hi hs row sq sd us l->(∀z∈us,kh ks z.1)->∃(D C:List (Int×Int))(a:Nat),D.Nodup/\(∀e∈D,e∈Ht)/\D.length+a<=us.length/\C.length<=7*D.length+a/\(∀e∈D,∃n,ib wi hi hs sq e.1 e.2 n/\∀g∈rayL wi sq e.1 e.2 n,prG row g∈C)/\∀x∈l,x∈C
 |_,_,.nil,_=>⟨[],[],0,Sx,λ_ z=>(nomatch z),Tj _,Tj _,λ_ z=>(nomatch z),λ_ z=>(nomatch z)⟩
 |_,_,@aX.cons _ _ _ _ _ _ z us l r hl hr,hg=>by
  obtain⟨D,C,a,c1,c2,c3,c4,c5,c6⟩:=Hu w8 h8 w1 s0 s1 hr λy hy=>hg y (RF _ hy);have g:=hg z RK;obtain⟨n,ry,n8,rfl⟩:=hl
  by_cases hs':z.1.so="slide"
  .have e:qG row sd z.1.so z.1.ai (rayL wi sq z.1.ax (z.1.dy sd) n)=de row sd z.1.ai (rayL wi sq z.1.ax (z.1.dy sd) n):=by unfold qG;rw[hs',NC (by decide),NC (by decide)]
   rw[e];have sub:=λx hx=>(lK row sd z.1.ai (rayL wi sq z.1.ax (z.1.dy sd) n)).subset (a:=x) hx
   by_cases hD:(z.1.ax,z.1.dy sd)∈D
   .refine⟨D,C,a,c1,c2,by rw[RR];lia,c4,c5,λx hx=>?_⟩
    rcases RM.mp hx with hx|hx
    .obtain⟨m,rm,hm⟩:=c5 _ hD;have:=rm.uniq ry λ_=>Iff.rfl;subst this;obtain⟨gg,g1,rfl⟩:=RA.mp (sub x hx);exact hm gg g1
    .exact c6 x hx
   .have n7:n<=7:=by
     rcases TL n with h|h
     .lia
     .have:=uu w8 h8 w1 s0 s1 (uR g.n0) (ry.1 (n - 1) (by lia));lia
    have ax:=g.ax;have up:=g.up;rw[hs',NC (by decide)]at ax up;have dyb: -1<=z.1.dy sd/\z.1.dy sd<=1:=by unfold aP.dy;split<;>lia
    refine⟨(z.1.ax,z.1.dy sd)::D,(rayL wi sq z.1.ax (z.1.dy sd) n).map (prG row)++C,a,Si.mpr ⟨hD,c1⟩,λe he=>?_,by rw[RR,RR];lia,by rw[RI,Rz,hG,RR];lia,λe he=>?_,λx hx=>?_⟩
    .rcases RB.mp he with rfl|he
     .exact D0 ax.1 ax.2 dyb.1 dyb.2 (uR g.n0)
     .exact c2 e he
    .rcases RB.mp he with rfl|he
     .exact⟨n,ry,λgg hgg=>Sc _ (RA.mpr ⟨gg,hgg,rfl⟩)⟩
     .obtain⟨m,rm,hm⟩:=c5 e he;exact⟨m,rm,λgg hgg=>RS _ (hm gg hgg)⟩
    .rcases RM.mp hx with hx|hx
     .exact Sc _ (sub x hx)
     .exact RS _ (c6 x hx)
  .have l1:(qG row sd z.1.so z.1.ai (rayL wi sq z.1.ax (z.1.dy sd) n)).length<=1:=by
    have so:=g.so;simp only[sortsL,RB,RW,or_false]at so;unfold qG
    rcases so with e|e|e
    .rw[e,NC (by decide),ND rfl];refine Tn (kE ..) ?_;rw[RV];lia
    .exact NG e hs'
    .rw[e,ND rfl];exact kT ..
   refine⟨D,qG row sd z.1.so z.1.ai (rayL wi sq z.1.ax (z.1.dy sd) n)++C,a+1,c1,c2,by rw[RR];lia,by rw[RI];lia,λe he=>?_,λx hx=>?_⟩
   .obtain⟨m,rm,hm⟩:=c5 e he;exact⟨m,rm,λgg hgg=>RS _ (hm gg hgg)⟩
   .rcases RM.mp hx with hx|hx
    .exact Sc _ hx
    .exact RS _ (c6 x hx)
theorem Ml{wi hi:Int}{hs:List Int}{row:Str}{sq sd:Int}{ks:List Nat}(w8:wi<=8)(h8:hi<=8)(w1:1<=wi)(s0:0<=sq)(s1:sq<wi*hi){us:List (aP×Addr)}(h12:us.length<=12)(hg:∀z∈us,kh ks z.1){l:List (Int×Int)}(h:aX wi hi hs row sq sd us l)(m:List (Int×Int))(nd:m.Nodup)(hm:∀x∈m,x∈l):m.length<64:=by obtain⟨D,C,a,c1,c2,c3,c4,_,c6⟩:=Hu w8 h8 w1 s0 s1 h hg;have d8:D.length<=8:=jW c1 c2;have:=jW nd λx hx=>c6 x (hm x hx);lia
def l5(K:Frag)(cB cG:Addr):Sp:=λvs H Q _=>∃(g b:Addr)(row kd:Str)(sq sd wi hi:Int)(hs:List Int)(ks ts es:List V)(st:Str)(us:List (aP×Addr)),vs=[.ref g,.str row,.int sq]/\gw cG H g b ks (cF us) ts es st/\cu K cB H b wi hi hs/\eM H us/\us.length<=12/\(∀z∈us,¬(z.1.ax=0/\z.1.up=0))/\
 vi row hs/\(row.length:Int)=wi*hi/\0<=sq/\sq<wi*hi/\sdV row sq=.int sd/\(sd=0\/sd=1)/\jm (row.cps.toList.getD sq.toNat 0)=.str kd/\(∀l,aX wi hi hs row sq sd (ofKind us kd) l->∀m:List (Int×Int),m.Nodup->(∀x∈m,x∈l)->m.length<64)/\
 ∀(l l':List (Int×Int))(q:Addr)(H':Hp),aX wi hi hs row sq sd (ofKind us kd) l->m7 l l'->H q=none->bA H H' q l'->ak H H'->Q (.ref q) H'
structure CLs(P:NP)(w:NT)(K:Frag)(mg:NH)(Ny:NZ)(cB cG:Addr):Prop where
 _law_by_rule:dg P w K mg Ny "_law_by_rule" ["_law_game_here","_law_row_here","_law_square","_law_rule_here"] 2 (n4 K cB cG)
noncomputable def Du(ps2:List (List Int×Addr))(ks:List (List Int))(v:V):Bool:= !(ps2.any λz=>decide (V.ref z.2=v/\z.1∈ks))
theorem vX{H:Hp}{ps2:List (List Int×Addr)}{ks:List (List Int)}(h:∀p∈ps2,H p.2=some (.tup (p.1.map V.int))){z:List Int×Addr}(hz:z∈ps2):Du ps2 ks (.ref z.2)= !decide (z.1∈ks):=by
 unfold Du;congr 1
 by_cases e:z.1∈ks
 .rw[NA e,R6];exact⟨z,hz,NA ⟨rfl,e⟩⟩
 .rw[NB e,Sd];intro y hy w;obtain⟨e1,e2⟩:=NE w;have e1:y.2=z.2:=by injection e1
  have a:=h y hy;rw[e1,h z hz]at a;injection a with a;injection a with a;rw[<-j3 a]at e2;exact e e2
theorem rR{H:Hp}{ps2:List (List Int×Addr)}{ks:List (List Int)}(h:∀p∈ps2,H p.2=some (.tup (p.1.map V.int))):(ps2.map λz=>V.ref z.2).filter (Du ps2 ks)=(ps2.filter λz=> !decide (z.1∈ks)).map λz=>V.ref z.2:=by rw[Su];congr 1;refine S3 λz hz=>?_;exact vX h hz
theorem sy{ps ps2:List (List Int×Addr)}{m l2:List (Int×Int)}(h1:ps.map (·.1)=m.map pk)(h2:ps2.map (·.1)=l2.map pk):(ps2.filter λz=> !decide (z.1∈ps.map (·.1))).map (·.1)=(l2.filter λx=> !decide (x∈m)).map pk:=by
 have e1:(ps2.filter λz=> !decide (z.1∈ps.map (·.1))).map (·.1)=(ps2.map (·.1)).filter λk=> !decide (k∈ps.map (·.1)):=by rw[Su];rfl
 rw[e1,h2,h1,Su];congr 1;refine S3 λx _=>?_;show(!decide (pk x∈m.map pk))= !decide (x∈m);congr 1
 by_cases h:x∈m
 .rw[NA h,NA (RA.mpr ⟨x,h,rfl⟩)]
 .rw[NB h,NB λw=>?_];obtain⟨y,hy,e⟩:=RA.mp w;exact h (pT e▸hy)
theorem JJ{K:Frag}{ta tb:TE}{σ:St}{H:Hp}{c d:Addr}{k:List Int}{ps:List (List Int×Addr)}(ha:Ev ta σ H (.ref c))(hb:Ev tb σ H (.ref d))(hc:H c=some (.tup (k.map V.int)))(hd:aY K H d (ps.map λz=>V.ref z.2))(hp:∀p∈ps,H p.2=some (.tup (p.1.map V.int))):Tv (ia (Ka K .NotIn ta tb)) σ H (!decide (k∈ps.map (·.1))):=λR q=>ha _ (hb _ ⟨k,ps,hc,hd,hp,q⟩)
theorem Bb{m l l2:List (Int×Int)}(h:∀x,x∈m<->x∈l)(x:Int×Int):x∈m++(l2.filter λx=> !decide (x∈m))<->x∈l++l2:=by
 rw[RM,RM,R0,<-h x]
 constructor
 .rintro(z|⟨z,_⟩)
  .exact .inl z
  .exact .inr z
 .rintro(z|z)
  .exact .inl z
  .by_cases w:x∈m
   .exact .inl w
   .exact .inr ⟨z,by rw[NB w];rfl⟩
theorem Dw{m l2:List (Int×Int)}(h:m.Nodup)(h2:l2.Nodup):(m++(l2.filter λx=> !decide (x∈m))).Nodup:=by rw[Sv];refine⟨h,List.filter_sublist.nodup h2,λa ha b hb e=>?_⟩;have:=(R0.mp hb).2;rw[<-e,NA ha]at this;cases this
theorem m7.of{l m l':List (Int×Int)}(h:∀x,x∈m<->x∈l){ps ps':List (List Int×Addr)}(e:ps.map (·.1)=m.map pk)(pm:ps'.Perm ps)(pw:ps'.Pairwise λx y=>dz x.1 y.1=true)(e':ps'.map (·.1)=l'.map pk):m7 l l':=by
 have mem:∀k,k∈ps'.map (·.1)<->k∈ps.map (·.1):=λk=>(pm.map _).mem_iff;refine⟨λx=>?_,?_⟩
 .rw[<-h x];have z:=mem (pk x);rw[e,e']at z;have inj:∀l:List (Int×Int),pk x∈l.map pk<->x∈l:=λl=>⟨λw=>by
   obtain⟨y,hy,ey⟩:=RA.mp w;exact pT ey▸hy,λw=>RA.mpr ⟨x,w,rfl⟩⟩
  rw[inj,inj]at z;exact z
 .have z:(ps'.map (·.1)).Pairwise λx y=>dz x y=true:=RX.mpr pw;rw[e']at z;exact RX.mp z
theorem L6{c:Nat}{kd:Str}(h:jm c=.str kd):kd=one (lo1 c):=by
 unfold jm at h;split at h
 .cases h
 .injection h with h;exact h.symm
theorem mG{us:List (aP×Addr)}{kd:Str}{z:aP×Addr}:ofKind (us++[z]) kd=ofKind us kd++if z.1.kd=kd then [z]else []:=by
 unfold ofKind;rw[SV];congr 1
 by_cases h:z.1.kd=kd
 .rw[ND h,Sr,ND (NA h)];rfl
 .rw[NC h,Sr,NC (by rw[NB h];decide)];rfl
theorem Fl.keepS{K:Frag}{H H':Hp}{p:Addr}{f:Str}{x:V}(h:Fl K H p f x)(s:ak H H'):Fl K H' p f x:=by obtain⟨C,dx,fs,a,r⟩:=h;exact⟨C,dx,fs,s _ _ a,r⟩
theorem qz{K:Frag}{sp:Sp}{t:TA}{vs:List V}{g:TG}{tt:TT}{te:TE}{src:List (Option Nat)}{σ:St}{H:Hp}{Q:VK}(h:Av t σ H vs)(q:sp vs H (λx H2=>∃a,x=.ref a/\(∃xs,aY K H2 a xs)/\eG g tt te src σ Q (Ee K a) H2) E0):tComp (oE K (fH sp t)) g tt te src σ H Q:=h _ q
theorem C4{K:Frag}{te:TE}{σ:St}{H:Hp}{Q:VK}{d:Addr}{ps:List (List Int×Addr)}(h:Ev te σ H (.ref d))(hd:aY K H d (ps.map λz=>V.ref z.2))(hp:∀p∈ps,p.1≠[]/\H p.2=some (.tup (p.1.map V.int)))(nd:(ps.map (·.1)).Nodup)(h64:ps.length<64)
  (q:∀(ps':List (List Int×Addr))(q:Addr),ps'.Perm ps->ps'.Pairwise (λx y=>dz x.1 y.1=true)->H q=none->Q (.ref q) (upd H q (.lst (ps'.map λz=>V.ref z.2)))):cB (tP K) (bx te df) σ H Q:=h _ ⟨d,ps,rfl,hd,hp,nd,h64,q⟩
abbrev kRefs(ps:List (List Int×Addr)):List V:=ps.map λz=>V.ref z.2
def Cr(H:Hp)(ps:List (List Int×Addr)):Prop:= ∀p∈ps,H p.2=some (.tup (p.1.map V.int))
def qX:Sp:=λvs H Q _=>∃n:Int,vs=[.int n]/\Q (.bl true) H
section
variable{K:Frag}{σ:St}{H:Hp}{ta tb te:TE}
theorem JV{T:BT}{a:Addr}{xs:List V}(h:Ev te σ H (.ref a))(ha:H a=some (.tup xs)):Ev (J9 T te) σ H (.bl (dF .tuple T)):=λQ q=>h _ (DG ha q)
theorem B5{op:O8}{R:Bool->Hp->Prop}(h:ta σ H λx H1=>tb σ H1 λy H2=>fT K op x y H2 (cL R)):ia (fG K op ta tb) σ H R:=h
end
theorem DX{K:Frag}{H:Hp}{n:Nat}{a b:Addr}(ha:H a=some (.lst []))(hb:H b=some (.lst [])):x6 K H (n+1) (.ref a) (.ref b) true:=by have z:=x6.lst (n:=n) (es:=λ_=>true) (aY.of (K:=K) ha) (aY.of hb) rfl (λi x y hx=>by simp at hx);exact z
theorem n5{c:Nat}{v:Int}(h:bP c=.int v):jm c=.str (one (lo1 c))/\(v=0\/v=1):=by
 unfold bP at h;unfold jm;split at h
 .cases h
 .rename_i z;rw[NC z];injection h with h;refine⟨rfl,?_⟩;rw[<-h];split
  .exact .inl rfl
  .exact .inr rfl
theorem Cb{sp:Sp}{t:TA}{σ:St}{H:Hp}{R:Bool->Hp->Prop}{vs:List V}(h:Av t σ H vs)(q:sp vs H (cL λc H1=>R (!c) H1) E0):CZ (ia (fH sp t)) σ H R:=h _ q
structure Cp(wi hi:Int)(hs:List Int)(ks:List Nat)(z:Str):Prop where
 len:z.length=(wi*hi).toNat
 at_:∀(s c:Nat),z.cps.toList[s]? =some c->lu ks c (if(s:Int)∈hs then 35 else 46)=true
theorem iq{ks:List Nat}{c:Nat}{hs:List Int}{s:Int}(h:lu ks c (if s∈hs then 35 else 46)=true):(s∈hs/\c=35)\/(¬s∈hs/\(c=46\/c∈ks\/c∈ks.map (· - 32))):=by
 unfold lu at h
 by_cases m:s∈hs
 .rw[ND m,ND rfl]at h;exact .inl ⟨m,NE h⟩
 .rw[NC m,NC (by decide)]at h;exact .inr ⟨m,NE h⟩
theorem wv{ks:List Nat}{c:Nat}(hl:∀k∈ks,lG k)(h:c=46\/c∈ks\/c∈ks.map (· - 32)):Sg c/\c≠35:=by
 unfold Sg
 rcases h with h|h|h
 .lia
 .have:=hl c h;unfold lG at this;lia
 .obtain⟨k,hk,rfl⟩:=RA.mp h;have:=hl k hk;unfold lG at this;lia
theorem Cp.g{wi hi:Int}{hs:List Int}{ks:List Nat}{z:Str}(R:Cp wi hi hs ks z)(hl:∀k∈ks,lG k)(m:wi*hi<=64):vi z hs:=by
 have sg:∀c∈z.cps.toList,Sg c:=λc hc=>by
  obtain⟨s,hs'⟩:=SK hc
  rcases iq (R.at_ s c hs')with⟨_,h⟩|⟨_,h⟩
  .exact .inr (.inl h)
  .exact(wv hl h).1
 refine⟨⟨by rw[R.len];lia,λc hc=>(sg c hc).lt⟩,sg,λs s0 s1 hn=>?_⟩;have hlt:s.toNat<z.cps.toList.length:=by have:z.length=z.cps.toList.length:=rfl;lia
 have e:z.cps.toList[s.toNat]? =some (z.cps.toList.getD s.toNat 0):=by rw[RH,RC hlt];rfl
 have:=R.at_ _ _ e;rw[show((s.toNat:Nat):Int)=s by lia]at this
 rcases iq this with⟨h,_⟩|⟨_,h⟩
 .exact NG h hn
 .exact(wv hl h).2
theorem gM{te:TE}{D:dq}{σ:St}{H:Hp}(h:te σ H D.rt):cM te D σ H:=h
theorem qS{K:Frag}{te:TE}{src:List (Option Nat)}{σ rest:St}{H:Hp}{Q:VK}{d:Addr}{xs:List V}(hx:H d=some (.lst xs))(hz:xs.length<=sizeLine)(hs:fO src σ=none::rest)(R:Nat->Hp->V->Prop)(hR:∀i H H' v,R i H v->ak H H'->R i H' v)
  (he:∀(i:Nat) x H',xs[i]? =some x->ak H H'->∀Q:VK,(∀v H2,R i H2 v->ak H' H2->Q v H2)->te (some x::rest) H' Q)
  (q:∀d' H' ys,ak H H'->H' d'=none->ys.length=xs.length->(∀i y,ys[i]? =some y->R i H' y)->Q (.ref d') (upd H' d' (.lst ys))):eG (gName 0) lT te src σ Q (Ee K d) H:=by
 refine mW xs.length (λi ys σ' H'=>ak H H'/\(∃v,σ'=v::rest)/\ys.length=i/\∀j y,ys[j]? =some y->R j H' y) hz (λi ys σ H h=>Tu h.2.2.1)
  (λi ys σ H' h hi=>⟨xs,xs[i],aY.of (h.1 _ _ hx),RC hi⟩) (λys σ H' h=>⟨xs,aY.of (h.1 _ _ hx),Tj _⟩) ⟨ak.refl H,⟨none,hs⟩,rfl,λj y e=>by simp at e⟩ ?_ ?_
 .rintro i ys _ H1 x H2 hi ⟨s1,⟨v0,rfl⟩,hl,hy⟩ ⟨rfl,hyy⟩ Kt Kf ht hf;have ex:=hyy xs (aY.of (s1 _ _ hx));simp only[gName,lT,Tg,if_true];refine he i x _ ex s1 _ λv H2 rv s2=>ht _ _ _ ⟨s1.trans s2,⟨_,rfl⟩,by simp[hl],λj y e=>?_⟩
  by_cases q:j<ys.length
  .rw[Sz q]at e;exact hR _ _ _ _ (hy j y e) s2
  .by_cases q2:j=ys.length
   .subst q2;simp at e;subst e;rw[hl];exact rv
   .rw[R5 (by simp;lia)]at e;cases e
 .rintro ys _ H1 dd ⟨s1,_,hl,hy⟩ hd;exact q dd H1 ys s1 hd hl hy
theorem v7{α:Type}{H0 H:Hp}(f:α->List Int):∀(l:List α)(ys:List V),ys.length=l.length->(∀(i:Nat)(y:V),ys[i]? =some y->∃x t,l[i]? =some x/\y=.ref t/\H0 t=none/\H t=some (.tup ((f x).map V.int)))->∃ps:List (List Int×Addr),ys=kRefs ps/\ps.map (·.1)=l.map f/\∀p∈ps,H0 p.2=none/\H p.2=some (.tup (p.1.map V.int))
 | [],[],_,_=>⟨[],rfl,rfl,λ_ z=>nomatch z⟩
 |x::l,y::ys,hl,h=>by
  obtain⟨x',t,e1,rfl,e3,e4⟩:=h 0 y rfl;have e1:x=x':=by simpa using e1
  subst e1;obtain⟨ps,rfl,p2,p3⟩:=v7 f l ys (by simpa using hl) λi y hy=>h (i+1) y (by simpa using hy);refine⟨(f x,t)::ps,rfl,by rw[RY,RY,p2],λp hp=>?_⟩
  rcases RB.mp hp with rfl|hp
  .exact⟨e3,e4⟩
  .exact p3 p hp
 | [],_::_,hl,_=>by simp at hl
 |_::_,[],hl,_=>by simp at hl
def KB(wi hi:Int)(hs:List Int)(row:Str)(us:List (aP×Addr))(sd sq:Int)(l':List (Int×Int)):Prop:= ∃l,aX wi hi hs row sq sd (ofKind us (one (lo1 (row.cps.toList.getD sq.toNat 0)))) l/\m7 l l'
theorem KB.uniq{wi hi:Int}{hs:List Int}{row:Str}{us:List (aP×Addr)}{sd sq:Int}{l l':List (Int×Int)}(h:KB wi hi hs row us sd sq l)(h':KB wi hi hs row us sd sq l'):l=l':=by obtain⟨m,a,b⟩:=h;obtain⟨m',a',b'⟩:=h';have e:=a.uniq a';subst e;exact b.uniq b'
def tk3(s:Int)(x:Int×Int):List Int:=[s,x.1,x.2]
inductive jB(wi hi:Int)(hs:List Int)(row:Str)(us:List (aP×Addr))(sd:Int):List Int->List (List Int)->Prop
 |nil:jB wi hi hs row us sd [] []
 |cons {s ss l m}:KB wi hi hs row us sd s l->jB wi hi hs row us sd ss m->jB wi hi hs row us sd (s::ss) (l.map (tk3 s)++m)
theorem jB.uniq{wi hi:Int}{hs:List Int}{row:Str}{us:List (aP×Addr)}{sd:Int}:∀{ss:List Int}{m m':List (List Int)},jB wi hi hs row us sd ss m->jB wi hi hs row us sd ss m'->m=m'
 |_,_,_,.nil,.nil=>rfl
 |_,_,_,.cons a b,.cons c d=>by rw[a.uniq c,jB.uniq b d]
theorem jB.add{wi hi:Int}{hs:List Int}{row:Str}{us:List (aP×Addr)}{sd s:Int}{l:List (Int×Int)}(h:KB wi hi hs row us sd s l):∀{ss:List Int}{m:List (List Int)},jB wi hi hs row us sd ss m->jB wi hi hs row us sd (ss++[s]) (m++l.map (tk3 s))
 |_,_,.nil=>by
  have:=jB.cons h jB.nil
  rwa[RP]at this
 |_,_,.cons a b=>by rw[Sl];exact .cons a (jB.add h b)
theorem jB.len3{wi hi:Int}{hs:List Int}{row:Str}{us:List (aP×Addr)}{sd:Int}:∀{ss:List Int}{m:List (List Int)},jB wi hi hs row us sd ss m->∀k∈m,k.length=3
 |_,_,.nil,_,z=>nomatch z
 |_,_,.cons a b,k,z=>by
  rcases RM.mp z with w|w
  .obtain⟨x,_,rfl⟩:=RA.mp w;rfl
  .exact jB.len3 b k w
def oW(H H':Hp)(q:Addr)(m:List (List Int)):Prop:= ∃ps:List (List Int×Addr),ps.map (·.1)=m/\H' q=some (.lst (kRefs ps))/\∀p∈ps,H p.2=none/\H' p.2=some (.tup (p.1.map V.int))
theorem vx{H H1 H2:Hp}{q:Addr}{m m2:List (List Int)}{ps ps2:List (List Int×Addr)}(h1:ps.map (·.1)=m)(hq:∀xs,¬H2 q=some (.tup xs))(h3:∀p∈ps,H p.2=none/\H2 p.2=some (.tup (p.1.map V.int)))(s:ak H H1)
  (g1:ps2.map (·.1)=m2) (g3:∀p∈ps2,H1 p.2=none/\H2 p.2=some (.tup (p.1.map V.int))):oW H (upd H2 q (.lst (kRefs ps++kRefs ps2))) q (m++m2):=by
 refine⟨ps++ps2,by rw[RQ,h1,g1],by rw[ah,show kRefs (ps++ps2)=kRefs ps++kRefs ps2 from RQ ..],λp hp=>?_⟩;have ne:∀{p:Addr}{xs:List V},H2 p=some (.tup xs)->p≠q:=λa e=>hq _ (e▸a)
 rcases RM.mp hp with z|z
 .obtain⟨a1,a2⟩:=h3 p z;exact⟨a1,by rw[av (ne a2)];exact a2⟩
 .obtain⟨a1,a2⟩:=g3 p z;exact⟨s.free a1,by rw[av (ne a2)];exact a2⟩
def vA(row:Str)(sd:Int)(n:Nat):List Int:=((List.range n).filter λi=>decide (bP (row.cps.toList.getD i 0)=.int sd)).map λ(i:Nat)=>(i:Int)
theorem tM{row:Str}{sd:Int}{n:Nat}:vA row sd (n+1)=vA row sd n++if sdV row (n:Int)=.int sd then [(n:Int)]else []:=by
 unfold vA;rw[Sq,SV,RQ];congr 1
 by_cases h:sdV row (n:Int)=.int sd
 .rw[ND h,Sr,ND (NA (p:=bP (row.cps.toList.getD n 0)=.int sd) h)];rfl
 .rw[NC h,Sr,NC (by rw[NB (p:=bP (row.cps.toList.getD n 0)=.int sd) h];decide)];rfl
theorem kA{row:Str}{sd s:Int}(h:s∈sqsOf row sd):0<=s/\s<row.length/\sdV row s=.int sd:=by obtain⟨n,hn,rfl⟩:=RA.mp h;obtain⟨a,b⟩:=R0.mp hn;have:=RJ.mp a;exact⟨by lia,by lia,NE b⟩
theorem nV{row:Str}{sd:Int}:(sqsOf row sd).length<=row.length:=by unfold sqsOf;rw[Rz];refine Tn (Sf _ _) ?_;rw[Sa];exact Tj _
theorem IJ{l l':List (Int×Int)}(h:m7 l l'):l'.Nodup:=by rw[R4];refine h.2.imp λh e=>?_;rw[e,jY]at h;cases h
theorem we{K:Frag}{cB cG:Addr}{H:Hp}{g b kq:Addr}{wi hi:Int}{hs:List Int}{ks:List Nat}{us:List (aP×Addr)}{ts es:List ((Str×Str)×Addr)}{st row:Str}{sq sd:Int}{Q:VK}(G:jq K cB cG H g b kq wi hi hs ks us ts es st)(R:vi row hs)(rl:(row.length:Int)=wi*hi)(s0:0<=sq)(s1:sq<row.length)(hsd:sdV row sq=.int sd)
  (q:∀(l':List (Int×Int))(q:Addr)(H':Hp),KB wi hi hs row us sd sq l'->l'.length<64->H q=none->bA H H' q l'->ak H H'->Q (.ref q) H'):px K cB cG [.ref g,.str row,.int sq] H Q E0/\l5 K cB cG [.ref g,.str row,.int sq] H Q E0:=by
 have B:=G.bd;obtain⟨ekd,sd2⟩:=n5 (c:=row.cps.toList.getD sq.toNat 0) hsd;have few:∀l,aX wi hi hs row sq sd (ofKind us (one (lo1 (row.cps.toList.getD sq.toNat 0)))) l->∀m:List (Int×Int),m.Nodup->(∀x∈m,x∈l)->m.length<64:=λl hl m nd hm=>
  Ml B.w8 B.h8 B.w1 s0 (by lia) (Tn (Sf _ _) G.r12) (λz hz=>G.rg z (R0.mp hz).1) hl m nd hm
 have rg0:∀z∈us,¬(z.1.ax=0/\z.1.up=0):=λz hz=>(G.rg z hz).n0;have k:∀(l l':List (Int×Int))(q:Addr)(H':Hp),aX wi hi hs row sq sd (ofKind us (one (lo1 (row.cps.toList.getD sq.toNat 0)))) l->m7 l l'->H q=none->bA H H' q l'->ak H H'->Q (.ref q) H':=λl l' t H' h1 h2 h3 h4 h5=>
  q l' t H' ⟨l,h1,h2⟩ (few l h1 l' (IJ h2) λx hx=>(h2.1 x).mp hx) h3 h4 h5
 exact⟨⟨g,b,row,_,sq,sd,wi,hi,hs,ks.map strV,bQ ts,bQ es,st,us,rfl,G.gm,G.bd,G.rl,G.r12,rg0,R.toRowS,rl,s0,by lia,hsd,sd2,ekd,few,k⟩,
  ⟨g,b,row,_,sq,sd,wi,hi,hs,ks.map strV,bQ ts,bQ es,st,us,rfl,G.gm,G.bd,G.rl,G.r12,rg0,R,rl,s0,by lia,hsd,sd2,ekd,few,k⟩⟩
def jF(K:Frag)(cB cG:Addr):Sp:=λvs H Q _=>∃(g b kq p:Addr)(row:Str)(sd wi hi:Int)(hs:List Int)(ks:List Nat)(us:List (aP×Addr))(ts es:List ((Str×Str)×Addr))(st:Str),vs=[.ref g,.ref p]/\jq K cB cG H g b kq wi hi hs ks us ts es st/\cr K H p [.str row,.int sd]/\vi row hs/\(row.length:Int)=wi*hi/\
 ∀(m:List (List Int))(q:Addr)(H':Hp),jB wi hi hs row us sd (sqsOf row sd) m->m.length<=4096->H q=none->oW H H' q m->ak H H'->Q (.ref q) H'
structure CMv(P:NP)(w:NT)(K:Frag)(mg:NH)(Ny:NZ)(cB cG:Addr):Prop where
 squares_of:dg P w K mg Ny "squares_of" ["row","side"] 2 nX
 goals:dg P w K mg Ny "goals" ["game","row","square"] 5 (px K cB cG)
structure CLm(P:NP)(w:NT)(K:Frag)(mg:NH)(Ny:NZ)(cB cG:Addr):Prop where
 _law_side:dg P w K mg Ny "_law_side" ["_law_sign"] 1 jG
 _law_goals:dg P w K mg Ny "_law_goals" ["_law_game_here","_law_row_here","_law_square"] 3 (l5 K cB cG)
theorem vt{K:Frag}{src:List (Option Nat)}{σ:St}{H0 H:Hp}{Q:VK}{d:Addr}{l':List (Int×Int)}{ps:List (List Int×Addr)}{sq:Int}{te:TE}(s0:ak H0 H)(p1:ps.map (·.1)=l'.map pk)(hx:H d=some (.lst (kRefs ps)))(p3:∀p∈ps,H p.2=some (.tup (p.1.map V.int)))(l64:l'.length<64)(hs:fO src σ=[none,some (.int sq)])
  (ht:∀(a:Addr)(x y:Int)(H':Hp)(Q:VK),H' a=some (.tup [.int x,.int y])->(∀t,H' t=none->Q (.ref t) (upd H' t (.tup [.int sq,.int x,.int y])))->te [oR a,oJ sq] H' Q)
  (q:∀d' H' ps2,ak H H'->H' d'=none->ps2.map (·.1)=l'.map (tk3 sq)->(∀p∈ps2,H0 p.2=none/\H' p.2=some (.tup (p.1.map V.int)))->Q (.ref d') (upd H' d' (.lst (kRefs ps2)))):eG (gName 0) lT te src σ Q (Ee K d) H:=by
 have z:=congrArg List.length p1;rw[Rz,Rz]at z;refine qS (rest:=[oJ sq]) hx (by rw[Rz,NR];lia) hs (λj H' v=>∃x t,l'[j]? =some x/\v=.ref t/\H0 t=none/\H' t=some (.tup ((tk3 sq x).map V.int))) (λi H H' v h s=>?_) (λi x H' hx' s' Q' q'=>?_) (λd' H' ys s' hd hl hy=>?_)
 .obtain⟨x,t,a,b,c,e⟩:=h;exact⟨x,t,a,b,c,s _ _ e⟩
 .have hi:i<ps.length:=by
   have:=(RO.mp hx').1
   rwa[Rz]at this
  have hi2:i<l'.length:=by lia
  rw[RE,RC hi]at hx';obtain rfl:V.ref ps[i].2=x:=Option.some.inj hx';have e:ps[i].1=pk l'[i]:=by
   have a:(ps.map (·.1))[i]? =some ps[i].1:=by rw[RE,RC hi];rfl
   rw[p1,RE,RC hi2]at a;exact(Option.some.inj a).symm
  have h4:=s' _ _ (p3 _ (RU hi));rw[e]at h4;refine ht _ l'[i].1 l'[i].2 H' Q' h4 λt ht=>q' _ _ ⟨l'[i],t,RC hi2,rfl,(s0.trans s').free ht,ah⟩ ((ak.refl H').upd ht)
 .obtain⟨ps2,rfl,e1,e2⟩:=v7 (tk3 sq) l' ys (by rw[hl,Rz];exact z) hy;exact q d' H' ps2 s' hd e1 e2
theorem xJ{K:Frag}{σ:St}{H:Hp}{t:TA}{tb:TE}{c:Nat}{sd:Int}(h:Av t σ H [.str (one c)])(hc:Sg c)(hb:Ev tb σ H (.int sd)):Ev (fG K .Eq (fH jG t) tb) σ H (.bl (decide (bP c=.int sd))):=λQ q=>h _ ⟨c,rfl,hc,hb _ (by rw[pC];exact q)⟩
theorem Kk{ta tb:TE}{σ:St}{H:Hp}{Q:VK}(h:ta σ H (cL λc H1=>if c=true then tb σ H1 Q else Q (.bl false) H1)):wx ta tb σ H Q:=h
theorem B3{K:Frag}{op:O8}{ta tb:TE}{σ:St}{H:Hp}{Q:VK}(h:ta σ H λx H1=>tb σ H1 λy H2=>fT K op x y H2 Q):fG K op ta tb σ H Q:=h
theorem Ca{sp:Sp}{t:TA}{σ:St}{H:Hp}{Q:VK}(h:t σ H λvs H1=>sp vs H1 Q E0):fH sp t σ H Q:=h
theorem Kj{tb:TE}{σ:St}{H:Hp}{Q:VK}(h:tb σ H Q):cL (λc H1=>if c=true then tb σ H1 Q else Q (.bl false) H1) (.bl true) H:=by show(if true=true then tb σ H Q else Q (.bl false) H);rw[ND rfl];exact h
def GT(c:Nat)(sd:Int):Nat:=if sd=0 then c - 32 else c
def farI(hi sd:Int):Int:=if sd=0 then hi - 1 else 0
def GK(K:Frag)(cB:Addr):Sp:=λvs H Q _=>∃(p:Addr)(wi hi:Int)(hs:List Int)(sd:Int),vs=[.ref p,.int sd]/\cu K cB H p wi hi hs/\Q (.int (farI hi sd)) H
theorem wm{K:Frag}{H:Hp}{n:Nat}{a b:Addr}{xs:List V}(ha:H a=some (.lst xs))(hb:H b=some (.lst [])):x6 K H (n+1) (.ref a) (.ref b) (decide (xs=[])):=by
 cases xs with
 |nil=>exact DX ha hb
 |cons x xs=>exact x6.len (aY.of ha) (aY.of hb) (by simp)
theorem Aq{t u:TT}{σ:St}{H:Hp}{R:Bool->Hp->Prop}(h:t σ H λc H1=>if c=true then u σ H1 R else R false H1):IG t u σ H R:=h
theorem ja:plainId "dict.update.loop"=true:=by decide+kernel
theorem oM:entryFor table "dict.update.loop"=some OL.«dict.update.loop» :=entryFor_of_fast (by kernel_rfl)
theorem qm:Q3 (.type "list") "keys"=pure none:=by rw[PH,O6];kernel_rfl
section
variable{prog:NP}{w:NT}{A:N1}{E:NI}{s:NN}
theorem Dt{a:Addr}{o:Obj}{xs:Array Value}{k:Nat}{Q:Option Value->NN->Prop}(hx:s.heap.get? a=some o)(hc:o.cls=.type "list")(hdat:o.data=.seq xs k)(hd:o.dict=none)(hA:A.handled=none)
  (h:∀h' tk,(∀b ob,s.heap.get? b=some ob->h'.get? b=some ob)->Q none {s with heap:=h',toks:=tk}):NS (NX prog w) A (getAttr? (.ref a) "keys") Q E s:=by
 obtain⟨c,dct,dat,sl⟩:=o;simp only at hc hdat hd;subst hc hdat hd;obtain⟨hp,g,d,tk,os⟩:=s;have hT:∀tk',(⟨hp,g,d,tk',os⟩:NN).TypeIs (.ref a) "list":=λ_=>⟨_,hx,rfl⟩;have f1:=sub_AttributeError;have f3:=PySem.F.slot_list_getattribute.lookup;have f4:=PySem.F.slot_list_getattribute.bind (.ref a);have f5:=am_list_getattr_none;unfold getAttr? getAttrBy? getAttrBy
 repeat (any_goals (first|assumption|exact hT _|((with_reducible show NS _ _ (call (QZ "list.__getattribute__") _ _) _ _ _);refine Qx PySem.F.slot_list_getattribute (hT _) am_entry_list_getattribute (PySem.F.args_list_getattribute_2 _ _) (meets_getattribute_miss_list a xs k sl "keys" _ qm (by decide+kernel) (by decide)) ⟨hx,hA,λh' tk' e hx'=>?_⟩)|wp_step))
 obtain⟨t',u',he⟩:=hx'.there;have hTe:∀tk'',(⟨h',g,d,tk'',os⟩:NN).TypeIs (.ref e) "AttributeError":=λ_=>⟨_,he,rfl⟩;show NS _ _ (getattributeRaised _ _ _ _ _ _ _) _ _ _;unfold getattributeRaised
 repeat (any_goals (first|assumption|exact hTe _|wp_step))
 exact h h' tk' hx'.keeps
variable{K:Type}[DecidableEq K]{knd:KeyKind prog w K}
def gR(kvs:List (K×Value)):List (K×Value)->List (K×Value)
 | []=>kvs
 |p::ps=>gR (Rv kvs p.1 p.2) ps
theorem tJ{kvs:List (K×Value)}{k:K}{v:Value}:(Rv kvs k v).length<=kvs.length+1:=by
 unfold Rv;split
 .rw[Rz];lia
 .rw[RI];exact Tj _
theorem B2{d it l:Addr}{items:Array Value}{R:Ra->NN->Prop}(hA:A.handled=none)(hdi:d≠it)(hdl:d≠l)(hil:it≠l):
  ∀(rest:List (K×Value))(i:Nat)(s:NN)(kvs:List (K×Value))(tk:Tok),i+rest.length=items.size->s.heap.IsListIter it l i->s.heap.IsList l items->s.heap.DictOf knd d kvs->
  (∀j p,rest[j]? =some p->∃t key,items[i+j]? =some (.ref t)/\s.heap.IsTuple t #[key,p.2]/\knd.is p.1 key=true/\t≠d/\t≠it)->kvs.length+rest.length<=sizeLine->
  (∀s',s'.heap.DictOf knd d (gR kvs rest)->(∀b o,b≠d->b≠it->s.heap.get? b=some o->s'.heap.get? b=some o)->s'.gens=s.gens->s'.drawn=s.drawn->s'.os=s.os->s.toks<=s'.toks->R (.ok (.ret .none)) s')->
  O7 (NX prog w) A (.builtin "dict.update.loop" ⟨[.ref d,.ref it,.int i tk,.none],[]⟩) R s:=by
 intro rest
 induction rest with
 |nil=>
  intro i s kvs tk hi hit hl hd hp hz hR;refine Oc oM ?_;rw[Ob ja _];show NS _ A.in1 (Pb (.ref it) >>= _) _ _ s;refine NK (QE (show A.in1.handled=none from hA) hit hl (by rw[Uo];simp at hi;lia) λh' ext=>?_);show NS _ _ (Builtin.Dict.addKeywords d [] >>= _) _ _ _;exact NK (NL (NL (hR _ (hd.extBut ext hdi) (λb o _ hb e=>ext b o hb e) rfl rfl rfl (Tj _))))
 |cons p rest ih=>
  intro i s kvs tk hi hit hl hd hp hz hR;obtain⟨t,key,hx,ht,hk,htd,hti⟩:=hp 0 p rfl;refine Oc oM ?_;rw[Ob ja _];show NS _ A.in1 (Pb (.ref it) >>= _) _ _ s;refine NK (Qu hit hl hx λh1 hit1 sb1=>?_);obtain⟨ot,hot,hct,nt,hdt⟩:=ht;have hot1:h1.get? t=some ot:=(sb1.2 t hti).trans hot;have hT:(⟨h1,s.gens,s.drawn,s.toks,s.os⟩:NN).TypeIs (.ref t) "tuple":=⟨_,hot1,hct⟩;refine NK (N4 (NK (wpAny_tryCatch ?_)));unfold Builtin.Dict.pairItems;refine NK (OX hT ?_);show NS _ _ (if _ then _ else _) _ _ _;rw[ND (by decide)];refine NK (OT hot1 hdt (NL ?_));show NS _ _ (Qc [key,p.2] (dictSet d key p.2)) _ _ _;have hd1:h1.DictOf knd d kvs:=hd.extBut (λb o hb e=>(sb1.2 b hb).trans e) hdi;refine N4 (wpAny_dictSet_pairs hk hd1 (λh2 hd2 sb2=>?_) (by simp at hz;lia));refine NL ⟨O4 ja _,?_⟩;have hb2:∀b o,b≠d->b≠it->s.heap.get? b=some o->h2.get? b=some o:=λb o nd ni e=>(sb2.2 b nd).trans ((sb1.2 b ni).trans e);have sl:=tJ (kvs:=kvs) (k:=p.1) (v:=p.2);rw[RR]at hi hz;refine ih (i+1) ⟨h2,s.gens,s.drawn,s.toks+1,s.os⟩ (Rv kvs p.1 p.2) _ (by lia) ?_ ?_ hd2 (λj q hq=>?_) (by lia) (λs' a1 a2 a3 a4 a5 a6=>?_)
  .obtain⟨oi,e1,e2,e3⟩:=hit1;exact⟨oi,(sb2.2 it (Ne.symm hdi)).trans e1,e2,e3⟩
  .obtain⟨ol,e1,e2⟩:=hl;exact⟨ol,hb2 l ol (Ne.symm hdl) (Ne.symm hil) e1,e2⟩
  .obtain⟨t',key',b1,⟨o',c1,c2⟩,b3,b4,b5⟩:=hp (j+1) q (by simpa using hq);exact⟨t',key',by rw[show i+1+j=i+(j+1) by lia];exact b1,⟨o',hb2 t' o' b4 b5 c1,c2⟩,b3,b4,b5⟩
  .exact hR s' a1 (λb o nd ni e=>a2 b o nd ni (hb2 b o nd ni e)) a3 a4 a5 (Tn (Tp _) a6)
theorem lF{l:Addr}{o:Obj}{items:Array Value}{n:Nat}{Q:NI}(hA:A.handled=none)(ho:s.heap.get? l=some o)(hc:o.cls=.type "list")(hdat:o.data=.seq items n)(hdd:o.dict=none)(ps:List (K×Value))(hlen:ps.length=items.size)(hsz:ps.length<=sizeLine)
  (hp:∀(j:Nat)(p:K×Value),ps[j]? =some p->∃t key,items[j]? =some (NY t)/\s.heap.IsTuple t #[key,p.2]/\knd.is p.1 key=true)
  (h:∀s',s'.heap.DictOf knd s.heap.objs.size (gR [] ps)->(∀b o,s.heap.get? b=some o->s'.heap.get? b=some o)->s'.gens=s.gens->s'.drawn=s.drawn->s'.os=s.os->Q (.ref s.heap.objs.size) s'):
  NS (NX prog w) A (call (.type "dict") [.ref l]) Q E s:=by
 refine callType_codes (Q₁:=λobj s₁=>obj=.ref s.heap.objs.size/\s₁={s with heap:=s.heap.push {cls:=.type "dict",data:=.dict #[]}}) F.kt_called_dict (F.kt_typeCall_dict_1 _) F.entry_dict_init (kt_code_dict_new _ ⟨rfl,rfl⟩) ?_;rintro obj s₁ ⟨rfl,rfl⟩;have hnew:(s.heap.push {cls:=.type "dict",data:=.dict #[]}).DictOf knd s.heap.objs.size []:=Heap.DictOf.new s.heap;have ho':(s.heap.push {cls:=.type "dict",data:=.dict #[]}).get? l=some o:=NO _ ho;refine⟨hnew.typeIs,F.args_dict_init_2 _ _,?_⟩;unfold OL.«dict.__init__»;refine NK ?_;unfold Builtin.Dict.selfAndRest;refine NK (wpAny_notOrdered_dict hnew.typeIs ?_);show NS _ _ (pure (s.heap.objs.size,[NY l])) _ _ _;refine NL ?_;show NS _ _ (Qt "dict.__init__" s.heap.objs.size (.ref l) [] .none) _ _ _;unfold Qt;refine NK (OX (show PC {s with heap:=s.heap.push {cls:=.type "dict",data:=.dict #[]}} (.ref l) "list"from⟨_,ho',hc⟩) ?_);rw[ND (by decide)];refine NK (Dt ho' hc hdat hdd (show A.in1.in1.handled=none from hA) λh1 tk1 k1=>?_);rw[ND (by rfl)];have hl1:h1.IsList l items:=⟨o,k1 _ _ ho',hc,n,hdat⟩;have hd1:h1.DictOf knd s.heap.objs.size []:=by obtain⟨o',es,ep,e1,r⟩:=hnew;exact⟨o',es,ep,k1 _ _ e1,r⟩
 have ls:l<s.heap.objs.size:=NQ ho;have dlt:s.heap.objs.size<h1.objs.size:=by obtain⟨o',es,ep,e1,r⟩:=hd1;exact NQ e1
 refine NK (wpAny_rule ?_);refine NK (OO hl1 ?_);refine NL ⟨O4 ja _,?_⟩;refine B2 (A:=A.in1) hA (Tk dlt) (Tr ls) (Tr (Ts ls dlt)) ps 0 _ [] _ (by lia) ⟨_,NW _ rfl,rfl,rfl⟩ (hl1.push _) (hd1.push _) (λj p hj=>?_) (by simpa using hsz) (λs' a1 a2 a3 a4 a5 a6=>?_)
 .obtain⟨t,key,b1,⟨ot,c1,c2⟩,b3⟩:=hp j p hj;have tl:=NQ c1;exact⟨t,key,by rw[Tt];exact b1,⟨ot,NO _ (k1 _ _ (NO _ c1)),c2⟩,b3,Tk tl,Tk (Ts tl dlt)⟩
 .refine⟨rfl,h s' a1 (λb o e=>?_) a3 a4 a5⟩;have bl:=NQ e;exact a2 b o (Tk bl) (Tk (Ts bl dlt)) (NO _ (k1 _ _ (NO _ e)))
end
end L2
namespace L2
open PySem PySem.W PySem.Calls PySem.Spec PyProof.Rows
noncomputable def kvsOf(kvs:List (Key×V)):List (Str×Str)->List (Key×V)
 | []=>kvs
 |p::ps=>kvsOf (pQ kvs (.inr p.1) (.str p.2)) ps
theorem ow:∀(ps:List (Str×Str))(kvs:List (Key×V)),(kvsOf kvs ps).length<=kvs.length+ps.length
 | [],kvs=>Tj _
 |p::ps,kvs=>by have a:=ow ps (pQ kvs (.inr p.1) (.str p.2));have b:=si kvs (.inr p.1) (.str p.2);show(kvsOf (pQ kvs (.inr p.1) (.str p.2)) ps).length<=_;rw[RR];lia
theorem Ix{a b:Str}{us:List Value}(r:aZ [.str a,.str b] us):∃t1 t2,us=[.str a t1,.str b t2]:=by
 cases r with
 |cons r0 r1=>
 cases r1 with
 |cons r2 r3=>
 cases r3;obtain⟨t1,rfl⟩:=(show∃t,_=Pz a t from r0);obtain⟨t2,rfl⟩:=(show∃t,_=Pz b t from r2);exact⟨t1,t2,rfl⟩
theorem AV{h:NZ}:∀(zs:List ((Str×Str)×Addr)),(∀z∈zs,∃t1 t2,h.IsTuple z.2 #[.str z.1.1 t1,.str z.1.2 t2])->∃ps:List (Key×Value),ps.length=zs.length/\(∀(j:Nat)(p:Key×Value),ps[j]? =some p->∃z key,zs[j]? =some z/\h.IsTuple z.2 #[key,p.2]/\aV (kV p.1) key)/\∀(kvs:List (Key×V))(vs:List (Key×Value)),KV kvs vs->KV (kvsOf kvs (zs.map (·.1))) (gR vs ps)
 | [],_=>⟨[],rfl,λj p e=>by simp at e,λkvs vs r=>r⟩
 |z::zs,hz=>by
  obtain⟨t1,t2,ht⟩:=hz z RK;obtain⟨ps,p1,p2,p3⟩:=AV zs λy hy=>hz y (RF _ hy);refine⟨(.inr z.1.1,.str z.1.2 t2)::ps,by simp[p1],λj p e=>?_,λkvs vs r=>p3 _ _ (r.put _ ⟨t2,rfl⟩)⟩;cases j with
  |zero=>
   have e:(Sum.inr z.1.1,Pz z.1.2 t2)=p:=by simpa using e
   subst e;exact⟨z,_,rfl,ht,t1,rfl⟩
  |succ j=>
   obtain⟨y,key,a,b⟩:=p2 j p (by simpa using e);exact⟨y,key,by simpa using a,b⟩
section
variable{X:Cx}
def uS(K:Frag)(xs:List V)(H:Hp)(Q:VK):Prop:= ∃(d:Addr)(zs:List ((Str×Str)×Addr)),xs=[.ref d]/\aY K H d (bQ zs)/\(∀z∈zs,cr K H z.2 [.str z.1.1,.str z.1.2])/\zs.length<=1000/\∀q,H q=none->Q (.ref q) (upd H q (.dK (kvsOf [] (zs.map (·.1)))))
theorem sT(hA:X.A.handled=none):bn X (.type "dict") (uS X.K):=by
 intro gV s σ H xs us Q I rv h;obtain⟨d,zs,rfl,hd,hp,hz,q⟩:=h;cases rv with
 |cons r0 rn=>
 cases rn;cases r0;obtain⟨its,r,⟨o,n,e,hc,hdd,hdat⟩,_⟩:=I.list hd;have rl:=r.length;rw[Rz]at rl;obtain⟨ps,p1,p2,p3⟩:=AV (h:=s.heap) zs λz hz'=>by obtain⟨it2,r2,tp,_⟩:=I.tuple (hp z hz');obtain⟨t1,t2,rfl⟩:=Ix r2;exact⟨t1,t2,tp⟩
 refine lF (knd:=eB X.prog X.w) hA e hc hdat hdd ps (by rw[p1,RD];exact rl) (by rw[p1,NR];lia) (λj p hj=>?_) (λs' a1 a2 a3 a4 a5=>?_)
 .obtain⟨z,key,b1,b2,b3⟩:=p2 j p hj;refine⟨z.2,key,?_,b2,Hj b3⟩;obtain⟨u,hu,ru⟩:=r.get (show(bQ zs)[j]? =some (V.ref z.2) by rw[RE,b1];rfl);cases ru;simpa using hu
 .have kl:=ow (zs.map (·.1)) [];rw[Rz]at kl;have hq:H s.heap.objs.size=none:=I.hok.fresh (Tj _);obtain⟨h',g',d',t',os'⟩:=s';obtain rfl:g'=s.gens:=a3;obtain rfl:d'=s.drawn:=a4;obtain rfl:os'=s.os:=a5;have k2:∀b o,s.heap.get? b=some o->h'.get? b=some o:=a2;have dd:h'.DictOf (eB X.prog X.w) s.heap.objs.size (gR [] ps):=a1;have kz:(kvsOf [] (zs.map (·.1))).length<=sizeLine:=by rw[NR];have:([]:List (Key×V)).length=0:=rfl;lia
  exact⟨.ref s.heap.objs.size,upd H s.heap.objs.size (.dK (kvsOf [] (zs.map (·.1)))),I.laid (t':=t') k2 (Tj _) (J1 kz (beq_eq_false_iff_ne.mpr (Ne.symm (Tk I.big))) (p3 [] [] .nil) dd),rfl,q _ hq⟩
theorem Bl(K:Frag){j:Nat}(hr:cI j X.A)(hK:X.K=K:=by rfl):bn X (.type "dict") (uS K):=by subst hK;exact sT hr.hd
end
def JP(x:V)(xs:List V)(H:Hp)(Q:VK):Prop:= ∃a kvs k y,x=.ref a/\xs=[kV k,y]/\H a=some (.dK kvs)/\Q ((valV kvs k).getD y) H
theorem Dy{X:Cx}:qR X "dict.get" JP:=by
 intro gV s σ H x xs v us Q I rx rv h;obtain⟨a,kvs,k,y,rfl,rfl,e,q⟩:=h;cases rx;cases rv with
 |cons r1 rn=>
 cases rn with
 |cons r2 rn2=>
 cases rn2;obtain⟨z,hd,vs,rel,dd⟩:=Mp I.hok e;refine call_meetsIn PySem.F.slot_dict_get dd.typeIs PySem.F.entry_dict_get (PySem.F.args_dict_get_3 _ _ _) (meets_dict_get_default (eB X.prog X.w) a (Hj r1) hd _) ⟨_,dd.mapOf,?_⟩;exact⟨(valV kvs k).getD y,H,I.tok _,(rel.val k).getD r2,q⟩
theorem Hh{X:Cx}{o e e2:N5}{to:TE}{t:TA}{apos cpos:Px}(K:Frag)(ho:PE X o to)(ha:PA X [e,e2] t)(hbase:Ot o "get" X.env (Om o X.env)=Om o X.env:=by rfl)
  (hfew:((Oh cpos (NU [e,e2] X.env)).all (λx=> !x.1)&&(P1 cpos (Pc [] X.env)).all (λx=>x.1.isSome)
   &&decide ([e,e2].length+([]:List Ph).length+(if([]:List Ph).isEmpty then 0 else 1)<30))=true:=by rfl)
  (hline:(apos.endLine == cpos.line)=true:=by rfl) (hs:NU [e,e2] X.env=(false,Om e X.env)::NU [e2] X.env:=by rfl) (hplain:(Oh cpos (NU [e2] X.env)).any (·.1)=false:=by rfl) (hK:X.K=K:=by rfl):
  PE X (.Call (.Attribute o "get" apos) [e,e2] [] cpos) (M0 K "dict" JP to t):=by
 subst hK;exact LH PySem.F.plainAttrs_dict PySem.F.slot_dict_get PySem.F.type_dict_get Dy ho ha hbase hfew hline hs hplain
end L2
namespace L2
open PySem PySem.Spec PyProof.Rows
def turnV(ts:List ((Str×Str)×Addr))(kd:Str):V:=(valV (kvsOf [] (ts.map (·.1))) (.inr kd)).getD (.str kd)
theorem BW{K:Frag}{te:TE}{ta:TA}{σ:St}{H:Hp}{Q:VK}{d:Addr}{zs:List ((Str×Str)×Addr)}{kd:Str}(h:Ev te σ H (.ref d))(hd:aY K H d (bQ zs))(hp:gv H zs)(hz:zs.length<=1000)(ha:∀H',ak H H'->Av ta σ H' [.str kd,.str kd])(q:∀H',ak H H'->Q (turnV zs kd) H'):M0 K "dict" JP (cB (uS K) (bx te df)) ta σ H Q:=
 h _ ⟨d,zs,rfl,hd,λz hz'=>cr.of (hp z hz'),hz,λp hq=>⟨.inr (.inr (.inl ⟨rfl,.inl ⟨_,ah⟩⟩)),ha _ ((ak.refl H).upd hq) _ ⟨p,_,.inr kd,.str kd,rfl,rfl,ah,q _ ((ak.refl H).upd hq)⟩⟩⟩
theorem An{P:V->Prop}{kvs:List (Key×V)}{k:Key}{v:V}(h:∀kv∈kvs,P kv.2)(e:valV kvs k=some v):P v:=by unfold valV at e;obtain⟨kv,h1,rfl⟩:=Uv.mp e;exact h kv (List.mem_of_find?_eq_some h1)
theorem AR{P:V->Prop}{kvs:List (Key×V)}{k:Key}{v:V}(h:∀kv∈kvs,P kv.2)(hv:P v):∀kv∈pQ kvs k v,P kv.2:=λkv hkv=>by
 unfold pQ at hkv;split at hkv
 .obtain⟨y,hy,rfl⟩:=RA.mp hkv;split
  .exact hv
  .exact h y hy
 .rcases RM.mp hkv with w|w
  .exact h kv w
  .rw[RL.mp w];exact hv
theorem oz{P:V->Prop}:∀(ps:List (Str×Str))(kvs:List (Key×V)),(∀kv∈kvs,P kv.2)->(∀p∈ps,P (.str p.2))->∀kv∈kvsOf kvs ps,P kv.2
 | [],_,h,_=>h
 |p::ps,kvs,h,hp=>oz ps _ (AR h (hp p RK)) λq hq=>hp q (RF _ hq)
theorem oZ{ks:List Nat}{ts:List ((Str×Str)×Addr)}(g:tm ks ts){k:Nat}(hk:k∈ks):∃c∈ks,turnV ts (one k)=.str (one c):=by
 unfold turnV;cases e:valV (kvsOf [] (ts.map (·.1))) (.inr (one k))with
 |none=>exact⟨k,hk,rfl⟩
 |some v=>
  have z:=An (P:=λv=>∃c∈ks,v=.str (one c)) (oz (P:=λv=>∃c∈ks,v=.str (one c)) _ [] (λ_ z=>nomatch z) λp hp=>?_) e
  .obtain⟨c,hc,rfl⟩:=z;exact⟨c,hc,rfl⟩
  .obtain⟨y,hy,rfl⟩:=RA.mp hp;obtain⟨_,c,hc,e2⟩:=g.kd y hy;exact⟨c,hc,by rw[e2]⟩
def chrV:V->Nat
 | .str z=>z.cps.toList.getD 0 0
 |_=>0
def nP(ts:List ((Str×Str)×Addr))(wi hi:Int)(c:Nat)(sd gl:Int):Nat:=if gl / wi=farI hi sd then GT (chrV (turnV ts (one (lo1 c)))) sd else c
noncomputable def vf(ts:List ((Str×Str)×Addr))(wi hi:Int)(row:Str)(sd s gl t:Int):Str:=gN (if t= -1 then gN row s (one 46)else gN (gN row s (one 46)) t (one 46)) gl (one (nP ts wi hi (row.cps.toList.getD s.toNat 0) sd gl))
def qZ(cG:Addr):Sp:=λvs H Q _=>∃(g b:Addr)(kd:Str)(ks rs es:List V)(ts:List ((Str×Str)×Addr))(st:Str),vs=[.ref g,.str kd]/\gw cG H g b ks rs (bQ ts) es st/\gv H ts/\ts.length<=6/\∀H',ak H H'->Q (turnV ts kd) H'
def GM(K:Frag)(cB cG:Addr):Sp:=λvs H Q _=>∃(g b kq:Addr)(c:Nat)(sd gl wi hi:Int)(hs:List Int)(ks:List Nat)(us:List (aP×Addr))(ts es:List ((Str×Str)×Addr))(st:Str),vs=[.ref g,.str (one c),.int sd,.int gl]/\jq K cB cG H g b kq wi hi hs ks us ts es st/\(c∈ks\/c∈ks.map (· - 32))/\∀H',ak H H'->Q (.str (one (nP ts wi hi c sd gl))) H'
def jI(K:Frag)(cB cG:Addr):Sp:=λvs H Q _=>∃(g b kq p mv:Addr)(row:Str)(sd s gl t wi hi:Int)(hs:List Int)(ks:List Nat)(us:List (aP×Addr))(ts es:List ((Str×Str)×Addr))(st:Str),vs=[.ref g,.ref p,.ref mv]/\jq K cB cG H g b kq wi hi hs ks us ts es st/\cr K H p [.str row,.int sd]/\cr K H mv [.int s,.int gl,.int t]/\Cp wi hi hs ks row/\0<=s/\s<row.length/\sdV row s=.int sd/\0<=gl/\gl<row.length/\(t= -1\/0<=t/\t<row.length)/\
 ∀(q:Addr)(H':Hp),H q=none->H' q=some (.tup [.str (vf ts wi hi row sd s gl t),.int (1 - sd)])->ak H H'->Q (.ref q) H'
structure CD1(P:NP)(w:NT)(K:Frag)(mg:NH)(Ny:NZ)(cB cG:Addr):Prop where
 kind_of:dg P w K mg Ny "kind_of" ["sign"] 1 tN
 sign_of:dg P w K mg Ny "sign_of" ["kind","side"] 1 AA
 row_of:dg P w K mg Ny "row_of" ["wide","square"] 1 AB
 Board_far_row:qO P w K mg Ny cB "far_row" ["self","side"] 1 (GK K cB)
 Game_turned:qO P w K mg Ny cG "turned" ["self","kind"] 1 (qZ cG)
structure CD2(P:NP)(w:NT)(K:Frag)(mg:NH)(Ny:NZ)(cB cG:Addr):Prop where
 arrived:dg P w K mg Ny "arrived" ["game","sign","side","goal"] 2 (GM K cB cG)
 put:dg P w K mg Ny "put" ["row","square","sign"] 1 GI
theorem oA{ks:List Nat}(hl:∀k∈ks,lG k){c:Nat}(h:c∈ks\/c∈ks.map (· - 32)):lo1 c∈ks/\c<128/\¬(c=46\/c=35):=by
 rcases h with h|h
 .have:=hl c h;unfold lG at this;refine⟨?_,by lia,by lia⟩;have e:lo1 c=c:=by unfold lo1;split<;>lia
  rw[e];exact h
 .obtain⟨k,hk,rfl⟩:=RA.mp h;have:=hl k hk;unfold lG at this;refine⟨?_,by lia,by lia⟩;have e:lo1 (k - 32)=k:=by unfold lo1;split<;>lia
  rw[e];exact hk
theorem Dz{C:Addr}{m:Str}{sp:Sp}{to:TE}{t:TA}{σ:St}{H:Hp}{Q:VK}{p:Addr}(ho:Ev to σ H (.ref p))(hi:tj C m H p)(q:t σ H λvs H2=>sp (.ref p::vs) H2 Q E0):Cc C m sp to t σ H Q:=ho _ ⟨hi,q⟩
theorem qx{te:TE}{σ:St}{H:Hp}(h:Ev te σ H (.str ".")):Ev te σ H (.str (one 46)):=by
 have e:one 46=".":=by decide+kernel
 rw[e];exact h
theorem D5{row:Str}{sd:Int}{so ai:Str}{path:List Int}{x:Int×Int}(h:x∈qG row sd so ai path):x.1∈path/\(x.2= -1\/x.2∈path):=by
 have sl:∀p:List Int,(∀y∈p,y∈path)->x∈de row sd ai p->x.1∈path/\(x.2= -1\/x.2∈path):=λp hp hx=>by
  obtain⟨g,hg,rfl⟩:=RA.mp ((lK row sd ai p).subset hx);refine⟨hp g hg,?_⟩;unfold prG;show(if sdV row g=.non then(-1:Int)else g)= -1\/(if sdV row g=.non then(-1:Int)else g)∈path;split
  .exact .inl rfl
  .exact .inr (hp g hg)
 unfold qG at h;split at h
 .match path,h with
  | [],h=>simp[jumpL]at h
  | [_],h=>simp[jumpL]at h
  |a::b::r,h=>
   have h:x∈(if sdV row a=.int (1 - sd)/\sdV row b=.non then [(b,a)]else []):=h;split at h
   .have e:=RL.mp h;rw[e];exact⟨by simp,.inr (by simp)⟩
   .simp at h
 .refine sl _ (λy hy=>?_) h;split at hy
  .exact Ss hy
  .exact hy
structure Nr(wi hi:Int)(hs:List Int)(row:Str)(sd s gl t:Int):Prop where
 s0:0<=s
 s1:s<row.length
 sd:sdV row s=.int sd
 g0:0<=gl
 g1:gl<wi*hi
 gn:¬gl∈hs
 tk:t= -1\/(0<=t/\t<wi*hi/\¬t∈hs)
theorem aX.inn{wi hi:Int}{hs:List Int}{row:Str}{sq sd:Int}(w1:1<=wi):∀{us:List (aP×Addr)}{l:List (Int×Int)},aX wi hi hs row sq sd us l->∀x∈l,(0<=x.1/\x.1<wi*hi/\¬x.1∈hs)/\(x.2= -1\/(0<=x.2/\x.2<wi*hi/\¬x.2∈hs))
 |_,_,.nil,_,h=>nomatch h
 |_,_,.cons a b,x,h=>by
  rcases RM.mp h with w|w
  .obtain⟨n,ry,_,rfl⟩:=a;obtain⟨h1,h2⟩:=D5 w;refine⟨pO w1 ry _ h1,?_⟩
   rcases h2 with e|e
   .exact .inl e
   .exact .inr (pO w1 ry _ e)
  .exact aX.inn w1 b x w
theorem jB.ok{wi hi:Int}{hs:List Int}{row:Str}{us:List (aP×Addr)}{sd:Int}(w1:1<=wi):∀{ss:List Int}{m:List (List Int)},jB wi hi hs row us sd ss m->(∀s∈ss,0<=s/\s<row.length/\sdV row s=.int sd)->∀k∈m,∃s gl t,k=[s,gl,t]/\Nr wi hi hs row sd s gl t
 |_,_,.nil,_,_,z=>nomatch z
 |_,_,@jB.cons _ _ _ _ _ _ s ss l m a b,hss,k,z=>by
  rcases RM.mp z with w|w
  .obtain⟨x,hx,rfl⟩:=RA.mp w;obtain⟨l0,hl,hs'⟩:=a;obtain⟨i1,i2⟩:=hl.inn w1 x ((hs'.1 x).mp hx);obtain⟨a1,a2,a3⟩:=hss s RK;exact⟨s,x.1,x.2,rfl,a1,a2,a3,i1.1,i1.2.1,i1.2.2,i2⟩
  .exact jB.ok w1 b (λy hy=>hss y (RF _ hy)) k w
def Kg(ts:List ((Str×Str)×Addr))(wi hi:Int)(row:Str)(sd:Int)(k:List Int):Str×Int:=(vf ts wi hi row sd (k.getD 0 0) (k.getD 1 0) (k.getD 2 0),1 - sd)
theorem Bd{K:Frag}{t:TA}{ti:TE}{σ:St}{H:Hp}{Q:VK}{vs:List V}{v:V}{i:Int}(h:Av t σ H vs)(hz:vs.length<=1000)(hi:∀H',ak H H'->Ev ti σ H' (.int i))(e:km vs i=some v)(q:∀H',ak H H'->Q v H'):Cd K (wL t) ti σ H Q:=h _ ⟨Tn hz (by decide),λp hp=>hi _ ((ak.refl H).upd hp) _ ⟨vs,v,.inl (aY.of ah),e,q _ ((ak.refl H).upd hp)⟩⟩
theorem JN{K:Frag}{σ:St}{H:Hp}{i j l:Nat}{d:Addr}{a b c:V}{R:St->Hp->Prop}(h:cr K H d [a,b,c])(q:R (((σ.set i (some a)).set j (some b)).set l (some c)) H):xF K 3 (iT (gName i) (iT (gName j) (iT (gName l) Bz))) (.ref d) σ H R:=⟨d,_,rfl,h,rfl,_,_,rfl,_,_,rfl,_,_,rfl,rfl,q⟩
theorem iN{row:Str}{s:Int}{c:Nat}(h0:0<=s)(h1:s<row.length):(gN row s (one c)).cps.toList=row.cps.toList.set s.toNat c:=by
 have hl:s.toNat<row.cps.toList.length:=by have:row.length=row.cps.toList.length:=rfl;lia
 rw[n9 h0 h1,List.set_eq_take_append_cons_drop,ND hl,Sl];rfl
theorem me(cs:List Nat)(n c:Nat):(cs.map strV).set n (strV c)=(cs.set n c).map strV:=List.map_set.symm
theorem IP{ks:List Nat}(hl:∀k∈ks,lG k){c:Nat}{sd:Int}(h:c∈ks\/c∈ks.map (· - 32))(hs:bP c=.int sd):GT (lo1 c) sd=c:=by
 unfold bP at hs;split at hs
 .cases hs
 .injection hs with hs
  rcases h with h|h
  .have z:=hl c h;unfold lG at z;rw[NC (by lia)]at hs;have e:lo1 c=c:=by unfold lo1;split<;>lia
   unfold GT;rw[e,NC (by lia)]
  .obtain⟨k,hk,rfl⟩:=RA.mp h;have z:=hl k hk;unfold lG at z;rw[ND (by lia)]at hs;have e:lo1 (k - 32)=k:=by unfold lo1;split<;>lia
   unfold GT;rw[e,ND hs.symm]
theorem IH{z:Str}{l:List Nat}(h:z.cps.toList=l):(⟨l.toArray⟩:Str)=z:=by subst h;cases z;simp
theorem xV{ks:List Nat}{ts:List ((Str×Str)×Addr)}{wi hi:Int}{hs:List Int}{row:Str}{sd s gl t:Int}(rl:(row.length:Int)=wi*hi)(s0:0<=s)(s1:s<row.length)(g0:0<=gl)(g1:gl<row.length)(ht:t= -1\/0<=t/\t<row.length):
  (vf ts wi hi row sd s gl t).cps.toList=((if 0<=t then(row.cps.toList.set s.toNat 46).set t.toNat 46 else row.cps.toList.set s.toNat 46).set gl.toNat (nP ts wi hi (row.cps.toList.getD s.toNat 0) sd gl)):=by
 have l1:=jR (c:=46) s0 s1;unfold vf
 rcases ht with rfl|⟨t0,t1⟩
 .rw[ND rfl,NC (by decide),iN g0 (by rw[l1];exact g1),iN s0 s1]
 .rw[NC (by lia),ND t0,iN g0 (by rw[jR t0 (by rw[l1];exact t1),l1];exact g1),iN t0 (by rw[l1];exact t1),iN s0 s1]
theorem DT{K:Frag}{h:NZ}{C:Addr}{bmB:List Value}{newId:String}(X:K.In h)(q:UP K C bmB newId=true):
  ∃bm N nm qn bs hdct sn sub ab col dd k0 k1 k2 k3 k5 mN,h.get? C=some (excClassObj nm qn C N bs bm hdct sn sub ab col dd k0 k1 k2 k3 k5 newId)/\h.Ns N mN/\mN "__init__"=none/\OwnTail h bmB bm:=by
 unfold UP at q;split at q
 .rename_i dd cd sl ho;split at q
  .rename_i C' bm k0 k1 k2 k3 n k5 hm hs;simp only[T6,beq_iff_eq,T9]at q;obtain⟨⟨⟨⟨⟨rfl,rfl⟩,hdel⟩,ht⟩,hok⟩,hni⟩:=q;obtain⟨nm,bs,mro,ns,qn,hd,sn,sub,ab,col,del⟩:=cd;dsimp only at hm hdel hok hni;subst hm hdel;have hsl:sl= #[k0,k1,k2,k3,some (.builtin n),k5]:=by obtain⟨l⟩:=sl;simp only at hs;rw[hs]
   subst hsl;exact⟨bm,ns,nm,qn,bs,hd,sn,sub,ab,col,dd,k0,k1,k2,k3,k5,_,X _ _ ho,.of_isNs (PySem.W.isNs_of_in X hok),PySem.W.nsMap_none_of_in X hok hni,PySem.W.tail_of_in X ht⟩
  .cases q
 .cases q
def IE(ta:TA)(G:Hp->Prop):TS:=λ_ σ H=>ta σ H λvs H1=>vs.length<=sizeLine/\G H1
theorem AS{X:Cx}{x:Str}{C:Addr}{e₀:N5}{rest:List N5}{np cpos pos:Px}{ta:TA}{G:Hp->Prop}{bmB:List Value}{B newId initId:String}(FB:ExcBaseFacts B newId initId bmB)(hc:X.calm=true)(hg:Gl X x)(hm:X.mg x=some (.ref C))
  (q:UP X.K C bmB newId=true) (ha:PA X (e₀::rest) ta)
  (hx:∀gV σ H s h' e vs,aM X gV σ H s->Heap.MadeExcOf s.heap h' e (.ref C) vs->G H->X.xe (.ref e) {s with heap:=h'})
  (he:NU (e₀::rest) X.env=(false,Om e₀ X.env)::NU rest X.env:=by rfl) (hpl:(Oh cpos (NU rest X.env)).any (·.1)=false:=by rfl) (hdb:(x == ("__debug__":Str))=false:=by decide):
  PS X (.Raise (some (.Call (.Name x np) (e₀::rest) [] cpos)) none pos) (IE ta G):=by
 intro gV s σ H D I h;obtain⟨tl,N,nm,qn,bs,hdct,sn,sub,ab,col,dd,k0,k1,k2,k3,k5,mN,hC,hN,hni,T⟩:=DT I.ok.mod.kin q;refine wpAny_Raise_call_subT (C:=C) (nm:=nm) (q:=qn) (N:=N) (bs:=bs) (bm:=tl) (hdct:=hdct) (sn:=sn) (sub:=sub) (ab:=ab) (col:=col) (dd:=dd) (k0:=k0) (k1:=k1) (k2:=k2) (k3:=k3) (k5:=k5)
  FB (mN:=mN) (T.hasType FB.hasBase) (I.ok.hd hc) (by rw[he];show(false||(Oh cpos (NU rest X.env)).any (·.1))=false;rw[hpl];rfl) hni (im I hg hm ⟨rfl,?_⟩ hdb)
 have h2:=ha cpos gV s σ H _ I h;rw[he]at h2 ⊢;refine OA (bU h2 λus s2 ⟨vs,H1,I1,r,z,g⟩=>?_);exact⟨rfl,by rw[<-r.length];exact z,I1.bk _ _ hC,hN.keeps I1.bk,T.keeps I1.bk,λh' e hm=>hx gV σ H1 s2 h' e us I1 hm g⟩
theorem bH.obj{P:NP}{w:NT}{H:Hp}{h:NZ}{a:Addr}{o:HO}(x:bH P w H h a o):∃u,h.get? a=some u:=by
 cases o with
 |lst xs=>obtain⟨_,_,_,_,e⟩:=x;exact⟨_,e⟩
 |tup xs=>obtain⟨_,_,_,o,e,_⟩:=x;exact⟨o,e⟩
 |dK kvs=>obtain⟨_,_,_,_,o,_,_,e,_⟩:=x;exact⟨o,e⟩
 |dT kvs=>obtain⟨_,_,_,_,o,_,_,e,_⟩:=x;exact⟨o,e⟩
 |set S n=>obtain⟨o,_,_,_,e,_⟩:=x;exact⟨o,e⟩
 |ins C dx fs=>obtain⟨_,_,_,e,_⟩:=x;exact⟨_,e⟩
 |own y=>exact x
 |xd fs=>obtain⟨_,⟨o,_,_,e,_⟩,_⟩:=x;exact⟨o,e⟩
 |rng lo hi=>obtain⟨_,_,_,e⟩:=x;exact⟨_,e⟩
 |frz ob u=>obtain⟨e,_⟩:=x;exact⟨_,e⟩
 |tbl ps=>exact⟨_,(show h.get? a=some _ from x)⟩
 |met f y=>exact⟨_,(show h.get? a=some _ from x)⟩
 |ext φ=>obtain⟨_,e,_⟩:=x;exact e
def HB(P:NP)(w:NT):wE:=λNz H s E e s'=>∃(a:Addr)(cls a0:Value)(B:NZ)(H':Hp),e=.ref a/\s'.os=s.os/\PD s'.gens/\s.heap.get? a=none/\H' a=none/\
 Heap.FlyingW B Nz a cls a0 s'.heap/\jC P w H' B/\Un (jA Nz) [] H H' s.heap s'.heap/\(∀b o,s.heap.get? b=some o->H b=none->b∉jA Nz->B.get? b=some o)/\
 (∀b o,s.heap.get? b=some o->b∉jA Nz->∃o',B.get? b=some o')/\E cls none H'
theorem sj{P:NP}{w:NT}{K:Frag}{mg:NH}{Ny:NZ}{N:List Str}{qual:Str}{scope:O0}{f:Addr}{cd:Value}{A:N1}{Nz:List QK}{s:NN}{H:Hp}{E:XK}{C:Addr}:
  ∀gV σ H1 s1 h' e vs,aM (mT (HB P w) P w K mg Ny N qual scope f cd A Nz s H E) gV σ H1 s1->Heap.MadeExcOf s1.heap h' e (.ref C) vs->E (.ref C) none H1->
   (mT (HB P w) P w K mg Ny N qual scope f cd A Nz s H E).xe (.ref e) {s1 with heap:=h'}:=by
 intro gV σ H1 s1 h' e vs I hm hE;have fr:(A.deeper (OU qual scope s.heap.objs.size f cd)).frames=some (OU qual scope s.heap.objs.size f cd::Nz):=I.ok.frames;have ST:s1.heap.FunFrames Ny (OU qual scope s.heap.objs.size f cd::Nz):=I.stack;have BU:Un (jA Nz) [] H H1 s.heap s1.heap:=I.Ny;have hin:∀env∈(OU qual scope s.heap.objs.size f cd::Nz),∀b,env.frame=some b->b∈jA (OU qual scope s.heap.objs.size f cd::Nz):=λenv he b hb=>R8.mpr ⟨env,he,hb⟩;have sub:∀b,b∈jA Nz->b∈jA (OU qual scope s.heap.objs.size f cd::Nz):=λb hb=>by obtain⟨env,he,hf⟩:=R8.mp hb;exact R8.mpr ⟨env,RF _ he,hf⟩
 have notin:∀b o,s.heap.get? b=some o->b∉jA Nz->b∉jA (OU qual scope s.heap.objs.size f cd::Nz):=λb o q nb hb=>by
  obtain⟨env,he,hf⟩:=R8.mp hb
  rcases RB.mp he with rfl|he
  .have:s.heap.objs.size=b:=Option.some.inj hf;rw[<-this]at q;exact NG (NQ q) (Tq _)
  .exact nb (R8.mpr ⟨env,he,hf⟩)
 show NS _ _ (leaving _ _) _ _ _;refine wpAny_leaves_madeW (base:=Vf s1.heap (jA (OU qual scope s.heap.objs.size f cd::Nz))) fr rfl (λb o q=>Vg _ q) (PySem.W.funFrames_hide ST hin) hm λh2 t x1 x2 x3 x4=>?_;have data:∀b o,s1.heap.get? b=some o->b∈jA Nz->∃sl,h2.get? b=some {o with slots:=sl}:=λb o q hb=>by obtain⟨_,o',q',nd⟩:=ST.mem (sub b hb);rw[q]at q';cases q';exact x4 b o (hm.keeps b o q) nd
 refine⟨e,_,_,_,H1,rfl,I.os,I.bare,?_,?_,x1,?_,⟨λb o q n hb hx=>?_,λb o q n hb hx=>?_,BU.free,λb o q hx=>?_,BU.tups,BU.frzs,BU.tbls⟩,λb o q n hb=>?_,λb o q hb=>?_,hE⟩
 .cases q:s.heap.get? e with
  |none=>rfl
  |some o=>
   obtain⟨o',q'⟩:=BU.there e o q (by simp);rw[hm.new]at q';cases q'
 .cases q:H1 e with
  |none=>rfl
  |some o=>
   obtain⟨o',q'⟩:=(I.hok e o q).obj;rw[hm.new]at q';cases q'
 .intro b o q;refine(I.hok b o q).stay (λc v hc z=>UK _ z λhb=>?_) (λ_ z=>z) λ_ _ z=>z;have fz:=I.stkFree c hb
  rcases hc with rfl|hc
  .rw[q]at fz;cases fz
  .rw[hc]at fz;cases fz
 .exact x1.1 b o (UK _ (BU.keep b o q n hb hx) (notin b o q hb))
 .obtain⟨sl,q1⟩:=BU.slot b o q n hb hx;obtain⟨sl',q2⟩:=data b _ q1 hb;exact⟨sl',q2⟩
 .obtain⟨o',q1⟩:=BU.there b o q hx
  by_cases hb:b∈jA Nz
  .obtain⟨sl,q2⟩:=data b _ q1 hb;exact⟨_,q2⟩
  .exact⟨o',x1.1 b o' (UK _ q1 (notin b o q hb))⟩
 .exact UK _ (BU.keep b o q n hb (by simp)) (notin b o q hb)
 .obtain⟨o',q1⟩:=BU.there b o q (by simp);exact⟨o',UK _ q1 (notin b o q hb)⟩
theorem bB.okX{P:NP}{w:NT}{K:Frag}{mg:NH}{Ny:NZ}{x qual:Str}{st:N6}{f:Addr}{fd:NV}{N ps:List Str}{k:Nat}{sp:Sp}(F:bB K x qual st f fd)(S:aG N ps (ao st))(len:∀vs H Q E,sp vs H Q E->vs.length=ps.length)
  (hbody:∀(cdv:Value)(A:N1)(Nz:List QK)(s:NN)(H:Hp)(vs:List V)(Q:VK)(E:XK),cI k (A.deeper (OU qual (ao st) s.heap.objs.size f cdv))->sp vs H Q E->
   ∃t,qN (mT (HB P w) P w K mg Ny N qual (ao st) f cdv A Nz s H E) (eE st) t/\t {nx:=λ_ H'=>Q .non H',rt:=Q} (start N vs) H):bg P w K mg Ny (HB P w) (k+1) f fd ps sp:=by
 obtain⟨oc,od,kV,doc,pm,an,cdv,ct,osl,rfl,lk,hcd⟩:=F.ex;exact Ho lk hcd S len λA Nz s H vs Q E hr hsp=>hbody cdv A Nz s H vs Q E hr hsp
section
variable{X:Cx}{gV:NJ}{σ:St}{H H':Hp}{s s':NN}
noncomputable abbrev Cx.hand(X:Cx)(e:Addr):Cx:={X with A:=X.A.mark (some (.ref e)),calm:=false}
theorem aM.hand(I:aM X gV σ H s)(e:Addr):aM (X.hand e) gV σ H s:=
 ⟨⟨I.ok.mod,I.ok.kind,I.ok.glob,I.ok.blt,I.ok.above,I.ok.inj,I.ok.has,I.ok.cab,λz=>(Bool.noConfusion z),I.ok.frames,I.ok.stk,I.ok.exf,I.ok.bs,I.ok.bsz,I.ok.noex,I.ok.exfs,I.ok.funs,I.ok.frf⟩,I.os,I.bare,I.Ny,I.loc,I.cell,I.free,I.freeC,I.pin,I.hok,I.len⟩
theorem aM.unhand{e:Addr}(ok:X.Ok)(I:aM (X.hand e) gV σ H s):aM X gV σ H s:=⟨ok,I.os,I.bare,I.Ny,I.loc,I.cell,I.free,I.freeC,I.pin,I.hok,I.len⟩
theorem aM.flown{a:Addr}{cls a0:Value}{B h5:NZ}(I:aM X gV σ H s)(os:s'.os=s.os)(bare:PD s'.gens)(ff:s'.heap.FunFrames B X.stack)(fl:B.StaysIn h5)(hok:jC X.prog X.w H' B)(un:Un (jA X.stack) [] H H' s.heap s'.heap)(u:s'.heap.UpToSlots h5)
  (c1:∀b o,s.heap.get? b=some o->H b=none->b∉jA X.stack->B.get? b=some o) (c2:∀b o,s.heap.get? b=some o->b∉jA X.stack->∃o',B.get? b=some o'):aM X gV σ H' {s' with heap:=h5}:=by
 refine I.call' (s':={s' with heap:=h5}) (ch:=[]) os ⟨λb o q n hb _=>fl b o (c1 b o q n hb),λb o q n hb hx=>?_,un.free,λb o q hx=>?_,un.tups,un.frzs,un.tbls⟩ (hok.kept fl) bare (λb z=>NG z (by simp))
 .obtain⟨sl,q1⟩:=un.slot b o q n hb hx;obtain⟨_,o',q',nd⟩:=ff.mem hb;rw[q1]at q';cases q';obtain⟨sl',q2⟩:=u b _ q1 nd;exact⟨sl',q2⟩
 .by_cases hb:b∈jA X.stack
  .obtain⟨_,o',q',nd⟩:=ff.mem hb;obtain⟨sl',q2⟩:=u b _ q' nd;exact⟨_,q2⟩
  .obtain⟨o',q'⟩:=c2 b o q hb;exact⟨o',fl b o' q'⟩
def Cv(cls:Value)(a:Addr):HO:=.ext λh=>∃o,h.get? a=some o/\o.cls=cls
theorem aM.track{a:Addr}{cls:Value}{s1:NN}{H1:Hp}(I:aM X gV σ H s)(ho:∃o,s.heap.get? a=some o/\o.cls=cls)(hn:H a=none)(I1:aM X gV σ H1 s1)(new:s1.heap.get? a=none):aM X gV σ (upd H a (Cv cls a)) s:=by
 have neq:∀b u,s1.heap.get? b=some u->b≠a:=λb u q z=>by rw[z,new]at q;cases q
 have neH:∀b u,H b=some u->b≠a:=λb u q z=>by rw[z,hn]at q;cases q
 refine⟨I.ok,I.os,I.bare,⟨I.Ny.keep,I.Ny.slot,λb o q n hx=>?_,I.Ny.there,λb xs q=>?_,λb o u q=>?_,λb ps q=>?_⟩,I.loc,I.cell,?_,λx c q=>?_,λp hp=>?_,λb u q=>?_,I.len⟩
 .obtain⟨o',q'⟩:=I1.Ny.there b o q hx;rw[av (neq b o' q')];exact I.Ny.free b o q n hx
 .rw[av (neH b _ (I.Ny.tups b xs q))];exact I.Ny.tups b xs q
 .rw[av (neH b _ (I.Ny.frzs b o u q))];exact I.Ny.frzs b o u q
 .obtain⟨m,z⟩:=I.Ny.tbls b ps q;exact⟨m,by rw[av (neH b _ z)];exact z⟩
 .obtain⟨m,⟨o,_,_,q,_⟩,_⟩:=I1.loc;rw[av (neq _ o q)];exact I.free
 .obtain⟨v,o,z,_⟩:=I1.cell x c q;rw[av (neq c o z)];exact I.freeC x c q
 .obtain⟨e,n,ne,nf,d⟩:=I.pin p hp;exact⟨e,by rw[av (neq _ _ (I1.pin p hp).1)];exact n,ne,nf,d⟩
 .by_cases hb:b=a
  .subst hb;rw[ah]at q;cases q;obtain⟨o,h1,h2⟩:=ho;exact⟨⟨o,h1,h2⟩,⟨o,h1⟩,λg1 g2 ⟨o',y1,y2⟩ k=>⟨o',k o' y1,y2⟩⟩
  .rw[av hb]at q;exact(I.hok b u q).stay (λ_ _ _ z=>z) (λc z=>by rw[av (neH c _ z)];exact z) λc xs z=>by rw[av (neH c _ z)];exact z
theorem aM.forget{h':NZ}{m':NH}{t':Nat}(I:aM X gV σ H s)(hn':h'.Ns X.env.locals m')(hs:Oz X.env.locals s.heap h'):aM X gV (List.replicate X.N.length none) H {s with heap:=h',toks:=t'}:=by
 obtain⟨m,hn,_⟩:=id I.loc;obtain⟨oL,_,_,hoL,_⟩:=id hn;have old:∀b o,X.s₀.heap.get? b=some o->h'.get? b=s.heap.get? b:=λb o e=>hs.2 b (Tk (To (NQ e) I.ok.above));refine⟨I.ok,I.os,I.bare,⟨λb o e n hb hx=>?_,λb o e n hb hx=>?_,I.Ny.free,λb o e hx=>?_,I.Ny.tups,I.Ny.frzs,I.Ny.tbls⟩,⟨_,hn',λj y v e1 e2 e3=>?_⟩,λy c e=>?_,I.free,I.freeC,λp hp=>?_,λb ob e=>?_,by simp⟩
 .exact(old b o e).trans (I.Ny.keep b o e n hb hx)
 .obtain⟨sl,e1⟩:=I.Ny.slot b o e n hb hx;exact⟨sl,(old b o e).trans e1⟩
 .obtain⟨o',e1⟩:=I.Ny.there b o e hx;exact⟨o',(old b o e).trans e1⟩
 .rw[S7]at e2;split at e2<;>cases e2
 .obtain⟨w',z⟩:=I.cell y c e;exact⟨w',z.sameBut hs (I.cne y c e)⟩
 .obtain⟨e,n,ne,nf,d⟩:=I.pin p hp;exact⟨(hs.2 p.1 ne).trans e,n,ne,nf,d⟩
 .refine(I.hok b ob e).stay (λc w' hc q=>(hs.2 c ?_).trans q) (λ_ q=>q) λ_ _ q=>q;rintro rfl;have fz:=I.free
  rcases hc with z|hc
  .rw[z,e]at fz;cases fz
  .rw[hc]at fz;cases fz
end
def GG(K:Frag)(C0:Addr)(sp:Sp)(i:Nat)(ta:TA)(ts:TS)(q:dq->St->VK):TS:=λD σ H=>ta σ H λvs H1=>sp vs H1 (q D σ) λcls _ H2=>UQ K cls (.ref C0)=some true/\
 ∀a,H2 a=none->ts {nx:=λ_ _=>False,rt:=D.rt} (σ.set i (some (.ref a))) (upd H2 a (Cv cls a))
structure Eg(P:NP)(w:NT)(K:Frag)(mg:NH)(Ny:NZ)(name:Str)(ps:List Str)(k:Nat)(sp:Sp):Prop where
 ex:∃f fd,bg P w K mg Ny (HB P w) k f fd ps sp/\mg name=some (.ref f)/\UF K (.ref f)=true/\gG K fd ps []
section
variable{X:Cx}{e:N5}{es:List N5}{ta:TA}{ts:TS}{p pos bpos np hpos tpos:Px}{sp:Sp}{k j i:Nat}{name xc n:Str}{ps:List Str}{C0:Addr}{b₀:N6}{suite:List N6}
theorem M8{gV:NJ}{σ:St}{H1:Hp}{s1 s':NN}{D:dq}{e:Value}{E:XK}(I1:aM X gV σ H1 s1)(hn:∀e s,X.xe e s->False)(hstk:X.stack=X.env::X.Nz)(hfr:X.env.frame=some X.env.locals)(hgc:Gl X xc)(hmc:X.mg xc=some (.ref C0))(hN:X.N.Nodup)(hi:X.N[i]? =some n)(hx:X.env.scope.names.lookup n=some .local)
  (hs:∀a,qN (X.hand a) (b₀::suite) ts) (z:HB X.prog X.w X.stack H1 s1 E e s')
  (hE:∀cls d H2,E cls d H2->UQ X.K cls (.ref C0)=some true/\∀a,H2 a=none->ts {nx:=λ_ _=>False,rt:=D.rt} (σ.set i (some (.ref a))) (upd H2 a (Cv cls a)))
  (hdb:(xc == ("__debug__":Str))=false):
  NS (NX X.prog X.w) X.A (noteFrame e X.env) (λ_ s₂=>NS (NX X.prog X.w) X.A (setFlight e none) (λ_ s₃=>NS (NX X.prog X.w) X.A (handleBy e X.env [.ExceptHandler (some (.Name xc np)) (some n) (b₀::suite) hpos]) (SP X gV D) X.xe s₃) X.xe s₂) X.xe s':=by
 obtain⟨a,cls,a0,B,H',rfl,os,bare,new,ha,fl,hok,un,c1,c2,hE'⟩:=z;obtain⟨hit,hts⟩:=hE _ _ _ hE';have ff:=fl.2.2.1;rw[hstk]at fl;refine wpAny_looks_onW (I1.ok.frames.trans (by rw[hstk])) hfr fl λh4 hl4 u4=>?_;refine wpAny_landsW hl4 λh5 fl5 u5=>?_;have I5:aM X gV σ H' {s' with heap:=h5}:=I1.flown (a:=a) (cls:=cls) (a0:=a0) os bare ff fl5.1 hok un (u4.trans u5) c1 c2;have J5:=I5.hand a;refine wpAny_handleBy_cons (codeAny_handlers_test (im (X:=X.hand a) J5 hgc hmc ?_ hdb)) (by intro q;cases q);have LT:PySem.W.Looks (NX X.prog X.w) h5 (Rp (.ref a)) cls:=by obtain⟨ob,hob,hc⟩:=fl5.there;subst hc;exact(PySem.W.Looks.ld hob).andThen .now
 refine(PySem.W.exm_one (h:=h5) I5.kIn LT hit).here ?_;refine codeAny_handlers_suite_as ?_;refine lands_againW fl5 λh6 fl6 u6=>?_;have I6:aM X gV σ H' {s' with heap:=h6}:=I1.flown (a:=a) (cls:=cls) (a0:=a0) os bare ff fl6.1 hok un ((u4.trans u5).trans u6) c1 c2;have I7:=I6.track (cls:=cls) fl6.there ha I1 new;refine lW (X:=X.hand a) (v:=.ref a) (I7.hand a) hN hi (.inl hx) rfl (λs7 I8=>?_) (.inr hx);refine Oq (hs a gV s7 _ _ _ I8 (hts a ha)) (λf s8 q=>?_) λ_ _ q=>(hn _ _ q).elim;cases f with
 |next=>obtain⟨_,_,_,q⟩:=q;exact q.elim
 |brk=>obtain⟨_,_,_,q⟩:=q;exact q.elim
 |cont=>obtain⟨_,_,_,q⟩:=q;exact q.elim
 |ret u=>
  obtain⟨v,σ',H8,J8,rv,q⟩:=q;have K8:=J8.unhand I1.ok;obtain⟨m,hm,_⟩:=K8.loc;refine wpAny_nameGoes hx hm (by rw[K8.ok.kind];rfl) λh9 m9 hm9 sb=>?_;exact⟨v,_,H8,K8.forget hm9 sb,rv,q⟩
theorem C8{f:Addr}{fd:NV}{CX:wE}{E:XK}{gV:NJ}{σ:St}{H:Hp}{s:NN}{Q:VK}{us:List Value}{vs:List V}{E':NI}(F:bg X.prog X.w X.K X.mg X.Ny CX k f fd ps sp)(hr:cI k X.A)(hb:gG X.K fd ps [])
  (I:aM X gV σ H s) (r:aZ vs us) (h:sp vs H Q E) (hx:∀e s',CX X.stack H s E e s'->E' e s'):NS (NX X.prog X.w) X.A (call (.ref f) us) (EP X gV σ Q) E' s:=by
 have hl:(us++[]).length=ps.length:=by rw[RP,<-r.length];exact F.len _ _ _ _ h
 have hb':=hb s us I.kIn hl;rw[RP]at hb';refine Pm (Ou (F.run X.A X.stack s H ⟨us,[]⟩ us vs Q E hr I.env0 hb' r h) λr s' hq=>?_);cases r with
 |error e=>exact hx e s' hq
 |ok fl=>
  cases fl with
  |ret u=>exact I.after hq
  |next=>exact False.elim hq
  |brk=>exact False.elim hq
  |cont=>exact False.elim hq
theorem Mx{gV:NJ}{σ:St}{H:Hp}{s:NN}{Q:VK}{E:XK}{E':NI}(C:Eg X.prog X.w X.K X.mg X.Ny name ps k sp)(hr:cI j X.A)(hkj:k<=j)(hn:∀e s,X.xe e s->False)(ha:PA X (e::es) ta)(I:aM X gV σ H s)(h:ta σ H λvs H1=>sp vs H1 Q E)
  (hx:∀H1 s1 e s',aM X gV σ H1 s1->HB X.prog X.w X.stack H1 s1 E e s'->E' e s') (hg:Gl X name) (hdb:(name == ("__debug__":Str))=false) (hp:(e::es).all eS=true):
  NS (NX X.prog X.w) X.A (Om (.Call (.Name name p) (e::es) [] pos) X.env) (EP X gV σ Q) E' s:=by
 obtain⟨f,fd,F,hm,hk,hb⟩:=C.ex;have hp':=hp;rw[RZ,T6]at hp';refine Ox (im I hg hm ?_ hdb);refine UO (h₀:=X.Ny) I.ok.mod.kin hk (Oq (ha pos gV s σ H _ I h) (λus s1 ⟨vs,H1,I1,r,q⟩=>⟨I1.kIn,?_⟩) λ_ _ z=>(hn _ _ z).elim) (dO hp'.1) (fU hp'.2);exact C8 F (hr.mono hkj) hb I1 r q λe s' z=>hx _ _ e s' I1 z
theorem Db(C:Eg X.prog X.w X.K X.mg X.Ny name ps k sp)(hr:cI j X.A)(hn:∀e s,X.xe e s->False)(ha:PA X (e::es) ta)(hmc:X.mg xc=some (.ref C0))(hN:X.N.Nodup)(hi:X.N[i]? =some n)(hs:∀a,qN (X.hand a) (b₀::suite) ts)
  (hkj:k<=j:=by decide) (hstk:X.stack=X.env::X.Nz:=by rfl) (hfr:X.env.frame=some X.env.locals:=by rfl) (hx:X.env.scope.names.lookup n=some .local:=by rfl) (hgc:Gl X xc:=by rfl) (hg:Gl X name:=by rfl)
  (hdb:(name == ("__debug__":Str))=false:=by decide) (hdc:(xc == ("__debug__":Str))=false:=by decide) (hp:(e::es).all eS=true:=by rfl) (hsw:Qq (.Call (.Name name p) (e::es) [] pos) none bpos.line X.env=pure false:=by rfl):
  PS X (.Try [.Expr (.Call (.Name name p) (e::es) [] pos) bpos] [.ExceptHandler (some (.Name xc np)) (some n) (b₀::suite) hpos] [] [] tpos) (GG X.K C0 sp i ta ts λD σ _ H2=>D.nx σ H2):=by
 intro gV s σ H D I h;refine wpAny_Try_except (Qn (wpAny_Expr_any (Oq (Mx C hr hkj hn ha I h (λH1 s1 e s' I1 z=>?_) hg hdb hp) (λv s1 ⟨_,H2,I2,_,z⟩=>OY (OY ⟨σ,H2,I2,z⟩)) λ_ _ z=>z) I.quiet hsw));exact M8 I1 hn hstk hfr hgc hmc hN hi hx hs z (λ_ _ _ z=>z) hdc
end
end L2
namespace PySem.W
open PySem PySem.Spec PySem.Calls PyProof.Rows Builtin Builtin.ObjectAttr Builtin.Getset_descriptor
structure ExcC(K:Frag)(D:Addr):Prop where
 ga:findIn K (.ref D) "__getattribute__"=some (some (.builtin "BaseException.__getattribute__"))
 gh:findIn K (.ref D) "__getattr__"=some none
 ha:findIn K (.ref D) "__class__"=some (some (.builtin "object.__class__"))
 hn:specialIn K (.builtin "object.__class__") "__get__"=some (some (.builtin "getset_descriptor.__get__"))
 htk:takesIn K (.builtin "object.__class__")=some true
 hm:mroIn K D (.type "object")=some true
 hb:mroIn K D (.type "BaseException")=some true
 hc:(clsIn K D).isSome=true
section
variable{prog:NP}{w:NT}{A:N1}{E:NI}{s:NN}{K:Frag}{x D:Addr}{o:Obj}
theorem ML{M:Ry}{h:NZ}(ho:h.get? x=some o)(hc:o.cls=.ref D):Looks M h (Rp (.ref x)) (.ref D):=hc▸(Looks.ld ho).andThen .now
theorem Ln{M:Ry}{h:NZ}(F:ExcC K D)(X:K.In h):Looks M h (find (.ref x) (.ref D) "__class__") (.bind (.builtin "getset_descriptor.__get__") (.builtin "object.__class__")):=
 (Rh X F.ha).andThen ((show Looks M h (getOf (some (.builtin "object.__class__"))) (some (.builtin "getset_descriptor.__get__"))from looks_specialIn X F.hn).andThen
  ((show Looks M h (dataDescriptor? (some (.builtin "object.__class__")) (some (.builtin "getset_descriptor.__get__"))) (some (.builtin "getset_descriptor.__get__",.builtin "object.__class__"))from(looks_takesIn X F.htk).andThen .now).andThen (Looks.tag .now)))
theorem wG{R:Ra->NN->Prop}{tp:Value}(F:ExcC K D)(X:K.In s.heap)(ho:s.heap.get? x=some o)(hc:o.cls=.ref D)(h:R (.ok (.ret (.ref D))) s):
  O7 (NX prog w) A (.call (.builtin "getset_descriptor.__get__") ⟨[.builtin "object.__class__",.ref x,tp],[]⟩) R s:=by
 obtain⟨hh,g,dr,t,os⟩:=s;have L0:=ML (M:=NX prog w) ho hc;have L1:=looks_mroIn (M:=NX prog w) X F.hm;refine Pd KF.slot_gs.plain KF.entry_gs (KF.slot_gs.check _ _ _ _ _ _ _ _ KF.type_class (KF.args_gs _ _ _) ?_);unfold OL.«getset_descriptor.__get__» descrGet;rw[dga_obj];refine NK (NL ?_);unfold descrGetter descrCheckInstance descrNameAndClass isInstance;simp only[KF.owner_class]
 repeat lk
 refine⟨P5 _ (by decide+kernel),Oc KF.entry_class ?_⟩;unfold OL.«object.__class__» shownTypeOf
 repeat lk
 first|exact h|(rw[hc];exact h)|skip
theorem Iw{M:Ry}{nameV:Value}{Q:Unit->NN->Prop}(F:ExcC K D)(X:K.In s.heap)(ho:s.heap.get? x=some o)(hc:o.cls=.ref D)(hq:Q () s):NS M A (Qs "BaseException.__getattribute__" ⟨[.ref x,nameV],[]⟩) Q E s:=by
 obtain⟨hh,g,dr,t,os⟩:=s;have L0:=ML (M:=M) ho hc;have L1:=looks_mroIn (M:=M) X F.hb;have LI:Looks M hh (isInstance (.ref x) (.type "BaseException")) true:=L0.andThen L1;have hk:builtinKind "BaseException.__getattribute__"=some .slot:=by decide+kernel
 have hsplit:splitId "BaseException.__getattribute__"=some ("BaseException","__getattribute__"):=by decide+kernel
 have ha:=PySem.F.args_bexc_ga (.ref x) nameV;simp only[Qs,hk,hsplit];refine NK (LI.at ?_)
 repeat (any_goals (first|assumption|wp_step))
theorem Iv{Q:Option Value->NN->Prop}(F:ExcC K D)(X:K.In s.heap)(ho:s.heap.get? x=some o)(hc:o.cls=.ref D)(h:Q (some (.ref D)) {s with toks:=s.toks+1}):NS (NX prog w) A (getAttr? (.ref x) "__class__") Q E s:=by obtain⟨hh,g,d,t,os⟩:=s;have L0:=ML (M:=NX prog w) ho hc;have L1:=Rh (M:=NX prog w) X F.ga;have L2:=Rh (M:=NX prog w) X F.gh;have L3:=Ln (M:=NX prog w) (x:=x) F X;unfold getAttr? getAttrBy? getAttrBy;refine NK (wpAny_mkText (NK (O3 (N4 (NK (L0.at (NK (L1.at ?_))))))));dsimp only;rw[NC (λz:(onTheHeap (NY D)&&(QZ "BaseException.__getattribute__" == QZ "object.__getattribute__"))=true=>NG (Ug.mp z).2 (by decide+kernel))];unfold getAttrByItsOwn hookBefore;rw[ND (show onTheHeap (NY D)=true from rfl)];refine NK (L2.at ?_);refine NK (O3 (N4 ?_));unfold callGetattribute;rw[NC (by decide)];unfold boundAndCalled;refine NK (Qa (PySem.F.attr_ValueError.ga.bind (.ref x)) ?_);refine Pm (Pd PySem.F.attr_ValueError.ga.plain PySem.F.entry_bexc_ga (Iw F X ho hc ?_));unfold OL.«object.__getattribute__»;refine NK (NL ?_);refine NK (NL ?_);refine NK (L0.at ?_);refine NK (L3.at ?_);show NS _ _ (Qc [_] (call (.builtin "getset_descriptor.__get__") [.builtin "object.__class__",.ref x,.ref D]) >>= ret) _ _ _;refine NK (N4 (Pm (wG (s:=⟨hh,g,d,t+1,os⟩) F X ho hc ?_)));refine NL ?_;exact handed_on rfl (NL h)
theorem kitx_exc(F:ExcC K D):KitX K (.ref x) (.ref D) (λh=>∃o,h.get? x=some o/\o.cls=.ref D) where
 ty:=λ_ _ _ ⟨o,ho,hc⟩=>ML ho hc
 it:=λ_ _ X _=>by
  obtain⟨cdD,hcD⟩:=Uw.mp F.hc;unfold clsIn at hcD;split at hcD
  .rename_i c' d' cd' sl' ho;intro A' Q' E' s' k q;unfold isType loadHead;exact NK (wpAny_loadPart (k _ _ (X _ _ ho)) (NL q))
  .cases hcD
 ne:=λh tp dd its n sl X htp=>by
  obtain⟨cdD,hcD⟩:=Uw.mp F.hc;refine Ui.mpr λq=>?_;have e:D=tp:=Value.ref.inj (beq_iff_eq.mp q);subst e;unfold clsIn at hcD;split at hcD
  .rename_i c' d' cd' sl' ho;have z:=(X _ _ ho).symm.trans htp;cases z
  .cases hcD
 ca:=λX ⟨o,ho,hc⟩ k=>Iv F X ho hc k
end
end PySem.W
namespace L2
open PySem PySem.Spec PyProof.Rows
section
variable{X:Cx}{a b e o:N5}{ta tb te to:TE}{p pos:Px}{es:List N5}{t:TA}
def Nf(K:Frag):List V->Hp->VK->Prop:=λvs H Q=>∃(a D:Addr)(y:V)(cv:Value)(b:Bool),vs=[.ref a,y]/\(∀u,aV y u->u=cv)/\H a=some (Cv (.ref D) a)/\PySem.W.ExcC K D/\UB K (.ref D) cv=some b/\Q (.bl b) H
theorem cU(K:Frag)(hK:X.K=K:=by rfl):bn X (.builtin "isinstance") (Nf K):=by subst hK;intro gV s σ H xs us Q I r h;obtain⟨a,D,y,cv,b,rfl,hy,ha,F,hb,q⟩:=h;obtain⟨u,v,rfl,ru,rv⟩:=r.two;cases ru;cases hy v rv;have hx:bH X.prog X.w H s.heap a (.ext λh=>∃o,h.get? a=some o/\o.cls=.ref D):=I.hok a _ ha;obtain⟨p,_,_⟩:=hx;exact UD (PySem.W.kitx_exc F) I.kIn p hb (λz=>nomatch z) λtk=>⟨.bl b,H,I.tok tk,rfl,q⟩
theorem mV{x:V}:∀{xs:List V}{us:List Value},aZ xs us->xs.all flatV=true->us.countP (sJ x)=xs.countP λy=>eqV y x
 |_,_,.nil,_=>rfl
 |y::xs,u::us,.cons r t,f=>by rw[RZ,T6]at f;rw[List.countP_cons,List.countP_cons,uP r f.1,mV t f.2]
def MB(to te:TE):TE:=λσ H Q=>to σ H λx H1=>match x with
 | .ref l=>(∃xs,H1 l=some (.lst xs))/\te σ H1 λy H2=>∃xs,H2 l=some (.lst xs)/\flatV y=true/\xs.all flatV=true/\Q (.int (xs.countP λz=>eqV z y:Nat)) H2
 |_=>False
theorem A9:Nt X "list.count" (λx vs H Q=>∃l xs y,x=.ref l/\vs=[y]/\H l=some (.lst xs)/\flatV y=true/\xs.all flatV=true/\Q (.int (xs.countP λz=>eqV z y:Nat)) H):=by intro gV s σ H x vs v us Q I rx rv h;obtain⟨l,xs,y,rfl,rfl,hH,fy,fx,q⟩:=h;cases rx;obtain⟨u,rfl,ru⟩:=rv.one;obtain⟨z,its,n,r,hl,e⟩:=I.lstM hH;refine Qx F.slot_list_count ⟨_,e,rfl⟩ F.entry_list_count (F.args_list_count_2 _ _) (SeqAt.list_countAt l its.toArray n none #[] u (sJ y)) ⟨e,λw hw=>hU ru fy r fx w (by simpa using hw),?_⟩;rw[show its.toArray.toList=its from rfl,mV r fx];exact⟨.int (xs.countP λz=>eqV z y:Nat),H,I.tok _,⟨_,rfl⟩,q⟩
theorem J4{apos cpos:Px}(ho:PE X o to)(he:PE X e te)(hbase:Ot o "count" X.env (Om o X.env)=Om o X.env:=by rfl)
  (hfew:((Oh cpos (NU [e] X.env)).all (λx=> !x.1)&&(P1 cpos (Pc [] X.env)).all (λx=>x.1.isSome)
   &&decide ([e].length+([]:List Ph).length+(if([]:List Ph).isEmpty then 0 else 1)<30))=true:=by rfl)
  (hline:(apos.endLine == cpos.line)=true:=by rfl) (hs:NU [e] X.env=(false,Om e X.env)::NU [] X.env:=by rfl) (hplain:(Oh cpos (NU [] X.env)).any (·.1)=false:=by rfl):
  PE X (.Call (.Attribute o "count" apos) [e] [] cpos) (MB to te):=by
 intro gV s σ H Q I h;refine OF hbase hfew hline rfl (bU (ho gV s σ H _ I h) λv s1 ⟨x,H1,I1,r1,q1⟩=>?_);cases x with
 |ref l=>
  obtain⟨⟨xs0,e0⟩,q1⟩:=q1;have ty:IA X.K "list" (.ref l) H1:=.inl ⟨rfl,xs0,aY.of e0⟩;obtain⟨h1,h2⟩:=ko I1 r1 ty;refine⟨"list","list.count",PySem.F.plainAttrs_list,PySem.F.slot_list_count,PySem.F.type_list_count,h1,h2,?_⟩;have hA:=(pa_cons he pa_nil hs:PA X [e] (bx te df)) cpos gV s1 σ H1 (λvs H2=>∃y,vs=[y]/\∃xs,H2 l=some (.lst xs)/\flatV y=true/\xs.all flatV=true/\Q (.int (xs.countP λz=>eqV z y:Nat)) H2) I1 (by
   show te σ H1 λy H2=>∃y',[y]=[y']/\_;have:(λ(y:V)(H2:Hp)=>∃xs,H2 l=some (.lst xs)/\flatV y=true/\xs.all flatV=true/\Q (.int (xs.countP λz=>eqV z y:Nat)) H2)=λy H2=>∃y',[y]=[y']/\∃xs,H2 l=some (.lst xs)/\flatV y'=true/\xs.all flatV=true/\Q (.int (xs.countP λz=>eqV z y':Nat)) H2:=by
    funext y H2;apply propext
    constructor
    .intro z;exact⟨y,rfl,z⟩
    .rintro⟨y',e,z⟩;have:y=y':=by injection e
     subst this;exact z
   rw[<-this];exact q1)
  rw[hs]at hA ⊢;refine Ow (by show(false||(Oh cpos (NU [] X.env)).any (·.1))=false;rw[hplain]<;>rfl) (OA ?_)
  exact bU hA λus s2 ⟨vs,H2,I2,r2,y,e,xs,q3,q4,q5,q6⟩=>A9 gV s2 σ H2 _ vs v us Q I2 r1 r2 ⟨l,xs,y,rfl,e,q3,q4,q5,q6⟩
 |_=>exact q1.elim
structure lw(k:Nat)(A:N1):Prop where
 dp:A.depth+3*k+5<PY
 un:A.units+16*k+200<OH
theorem cI.n{k:Nat}{A:N1}(r:cI k A)(v:Option Value):lw k (A.mark v):=⟨r.dp,r.un⟩
structure Nw(P:NP)(w:NT)(K:Frag)(mg:NH)(Ny:NZ)(k:Nat)(f:Addr)(fd:NV)(ps:List Str)(sp:Sp):Prop where
 len:∀vs H Q E,sp vs H Q E->vs.length=ps.length
 run:∀(A:N1)(Nz:List QK)(s:NN)(H:Hp)(args:Args)(us:List Value)(vs:List V)(Q:VK),lw k A->qP P w K mg Ny A Nz s H->QT s fd args (ps.zip us)->aZ vs us->sp vs H Q E0->
  O7 (NX P w) A (.call (.ref f) args) (CR cV Nz P w H s Q E0) s
abbrev Cx.uncalm(X:Cx)(A:N1):Cx:={X with A:=A,calm:=false}
theorem aM.uncalm{X:Cx}{gV:NJ}{σ:St}{H:Hp}{s:NN}(I:aM X gV σ H s){A:N1}(hA:A.frames=some X.stack):aM (X.uncalm A) gV σ H s:=
 ⟨⟨I.ok.mod,I.ok.kind,I.ok.glob,I.ok.blt,I.ok.above,I.ok.inj,I.ok.has,I.ok.cab,λz=>(Bool.noConfusion z),hA,I.ok.stk,I.ok.exf,I.ok.bs,I.ok.bsz,I.ok.noex,I.ok.exfs,I.ok.funs,I.ok.frf⟩,I.os,I.bare,I.Ny,I.loc,I.cell,I.free,I.freeC,I.pin,I.hok,I.len⟩
noncomputable abbrev Nk(P:NP)(w:NT)(K:Frag)(mg:NH)(Ny:NZ)(N:List Str)(qual:Str)(scope:O0)(f:Addr)(cd:Value)(A:N1)(Nz:List QK)(s:NN)(H:Hp):Cx:=
 ((mT cV P w K mg Ny N qual scope f cd {A with handled:=none} Nz s H E0).uncalm (A.deeper (OU qual scope s.heap.objs.size f cd))).nox
theorem bB.okN{P:NP}{w:NT}{K:Frag}{mg:NH}{Ny:NZ}{x qual:Str}{st:N6}{f:Addr}{fd:NV}{N ps:List Str}{k:Nat}{sp:Sp}(F:bB K x qual st f fd)(S:aG N ps (ao st))(len:∀vs H Q E,sp vs H Q E->vs.length=ps.length)
  (hbody:∀(cdv:Value)(A:N1)(Nz:List QK)(s:NN)(H:Hp)(vs:List V)(Q:VK),lw k (A.deeper (OU qual (ao st) s.heap.objs.size f cdv))->sp vs H Q E0->
   ∃t,qN (Nk P w K mg Ny N qual (ao st) f cdv A Nz s H) (eE st) t/\t {nx:=λ_ H'=>Q .non H',rt:=Q} (start N vs) H):Nw P w K mg Ny (k+1) f fd ps sp:=by
 obtain⟨oc,od,kV,doc,pm,an,cdv,ct,osl,rfl,lk,hcd⟩:=F.ex;refine⟨len,λA Nz s H args us vs Q hr e0 hb r hsp=>?_⟩;have hl:=len _ _ _ _ hsp;have KX:K.In s.heap:=e0.mod.kin.keeps λb o e=>(e0.bs b o e).1;have lim:s.heap.NoLimit:=e0.mod.nolimit.keeps λb o e=>(e0.bs b o e).1;have hkind:∀y∈ps.zip us,(ao st).names.lookup y.1=some .local\/((ao st).names.lookup y.1=some .cell/\((Rt (s.heap.objs.size+1) (ao st).names []).lookup y.1).isSome=true):=λ⟨n,v⟩ hy=>by
  rcases S.par n (Sy hy).1 with q|q
  .exact .inl q
  .exact .inr ⟨q,U1 _ _ _ (.inl q)⟩
 have hdp:A.depth<PY:=by have:=hr.dp;lia
 refine QI hdp (KX _ _ lk) rfl S.co S.gen rfl (Vm KX hcd) (hb _ _ _ _ ?_);refine PP S.kind hkind λenv he s1 x=>?_;subst he;refine⟨lim.keeps x.toInCall.keep,codeAny_func ?_⟩;have hr':lw k (A.deeper (OU qual (ao st) s.heap.objs.size f cdv)):=⟨by have:=hr.dp;show A.depth+1+3*k+5<_;lia,by have:=hr.un;show A.units+3+16*k+200<_;lia⟩;obtain⟨t,ht,hq⟩:=hbody cdv A Nz s H vs Q hr' hsp;have e0':qP P w K mg Ny {A with handled:=none} Nz s H:=⟨e0.frames,e0.mod,e0.bs,e0.bsz,e0.funs,e0.frf,e0.hok,e0.bare⟩;have I0:aM (mT cV P w K mg Ny N qual (ao st) f cdv {A with handled:=none} Nz s H E0) [] (start N vs) H s1:=oC S rfl e0' hl r x;have I:aM (Nk P w K mg Ny N qual (ao st) f cdv A Nz s H) [] (start N vs) H s1:=(I0.uncalm (Around.frames_deeper e0.frames)).wish _;refine Oq (ht [] s1 (start N vs) H _ I hq) (λfl s' hs=>?_) λe s' hs=>hs.elim;have fin:∀{σ':St}{H':Hp}{v:V}{u:Value},aM (Nk P w K mg Ny N qual (ao st) f cdv A Nz s H) [] σ' H' s'->aV v u->Q v H'->CE Nz P w H s Q u s':=
  λ{σ' H' v u} J rv q=>⟨v,H',J.os,J.bare,J.Ny,J.hok,rv,q⟩
 cases fl with
 |ret u=>
  obtain⟨v,σ',H',J,rv,q⟩:=hs;exact fin J rv q
 |next=>
  obtain⟨σ',H',J,q⟩:=hs;exact fin (v:=V.non) (u:=OE) J rfl q
 |brk=>
  obtain⟨_,_,_,q⟩:=hs;exact False.elim q
 |cont=>
  obtain⟨_,_,_,q⟩:=hs;exact False.elim q
structure Ku(P:NP)(w:NT)(K:Frag)(mg:NH)(Ny:NZ)(name:Str)(ps:List Str)(k:Nat)(sp:Sp):Prop where
 ex:∃f fd,Nw P w K mg Ny k f fd ps sp/\mg name=some (.ref f)/\UF K (.ref f)=true/\gG K fd ps []
theorem JE{name:Str}{ps:List Str}{k j:Nat}{sp:Sp}(C:Ku X.prog X.w X.K X.mg X.Ny name ps k sp)(hr:lw j X.A)(ha:PA X (e::es) t)(hkj:k<=j:=by decide)(hp:(e::es).all eS=true:=by rfl)(hg:Gl X name:=by rfl)(hdb:(name == ("__debug__":Str))=false:=by decide):PE X (.Call (.Name name p) (e::es) [] pos) (fH sp t):=by
 obtain⟨f,fd,F,hm,hk,hb⟩:=C.ex;have hp':=hp;rw[RZ,T6]at hp';intro gV s σ H Q I h;refine Ox (im I hg hm ?_ hdb);refine UO (h₀:=X.Ny) I.ok.mod.kin hk (bU (ha pos gV s σ H _ I h) λus s1 ⟨vs,H1,I1,r,q⟩=>⟨I1.kIn,?_⟩) (dO hp'.1) (fU hp'.2);have hl:(us++[]).length=ps.length:=by rw[RP,<-r.length];exact F.len _ _ _ _ q
 have hb':=hb s1 us I1.kIn hl;rw[RP]at hb';have hrk:lw k X.A:=⟨by have:=hr.dp;lia,by have:=hr.un;lia⟩;refine Pm (Ou (F.run X.A X.stack s1 H1 ⟨us,[]⟩ us vs Q hrk I1.env0 hb' r q) λr s' hq=>?_);cases r with
 |error e=>exact False.elim hq
 |ok fl=>
  cases fl with
  |ret u=>exact I1.after hq
  |next=>exact False.elim hq
  |brk=>exact False.elim hq
  |cont=>exact False.elim hq
end
theorem nO:N2 "ValueError"=some (.type "ValueError"):=by decide+kernel
section
variable{X:Cx}{a b:N5}{ta tb:TE}{pos:Px}
def GX:R2:=λx y H Q=>∃(a b:Addr)(xs ys:List V),x=.ref a/\y=.ref b/\H a=some (.tup xs)/\H b=some (.tup ys)/\xs.length+ys.length<=sizeLine/\∀p H',ak H H'->H' p=some (.tup (xs++ys))->Q (.ref p) H'
theorem Do:iD X (OZ .Add) GX:=by
 intro gV s σ H x y v u Q I rx ry h;obtain⟨a,b,xs,ys,rfl,rfl,ha,hb,hz,q⟩:=h
 by_cases hx:xs=[]
 .subst hx;cases rx;cases ry;obtain⟨its,r1,p1,_⟩:=I.tuple (cr.of (K:=X.K) ha);obtain⟨its2,r2,p2,_⟩:=I.tuple (cr.of (K:=X.K) hb);cases r1;obtain⟨⟨cls,dd,data,sl⟩,ho,hc,n,hd⟩:=p1;obtain⟨⟨cls2,dd2,data2,sl2⟩,ho2,hc2,n2,hd2⟩:=p2;simp only at hc hd hc2 hd2;subst hc hd hc2 hd2;exact Ri ⟨_,ho,rfl⟩ ⟨_,ho2,rfl⟩ Qr QX PySem.F.slot_tuple_add PySem.F.entry_tuple_add (PySem.F.args_tuple_add_2 _ _)
   (tuple_addW0 a b #[] its2.toArray n n2 dd dd2 sl sl2 rfl) ⟨ho,ho2,⟨.ref b,H,I,rfl,q b H (ak.refl H) hb⟩⟩
 .exact Dm gV s σ H _ _ v u Q I rx ry ⟨a,b,xs,ys,rfl,rfl,cr.of ha,cr.of hb,hx,hz,λe=>q a H (ak.refl H) (by rw[e,RP];exact ha),λ_ p hp=>q p _ ((ak.refl H).upd hp) ah⟩
theorem Hi(ha:PE X a ta)(hb:PE X b tb):PE X (.BinOp a .Add b pos) (Lu GX ta tb):=GZ Do ha hb
end
structure HA(K:Frag)(cB cG:Addr)(H:Hp)(g b kq p mv:Addr)(row:Str)(sd wi hi:Int)(hs:List Int)(ks:List Nat)(us:List (aP×Addr))(ts es:List ((Str×Str)×Addr))(st:Str)(k:List Int)(m:List (List Int)):Prop where
 gs:jq K cB cG H g b kq wi hi hs ks us ts es st
 pl:cr K H p [.str row,.int sd]
 tv:H mv=some (.tup (k.map V.int))
 rk:Cp wi hi hs ks row
 mvs:jB wi hi hs row us sd (sqsOf row sd) m
theorem HA.same{K:Frag}{cB cG:Addr}{H H':Hp}{g b kq p mv:Addr}{row:Str}{sd wi hi:Int}{hs:List Int}{ks:List Nat}{us:List (aP×Addr)}{ts es:List ((Str×Str)×Addr)}{st:Str}{k:List Int}{m:List (List Int)}
  (h:HA K cB cG H g b kq p mv row sd wi hi hs ks us ts es st k m) (s:ak H H'):HA K cB cG H' g b kq p mv row sd wi hi hs ks us ts es st k m:=⟨h.gs.same s,s.tupY h.pl,s _ _ h.tv,h.rk,h.mvs⟩
def AF(K:Frag)(cB cG:Addr):Sp:=λvs H Q _=>∃(g b kq p mv:Addr)(row:Str)(sd wi hi:Int)(hs:List Int)(ks:List Nat)(us:List (aP×Addr))(ts es:List ((Str×Str)×Addr))(st:Str)(k:List Int)(m:List (List Int)),vs=[.ref g,.ref p,.ref mv]/\HA K cB cG H g b kq p mv row sd wi hi hs ks us ts es st k m/\k∈m/\
 ∀(q:Addr)(H':Hp),H q=none->H' q=some (.tup [.str (Kg ts wi hi row sd k).1,.int (1 - sd)])->ak H H'->Q (.ref q) H'
def vK(K:Frag)(cB cG cN:Addr):Sp:=λvs H _ E=>∃(g b kq p mv:Addr)(row:Str)(sd wi hi:Int)(hs:List Int)(ks:List Nat)(us:List (aP×Addr))(ts es:List ((Str×Str)×Addr))(st:Str)(k:List Int)(m:List (List Int)),vs=[.ref g,.ref p,.ref mv]/\HA K cB cG H g b kq p mv row sd wi hi hs ks us ts es st k m/\¬k∈m/\
 ∀(H':Hp),ak H H'->E (.ref cN) none H'
def AC(K:Frag)(cB cG:Addr):Sp:=λvs H Q _=>∃(g b kq p mv:Addr)(row:Str)(sd wi hi:Int)(hs:List Int)(ks:List Nat)(us:List (aP×Addr))(ts es:List ((Str×Str)×Addr))(st:Str)(k:List Int)(m:List (List Int)),vs=[.ref g,.ref p,.ref mv]/\HA K cB cG H g b kq p mv row sd wi hi hs ks us ts es st k m/\¬k∈m/\
 ∀(H':Hp),ak H H'->Q (.bl true) H'
def pr(K:Frag)(cB cG:Addr):Sp:=λvs H Q _=>∃(g b kq p mv:Addr)(row:Str)(sd wi hi:Int)(hs:List Int)(ks:List Nat)(us:List (aP×Addr))(ts es:List ((Str×Str)×Addr))(st:Str)(k:List Int)(m:List (List Int)),vs=[.ref g,.ref p,.ref mv]/\HA K cB cG H g b kq p mv row sd wi hi hs ks us ts es st k m/\k∈m/\
 ∀(H':Hp),ak H H'->Q (.bl true) H'
def GJ:Sp:=λvs H Q _=>∃(f:Addr)(c z:Int)(ps:List (List Int×Addr)),vs=[.ref f,.int c,.int z]/\H f=some (.lst (kRefs ps))/\Cr H ps/\(∀p∈ps,p.1.length=3)/\0<z/\
 ∀(t:Addr)(k:List Int)(H':Hp),H' t=some (.tup (k.map V.int))->ak H H'->Q (.ref t) H'
def vL(D:Addr):Sp:=λvs H Q _=>∃a,vs=[.ref a]/\H a=some (Cv (.ref D) a)/\∀H',ak H H'->Q (.bl true) H'
structure AlC(mg:NH)(K:Frag)(D:Addr)(b1 b2 b3 b4 b5 b6 b7 b8 b9:Bool):Prop where
 x:PySem.W.ExcC K D
 f1:∃c,mg "BadBoard"=some (.ref c)/\UB K (.ref D) (.ref c)=some b1
 f2:∃c,mg "BadGame"=some (.ref c)/\UB K (.ref D) (.ref c)=some b2
 f3:∃c,mg "BadLine"=some (.ref c)/\UB K (.ref D) (.ref c)=some b3
 f4:∃c,mg "BadPlace"=some (.ref c)/\UB K (.ref D) (.ref c)=some b4
 f5:∃c,mg "NoMove"=some (.ref c)/\UB K (.ref D) (.ref c)=some b5
 f6:∃c,mg "TooWide"=some (.ref c)/\UB K (.ref D) (.ref c)=some b6
 f7:∃c,mg "NoWord"=some (.ref c)/\UB K (.ref D) (.ref c)=some b7
 f8:∃c,mg "Over"=some (.ref c)/\UB K (.ref D) (.ref c)=some b8
 f9:∃c,mg "NothingBack"=some (.ref c)/\UB K (.ref D) (.ref c)=some b9
 v:UB K (.ref D) (.type "ValueError")=some true
 one:([V.bl b1,.bl b2,.bl b3,.bl b4,.bl b5,.bl b6,.bl b7,.bl b8,.bl b9].countP λz=>eqV z (.bl true))=1
theorem uW{K:Frag}{D:Addr}{v:Value}{b:Bool}(h:UN K D v=some b):(PySem.W.clsIn K D).isSome=true:=by
 unfold UN at h;cases e:PySem.W.clsIn K D with
 |none=>rw[e]at h;cases h
 |some _=>rfl
theorem vQ{c:Addr}:∀u,aV (.ref c) u->u=.ref c:=λ_ h=>h
theorem IU{n:String}:∀u,aV (.ty n) u->u=.type n:=λ_ h=>h
theorem uO{K:Frag}{σ:St}{H:Hp}{t:TA}{a D:Addr}{y:V}{cv:Value}{b:Bool}(h:Av t σ H [.ref a,y])(hy:∀u,aV y u->u=cv)(ha:H a=some (Cv (.ref D) a))(F:PySem.W.ExcC K D)(hb:UB K (.ref D) cv=some b):Ev (cB (Nf K) t) σ H (.bl b):=λQ q=>h _ ⟨a,D,y,cv,b,rfl,hy,ha,F,hb,q⟩
theorem lw.hu{k:Nat}{A:N1}(r:lw k A):A.units+20<OH:=by have:=r.un;lia
theorem JX{K:Frag}{H:Hp}{n:Nat}{a b:Addr}{z:Str}{i:Int}(ha:H a=some (.tup [.str z,.int i]))(hb:H b=some (.tup [.str z,.int i])):x6 K H (n+1) (.ref a) (.ref b) true:=by
 have h:x6 K H (n+1) (.ref a) (.ref b) ((List.range (min 2 2)).all (λj=>if j=0 then eqV (.str z) (.str z)else eqV (.int i) (.int i))&&2 == 2):=.tup (cr.of ha) (cr.of hb) λj v v' h1 h2=>by
  match j,h1,h2 with
  |0,h1,h2=>cases h1;cases h2;exact .flat rfl rfl
  |1,h1,h2=>cases h1;cases h2;exact .flat rfl rfl
 have e1:eqV (.str z) (.str z)=true:=NA rfl;have e2:eqV (.int i) (.int i)=true:=NA rfl;have ee:((List.range (min 2 2)).all (λj=>if j=0 then eqV (.str z) (.str z)else eqV (.int i) (.int i))&&2 == 2)=true:=by show((if 0=0 then eqV (.str z) (.str z)else eqV (.int i) (.int i))&&((if 1=0 then eqV (.str z) (.str z)else eqV (.int i) (.int i))&&true)&&true)=true;rw[e1,e2];rfl
 rwa[ee]at h
theorem J2(F:List Int)(lo hi:Option Int):∃ss:List Int,cutV (F.map V.int) lo hi=ss.map V.int/\ss.length<=F.length:=by
 refine⟨(F.drop (HT.sIx (F.map V.int).length 0 lo)).take (HT.sIx (F.map V.int).length (F.map V.int).length hi - HT.sIx (F.map V.int).length 0 lo),?_,?_⟩
 .unfold cutV;rw[SJ,List.map_drop]
 .rw[RV,Sj];lia
theorem j4{xs:List V}{lo hi:Option Int}{x:V}(h:x∈cutV xs lo hi):x∈xs:=SW (Ss h)
theorem GQ{K:Frag}{te:TE}{tl th:TO}{σ:St}{H:Hp}{Q:VK}(h:te σ H λx H1=>tl σ H1 λl H2=>th σ H2 λu H3=>MO K x l u H3 Q):My K te tl th σ H Q:=h
theorem D1{K:Frag}{tl:TE}{g:TG}{tt:TT}{te:TE}{src:List (Option Nat)}{σ:St}{H:Hp}{Q:VK}(q:tl σ H λx H2=>∃a,x=.ref a/\(∃xs,aY K H2 a xs)/\eG g tt te src σ Q (Ee K a) H2):tComp (oE K tl) g tt te src σ H Q:=q
theorem tI{K:Frag}{op:O8}{ta tb:TE}{σ:St}{H:Hp}{R:Bool->Hp->Prop}(h:ta σ H λx H1=>tb σ H1 λy H2=>MT K op x y H2 (cL R)):ia (Ka K op ta tb) σ H R:=h
theorem Lp{K:Frag}{C0:Addr}{sp:Sp}{i:Nat}{ta:TA}{ts u:TS}{q0:dq->St->VK}{D:dq}{σ:St}{H:Hp}{vs:List V}(h:Av ta σ H vs)(q:sp vs H (q0 {D with nx:=u D} σ) λcls _ H2=>UQ K cls (.ref C0)=some true/\
  ∀a,H2 a=none->ts {nx:=λ_ _=>False,rt:=D.rt} (σ.set i (some (.ref a))) (upd H2 a (Cv cls a))):bp (GG K C0 sp i ta ts q0) u D σ H:=h _ q
theorem Ck{u:TT}{σ:St}{H:Hp}{R:Bool->Hp->Prop}(h:R false H):cL (λc H1=>if c=true then u σ H1 R else R false H1) (.bl (!true)) H:=by show if(!true)=true then u σ H R else R false H;rw[NC (by decide)];exact h
theorem Cj{u:TT}{σ:St}{H:Hp}{R:Bool->Hp->Prop}(h:u σ H R):cL (λc H1=>if c=true then u σ H1 R else R false H1) (.bl (!false)) H:=by show if(!false)=true then u σ H R else R false H;rw[ND (by decide)];exact h
theorem LK{tb:TE}{σ:St}{H:Hp}{Q:VK}(h:Q (.bl true) H):cL (λc H1=>if c=true then Q (.bl true) H1 else tb σ H1 Q) (.bl true) H:=by show if true=true then Q (.bl true) H else tb σ H Q;rw[ND rfl];exact h
theorem LL{tb:TE}{σ:St}{H:Hp}{Q:VK}(h:tb σ H Q):cL (λc H1=>if c=true then Q (.bl true) H1 else tb σ H1 Q) (.bl false) H:=by show if false=true then Q (.bl true) H else tb σ H Q;rw[NC (by decide)];exact h
theorem LJ{ta tb:TE}{σ:St}{H:Hp}{Q:VK}(h:ta σ H (cL λc H1=>if c=true then Q (.bl true) H1 else tb σ H1 Q)):J7 ta tb σ H Q:=h
theorem G0{r:R2}{ta tb:TE}{σ:St}{H:Hp}{Q:VK}(h:ta σ H λx H1=>tb σ H1 λy H2=>r x y H2 Q):Lu r ta tb σ H Q:=h
theorem GR{K:Frag}{te:TE}{tl th:TO}{σ:St}{H:Hp}{Q:VK}{a:Addr}{xs:List V}{lo hi:Option Int}(ha:Ev te σ H (.ref a))(hl:∀Q:Option Int->Hp->Prop,Q lo H->tl σ H Q)(hh:∀Q:Option Int->Hp->Prop,Q hi H->th σ H Q)(hx:cr K H a xs)
  (hw:¬(HT.sIx xs.length 0 lo=0/\HT.sIx xs.length xs.length hi=xs.length)) (q:∀p,H p=none->Q (.ref p) (upd H p (.tup (cutV xs lo hi)))):MZ (IY K) te tl th σ H Q:=ha _ (hl _ (hh _ ⟨a,xs,rfl,hx,hw,q⟩))
theorem uI{v:V}{l:List Int}(h:v∈l.map V.int):∃n,v=.int n:=by obtain⟨n,_,e⟩:=RA.mp h;exact⟨n,e.symm⟩
def xY(H:Hp)(ys:List V):Prop:= ∀y∈ys,∃(t:Addr)(k:List Int),y=.ref t/\H t=some (.tup (k.map V.int))
theorem xY.same{H H':Hp}{ys:List V}(h:xY H ys)(s:∀(t:Addr)(xs:List V),H t=some (.tup xs)->H' t=some (.tup xs)):xY H' ys:=λy hy=>by obtain⟨t,k,e,h⟩:=h y hy;exact⟨t,k,e,s _ _ h⟩
end L2
seal L2.PE L2.PT L2.PA L2.PS L2.qN L2.PG L2.Ky L2.PI L2.PO L2.tf L2.PW L2.bn L2.qR L2.iD L2.Np L2.wB L2.xX
namespace L2
open PySem PySem.Spec PyProof.Rows
theorem Cf{α:Type}{xs:List α}{i:Int}(h0:0<=i)(h1:i<xs.length):∃v,km xs i=some v/\xs[i.toNat]? =some v:=by
 have hx:xs[i.toNat]? =some (xs[i.toNat]'(by lia)):=RC (by lia);refine⟨_,?_,hx⟩;have e:i=((i.toNat:Nat):Int):=by lia
 have:=bO hx;rw[<-e]at this;exact this
end L2
namespace K14
open PySem L2
def bu(i:Nat):N6:=PySem.Challenge.pw_playboard_k14_moves_done.main.body.getD i (.Pass ⟨0,0,0,0⟩)
abbrev gf:N6:=fS (bu 4) 0
abbrev fZ:N6:=bu 12
theorem rA:aG ["thing"] ["thing"] (ao fZ):=eO
abbrev fo:N6:=bu 13
theorem pG:aG ["thing"] ["thing"] (ao fo):=eO
abbrev gb:N6:=bu 14
theorem rB:aG ["thing","least","most"] ["thing","least","most"] (ao gb):=eO
abbrev gX:N6:=bu 23
theorem tX:aG ["thing","words"] ["thing","words"] (ao gX):=eO
abbrev dh:N6:=bu 24
theorem mf:aG ["thing","many"] ["thing","many"] (ao dh):=eO
abbrev dR:N6:=bu 25
theorem nj:aG ["thing","least","most"] ["thing","least","most"] (ao dR):=eO
abbrev gY:N6:=bu 26
theorem mh:aG ["sort","across","up","longest"] ["sort","across","up"] (ao gY):=eO
abbrev gZ:N6:=bu 27
theorem jr:aG ["thing","kinds","sort","aim"] ["thing","kinds"] (ao gZ):=eO
abbrev g6:N6:=bu 28
theorem tY:aG ["thing","firsts","seconds"] ["thing","firsts","seconds"] (ao g6):=eO
abbrev dC:N6:=bu 29
theorem pJ:aG ["thing","firsts","seconds"] ["thing","firsts","seconds"] (ao dC):=eO
abbrev dv:N6:=bu 30
theorem lh:aG ["thing","kinds","firsts"] ["thing","kinds"] (ao dv):=eO
abbrev g7:N6:=bu 31
theorem tZ:aG ["thing","kinds"] ["thing","kinds"] (ao g7):=eO
abbrev dD:N6:=bu 32
theorem pK:aG ["thing"] ["thing"] (ao dD):=eO
abbrev dB:N6:=bu 33
theorem pI:aG ["thing","kinds"] ["thing","kinds"] (ao dB):=eO
abbrev gT:N6:=bu 37
theorem tU:aG ["kind","side"] ["kind","side"] (ao gT):=eO
abbrev gW:N6:=bu 38
theorem tW:aG ["sign"] ["sign"] (ao gW):=eO
abbrev gU:N6:=bu 39
theorem tV:aG ["sign"] ["sign"] (ao gU):=eO
abbrev rD:N6:=bu 40
theorem IS:aG ["row","square","sign"] ["row","square","sign"] (ao rD):=eO
abbrev cX:N6:=bu 41
theorem nc:aG ["row","side"] ["row","side"] (ao cX):=eO
abbrev rC:N6:=bu 43
theorem pF:aG ["board","square","across","up","come_to","here"] ["board","square","across","up"] (ao rC):=eO
abbrev mn:N6:=bu 46
theorem lL:aG ["row","side","aim","path","found","goal","owner"] ["row","side","aim","path"] (ao mn):=eO
abbrev iL:N6:=bu 47
theorem wU:aG ["row","side","path"] ["row","side","path"] (ao iL):=eO
abbrev g8:N6:=bu 48
theorem jt:aG ["board","row","square","rule","side","path"] ["board","row","square","rule"] (ao g8):=eO
abbrev jO:N6:=bu 49
theorem mi:aG ["game","row","square","found","rule"] ["game","row","square"] (ao jO):=eO
abbrev fu:N6:=bu 51
theorem pH:aG ["wide","square"] ["wide","square"] (ao fu):=eO
abbrev iK:N6:=bu 52
theorem wT:aG ["wide","square"] ["wide","square"] (ao iK):=eO
abbrev fm:N6:=bu 53
theorem pE:aG ["wide","column","row"] ["wide","column","row"] (ao fm):=eO
abbrev iZ:N6:=bu 55
theorem jL:aG ["game","place","row","found","start"] ["game","place"] (ao iZ):=eO
abbrev g9:N6:=bu 56
theorem t6:aG ["game","sign","side","goal"] ["game","sign","side","goal"] (ao g9):=eO
abbrev iM:N6:=bu 57
theorem dA:aG ["game","place","move","side","start","goal","taken","sign","row"] ["game","place","move"] (ao iM):=eO
abbrev kJ:N6:=bu 58
theorem vN:aG ["game","place","move"] ["game","place","move"] (ao kJ):=eO
abbrev dE:N6:=bu 61
theorem pL:aG ["thing","many"] ["thing","many"] (ao dE):=eO
abbrev bW:N6:=fS (bu 62) 0
theorem jN:aG ["self","wide","high","holes"] ["self","wide","high","holes"] (ao bW):=eO
abbrev li:N6:=fS (bu 62) 1
abbrev iy:N6:=fS (bu 62) 2
abbrev dk:N6:=fS (bu 62) 3
theorem dQ:aG ["self","square","across","up","column","row","goal"] ["self","square","across","up"] (ao dk):=eO
abbrev cE:N6:=fS (bu 62) 4
theorem kI:aG ["self","side"] ["self","side"] (ao cE):=eO
abbrev cD:N6:=fS (bu 64) 0
theorem kH:aG ["self","board","kinds","rules","turns","ends","stuck"] ["self","board","kinds","rules","turns","ends","stuck"] (ao cD):=eO
abbrev cf:N6:=fS (bu 64) 1
theorem kG:aG ["self","kind"] ["self","kind"] (ao cf):=eO
abbrev dj:N6:=fS (bu 64) 2
theorem mj:aG ["self","kind"] ["self","kind"] (ao dj):=eO
abbrev cQ:N6:=bu 66
theorem lx:aG ["_law_script","_law_k"] ["_law_script","_law_k"] (ao cQ):=eO
abbrev dU:N6:=bu 67
theorem nw:aG ["_law_cell","_law_k"] ["_law_cell","_law_k"] (ao dU):=eO
abbrev dS:N6:=bu 68
theorem nv:aG ["_law_thing"] ["_law_thing"] (ao dS):=eO
abbrev dW:N6:=bu 69
theorem bE:aG ["_law_script","_law_cell","_law_wide","_law_high","_law_holes","_law_k","_law_hole"] ["_law_script"] (ao dW):=eO
abbrev da:N6:=bu 70
theorem gK:aG ["_law_cell","_law_letters","_law_step_here"] ["_law_cell"] (ao da):=eO
abbrev fB:N6:=bu 71
theorem bM:aG ["_law_cell","_law_kinds_here","_law_more","_law_sort","_law_aim","_law_reach","_law_across","_law_up"] ["_law_cell","_law_kinds_here"] (ao fB):=eO
abbrev cY:N6:=bu 72
theorem eX:aG ["_law_cell","_law_kinds_here","_law_many","_law_other","_law_turns_here"] ["_law_cell","_law_kinds_here"] (ao cY):=eO
abbrev fC:N6:=bu 73
theorem bj:aG ["_law_script","_law_wide","_law_high","_law_holes","_law_kinds_here","_law_cell","_law_rules","_law_k","_law_turns_here","_law_ends","_law_more","_law_stuck"] ["_law_script"] (ao fC):=eO
abbrev cz:N6:=bu 74
theorem bC:aG ["_law_script","_law_game_here","_law_start","_law_size","_law_free","_law_signs","_law_cell","_law_cells","_law_spots","_law_k","_law_square","_law_more","_law_kind"] ["_law_script","_law_game_here","_law_start"] (ao cz):=eO
abbrev fA:N6:=bu 75
theorem pM:aG ["_law_sign"] ["_law_sign"] (ao fA):=eO
abbrev fv:N6:=bu 76
theorem fR:aG ["_law_game_here","_law_square","_law_across","_law_up","_law_column","_law_row_here","_law_goal"] ["_law_game_here","_law_square","_law_across","_law_up"] (ao fv):=eO
abbrev cR:N6:=bu 77
theorem bF:aG ["_law_game_here","_law_row_here","_law_square","_law_rule_here","_law_side_here","_law_across","_law_up","_law_goal","_law_found","_law_behind_here"] ["_law_game_here","_law_row_here","_law_square","_law_rule_here"] (ao cR):=eO
abbrev db:N6:=bu 78
theorem eZ:aG ["_law_game_here","_law_row_here","_law_square","_law_found","_law_rule_here"] ["_law_game_here","_law_row_here","_law_square"] (ao db):=eO
abbrev cZ:N6:=bu 79
theorem eY:aG ["_law_game_here","_law_place","_law_found","_law_start"] ["_law_game_here","_law_place"] (ao cZ):=eO
abbrev di:N6:=bu 80
theorem bY:aG ["_law_game_here","_law_place","_law_move","_law_start","_law_goal","_law_taken","_law_kind","_law_signs"] ["_law_game_here","_law_place","_law_move"] (ao di):=eO
abbrev gc:N6:=bu 81
theorem fj:aG ["_law_found","_law_cell","_law_size","_law_move","_law_at","_law_number"] ["_law_found","_law_cell","_law_size"] (ao gc):=eO
abbrev dX:N6:=bu 82
theorem fc:aG ["_law_e","_law_told"] ["_law_e"] (ao dX):=eO
abbrev cO:N6:=bu 83
theorem iw:aG ["_law_game_here","_law_place","_law_move","_law_e"] ["_law_game_here","_law_place","_law_move"] (ao cO):=eO
abbrev fE:N6:=bu 84
theorem jM:aG ["_law_game_here","_law_place","_law_move","_law_found"] ["_law_game_here","_law_place","_law_move"] (ao fE):=eO
abbrev jf:N6:=bu 85
theorem gJ:aG ["_law_script","_law_game_here","_law_place","_law_found","_law_at","_law_move","_law_odd_here","_law_k","_law_cell"] ["_law_script"] (ao jf):=eO
structure Txt(mg:NH)(aS aA aE aW:Addr):Prop where
 isinstance:mg "isinstance"=none
 int:mg "int"=none
 bool:mg "bool"=none
 str:mg "str"=none
 list:mg "list"=none
 tuple:mg "tuple"=none
 len:mg "len"=none
 range:mg "range"=none
 all:mg "all"=none
 any:mg "any"=none
 set:mg "set"=none
 sorted:mg "sorted"=none
 min:mg "min"=none
 max:mg "max"=none
 dict:mg "dict"=none
 ValueError:mg "ValueError"=none
 enumerate:mg "enumerate"=none
 NOTHING:∃u,mg "NOTHING"=some u/\aV (.int (-1)) u
 EMPTY:∃u,mg "EMPTY"=some u/\aV (.str ".") u
 HOLE:∃u,mg "HOLE"=some u/\aV (.str "#") u
 MOST_PAIRS:∃u,mg "MOST_PAIRS"=some u/\aV (.int 6) u
 MOST_KINDS:∃u,mg "MOST_KINDS"=some u/\aV (.int 6) u
 MOST_RULES:∃u,mg "MOST_RULES"=some u/\aV (.int 24) u
 LONGEST:∃u,mg "LONGEST"=some u/\aV (.int 8) u
 SORTS:∃u,mg "SORTS"=some u/\aV (.ref aS) u
 AIMS:∃u,mg "AIMS"=some u/\aV (.ref aA) u
 END_WORDS:∃u,mg "END_WORDS"=some u/\aV (.ref aE) u
 STUCK_WORDS:∃u,mg "STUCK_WORDS"=some u/\aV (.ref aW) u
section
variable{P:NP}{w:NT}{K:Frag}{mg:NH}{Ny:NZ}{aS aA aE aW:Addr}
theorem rL{f:Addr}{fd:NV}(F:bB K "is_whole" "is_whole" fZ f fd)(T:Txt mg aS aA aE aW):bg P w K mg Ny cV 1 f fd ["thing"] lY:=by
 refine F.ok rA (λvs H Q E h=>?_) (λcdv A Nz s H vs Q E hr h=>?_)
 .obtain⟨v,rfl,_⟩:=h;rfl
 .obtain⟨v,rfl,t,q⟩:=h;refine⟨_,(am (aF (eH (Bj .int T.isinstance T.int qI (cv 0)) (dZ (B6 (Bj .bool T.isinstance T.bool wz (cv 0))))))),?_⟩;show cM _ _ [some v] H;refine aO (cJ (oK (aa rfl) t) (λ_=>BJ (oK (aa rfl) t))) ?_;rw[Ai t];exact q
theorem rN{f:Addr}{fd:NV}(F:bB K "is_among" "is_among" gb f fd)(T:Txt mg aS aA aE aW)(C:RG0 P w K mg Ny):bg P w K mg Ny cV 2 f fd ["thing","least","most"] l7:=by
 refine F.ok rB (λvs H Q E h=>?_) (λcdv A Nz s H vs Q E hr h=>?_)
 .obtain⟨v,a,b,rfl,_⟩:=h;rfl
 .obtain⟨v,a,b,rfl,t,q⟩:=h;have hu:=bS hr;refine⟨_,(am (aF (eH (aH C.is_whole hr (az (cv 0) pa_nil)) (dZ (uG K hu (cv 1) (cv 0) (cv 2)))))),?_⟩;show cM _ _ [some v,oJ a,oJ b] H;have hc:=aK (sp:=lY) (σ:=[some v,oJ a,oJ b]) (H:=H) (ae (aa (n:=0) rfl) aw) (λQ q=>⟨v,rfl,t,q⟩);cases v with
  |int i=>exact aO (cJ hc (λ_=>wj (aa rfl) (aa rfl) (λ_=>aa rfl))) q
  |_=>exact aO (cJ (b:=false) hc (λh=>by cases h)) q
theorem uk{f:Addr}{fd:NV}(F:bB K "is_word" "is_word" gX f fd)(T:Txt mg aS aA aE aW):bg P w K mg Ny cV 1 f fd ["thing","words"] (iY K):=by
 refine F.ok tX (λvs H Q E h=>?_) (λcdv A Nz s H vs Q E hr h=>?_)
 .obtain⟨v,d,ws,rfl,_⟩:=h;rfl
 .obtain⟨v,d,ws,rfl,t,hw,q⟩:=h;have hu:=bS hr;refine⟨_,(am (aF (eH (Bj .str T.isinstance T.str vd (cv 0)) (dZ (jv K hu (cv 0) (cv 1)))))),?_⟩;show cM _ _ [some v,oR d] H;have hs:=oK (T:=.str) (te:=fM 0) (σ:=[some v,oR d]) (aa rfl) t;rw[Aw t]at hs;cases v with
  |str z=>exact aO (cJ hs (λ_=>BM (aa rfl) (aa rfl) hw)) q
  |_=>exact aO (cJ (b:=false) hs (λh=>by cases h)) q
theorem mz{f:Addr}{fd:NV}(F:bB K "is_tuple_of" "is_tuple_of" dh f fd)(T:Txt mg aS aA aE aW):bg P w K mg Ny cV 1 f fd ["thing","many"] kC:=by
 refine F.ok mf (λvs H Q E h=>?_) (λcdv A Nz s H vs Q E hr h=>?_)
 .obtain⟨v,n,rfl,_⟩:=h;rfl
 .obtain⟨v,n,rfl,t,q⟩:=h;have hu:=bS hr;refine⟨_,(am (aF (eH (Bj .tuple T.isinstance T.tuple sU (cv 0)) (dZ (jv K hu (kB (klen K) bT T.len (az (cv 0) pa_nil)) (cv 1)))))),?_⟩;show cM _ _ [some v,oJ n] H;have hs:=oK (T:=.tuple) (te:=fM 0) (σ:=[some v,oJ n]) (aa rfl) t;rw[IB t]at hs;unfold tupB at q;cases e:tupOf H v with
  |none=>
   rw[e]at hs q;exact aO (cJ (b:=false) hs (λh=>by cases h)) q
  |some xs=>
   rw[e]at hs q;obtain⟨a,rfl,ha⟩:=ie e;exact aO (cJ hs (λ_=>gC (cS (aa rfl) (.inr (cr.of ha))) (aa rfl))) q
theorem nz{f:Addr}{fd:NV}(F:bB K "is_list_of" "is_list_of" dR f fd)(T:Txt mg aS aA aE aW):bg P w K mg Ny cV 1 f fd ["thing","least","most"] pj:=by
 refine F.ok nj (λvs H Q E h=>?_) (λcdv A Nz s H vs Q E hr h=>?_)
 .obtain⟨v,a,b,rfl,_⟩:=h;rfl
 .obtain⟨v,a,b,rfl,t,q⟩:=h;have hu:=bS hr;refine⟨_,(am (aF (eH (Bj .list T.isinstance T.list ir (cv 0)) (dZ (uG K hu (cv 1) (kB (klen K) bT T.len (az (cv 0) pa_nil)) (cv 2)))))),?_⟩;show cM _ _ [some v,oJ a,oJ b] H;have hs:=oK (T:=.list) (te:=fM 0) (σ:=[some v,oJ a,oJ b]) (aa rfl) t;rw[Jw t]at hs;unfold kP at q;cases e:lstOf H v with
  |none=>
   rw[e]at hs q;exact aO (cJ (b:=false) hs (λh=>by cases h)) q
  |some xs=>
   rw[e]at hs q;obtain⟨d,rfl,hd⟩:=gr e;exact aO (cJ hs (λ_=>wj (aa rfl) (cS (aa rfl) (.inl (aY.of hd))) (λ_=>aa rfl))) q
theorem ul{f:Addr}{fd:NV}(F:bB K "is_step" "is_step" gY f fd)(T:Txt mg aS aA aE aW)(C:RG1 P w K mg Ny):bg P w K mg Ny cV 3 f fd ["sort","across","up"] vB:=by
 refine F.ok mh (λvs H Q E h=>?_) (λcdv A Nz s H vs Q E hr h=>?_)
 .obtain⟨so,x,y,rfl,_⟩:=h;rfl
 .obtain⟨so,x,y,rfl,tx,ty,q⟩:=h;have hu:=bS hr;refine⟨_,(af (aD (i:=3) mh.nd rfl (Or.inl rfl) (dn (aT K hu (cv 0) bz) ag ag))
   (af (bf (PW.pt (fP (bJ (bL (aH C.is_among hr (az (cv 1) (az (jy (cv 3)) (az (cv 3) pa_nil)))))) (eQ (bJ (bL (aH C.is_among hr (az (cv 2) (az (jy (cv 3)) (az (cv 3) pa_nil))))))))) (am (aF gq)) aJ)
   (am (aF (Hv (jv K hu (cv 1) ag) (dZ (jv K hu (cv 2) ag))))))),?_⟩
  show bp _ _ _ [oT so,some x,some y,none] H;refine aU (v:=.int (limS so)) (λQ q=>?_) ?_
  .refine uM (sI (bb (eC (aa rfl) ar)) (λ_=>ar) (λ_=>ar)) ?_;unfold limS at q
   by_cases h:so="leap"
   .rw[ND h]at q;rw[NA h];exact q
   .rw[NC h]at q;rw[NB h];exact q
  unfold lg at q;generalize limS so=l at q ⊢;refine bh (gy (ci (bb (aK (ae (aa rfl) (ae (jw (aa rfl)) (ae (aa rfl) aw))) (λQ q=>⟨x, -l,l,rfl,tx,q⟩)))) (λ_=>ci (bb (aK (ae (aa rfl) (ae (jw (aa rfl)) (ae (aa rfl) aw))) (λQ q=>⟨y, -l,l,rfl,ty,q⟩))))) (λh=>?_) (λh=>?_)
  .refine aO ar ?_;have e:(amongB x (-l) l&&amongB y (-l) l&& !(decide (x=.int 0)&&decide (y=.int 0)))=false:=by cases h1:amongB x (-l) l<;>cases h2:amongB y (-l) l<;>simp_all
   rw[e]at q;exact q
  .have h1:amongB x (-l) l=true:=by cases h1:amongB x (-l) l<;>simp_all
   have h2:amongB y (-l) l=true:=by cases h2:amongB y (-l) l<;>simp_all
   cases x with
   |int i=>
    cases y with
    |int j=>
     refine aO (Mm (mQ (aa rfl) ar) (λ_=>mQ (aa rfl) ar)) ?_;rw[h1,h2]at q;have ei:∀k:Int,decide (V.int k=V.int 0)=decide (k=0):=λk=>by
      by_cases e:k=0
      .rw[NA e,NA (congrArg V.int e)]
      .rw[NB e,NB (λz=>e (by injection z))]
     rw[ei,ei]at q;have e:(true&&true&& !(decide (i=0)&&decide (j=0)))=(!decide (i=0)|| !decide (j=0)):=by cases decide (i=0)<;>cases decide (j=0)<;>rfl
     rw[e]at q;exact q
    |_=>cases h2
   |_=>cases h1
theorem uo{f:Addr}{fd:NV}(F:bB K "is_pair" "is_pair" g6 f fd)(T:Txt mg aS aA aE aW)(C:RG2 P w K mg Ny):bg P w K mg Ny cV 2 f fd ["thing","firsts","seconds"] (vD K):=by
 refine F.ok tY (λvs H Q E h=>?_) (λcdv A Nz s H vs Q E hr h=>?_)
 .obtain⟨v,d,e,A,B,rfl,_⟩:=h;rfl
 .obtain⟨v,d,e,A,B,rfl,t,hA,hB,q⟩:=h;have hu:=bS hr;refine⟨_,(am (aF (eH (aH C.is_tuple_of hr (az (cv 0) (az ag pa_nil))) (eH (aH C.is_word hr (az (bR K (cv 0) ag) (az (cv 1) pa_nil))) (dZ (aH C.is_word hr (az (bR K (cv 0) ag) (az (cv 2) pa_nil)))))))),?_⟩;show cM _ _ [some v,oR d,oR e] H;have hc:=aK (sp:=kC) (σ:=[some v,oR d,oR e]) (H:=H) (x:=.bl (tupB H v 2)) (ae (aa (n:=0) rfl) (ae (ar (x:=.int 2)) aw)) (λQ q=>⟨v,2,rfl,t.thg,q⟩);unfold eA at q;unfold tupB at hc;cases e1:tupOf H v with
  |none=>
   rw[e1]at hc q;exact aO (cJ (b:=false) hc (λh=>by cases h)) q
  |some xs=>
   rw[e1]at hc q;obtain⟨a,rfl,ha⟩:=ie e1;have tx:=t.2 xs (.inl e1)
   by_cases hl:(xs.length:Int)=2
   .match xs,hl,e1,ha,tx,q,hc with
    | [x,y],_,e1,ha,tx,q,hc=>
      exact aO (cJ hc (λ_=>cJ (aK (ae (aQ (aa rfl) ar (.inr (cr.of ha)) (bO (j:=0) rfl)) (ae (aa rfl) aw)) (λQ q=>⟨x,d,A,rfl,tx x (by simp),hA,q⟩))
       (λ_=>aK (ae (aQ (aa rfl) ar (.inr (cr.of ha)) (bO (j:=1) rfl)) (ae (aa rfl) aw)) (λQ q=>⟨y,e,B,rfl,tx y (by simp),hB,q⟩)))) q
   .have e2:rK xs A B=false:=by
     unfold rK;split
     .exact NG rfl hl
     .rfl
    have hc2:Ev (fH kC (bx (fM 0) (bx (tC (.int 2)) df))) [some (.ref a),some (.ref d),some (.ref e)] H (.bl (decide ((xs.length:Int)=2))):=hc;rw[NB hl]at hc2;have q2:Q (.bl (rK xs A B)) H:=q;rw[e2]at q2;exact aO (cJ (b:=false) hc2 (λh=>by cases h)) q2
theorem um{f:Addr}{fd:NV}(F:bB K "is_rule" "is_rule" gZ f fd)(T:Txt mg aS aA aE aW)(hS:∀H,iC K H aS sortsL)(hA:∀H,iC K H aA aimsL)(C:RG3 P w K mg Ny):bg P w K mg Ny cV 4 f fd ["thing","kinds"] (vC K):=by
 refine F.ok jr (λvs H Q E h=>?_) (λcdv A Nz s H vs Q E hr h=>?_)
 .obtain⟨v,d,ws,rfl,_⟩:=h;rfl
 .obtain⟨v,d,ws,rfl,t,hw,q⟩:=h;have hu:=bS hr;refine⟨_,(af (bf (PW.pt (fP (bJ (bL (aH C.is_tuple_of hr (az (cv 0) (az ag pa_nil))))) (eQ (bJ (bL (aH C.is_word hr (az (bR K (cv 0) ag) (az (cv 1) pa_nil)))))))) (am (aF gq)) aJ)
   (af (aD (i:=2) jr.nd rfl (Or.inl rfl) (bR K (cv 0) ag))
   (af (aD (i:=3) jr.nd rfl (Or.inl rfl) (bR K (cv 0) ag))
   (af (bf (PW.pt (fP (bJ (bL (aH C.is_word hr (az (cv 2) (az (kg T.SORTS) pa_nil))))) (eQ (bJ (bL (aH C.is_word hr (az (cv 3) (az (kg T.AIMS) pa_nil)))))))) (am (aF gq)) aJ)
   (af (bf (PW.pt (gk (aT K hu (cv 2) bz) (fg (aT K hu (cv 3) bz)))) (am (aF gq)) aJ)
   (am (aF (aH C.is_step hr (az (cv 2) (az (bR K (cv 0) ag) (az (bR K (cv 0) ag) pa_nil))))))))))),?_⟩
  show bp _ _ _ [some v,oR d,none,none] H;have rb:tupB H v 5=false->dY H v ws=false:=λh=>by
   unfold tupB at h;unfold dY;cases e1:tupOf H v with
   |none=>rfl
   |some xs=>
    rw[e1]at h;have h:¬(xs.length:Int)=5:=NF h;show jg xs ws=false;unfold jg;split
    .exact NG rfl h
    .rfl
  cases hb0:tupB H v 5 with
  |false=>
   rw[rb hb0]at q;refine bh (gy (b:=false) (ci (bb (aK (sp:=kC) (x:=.bl (tupB H v 5)) (ae (aa rfl) (ae ar aw)) (λQ q=>⟨v,5,rfl,t.thg,q⟩)))) (λh=>?_)) (λ_=>aO ar q) (λh=>?_)
   .rw[hb0]at h;cases h
   .rw[hb0]at h;cases h
  |true=>
   obtain⟨xs,e1,hl⟩:∃xs,tupOf H v=some xs/\(xs.length:Int)=5:=by
    unfold tupB at hb0;cases e1:tupOf H v with
    |none=>rw[e1]at hb0;cases hb0
    |some xs=>rw[e1]at hb0;exact⟨xs,rfl,NE hb0⟩
   unfold dY at q;rw[e1]at q;have q:Q (.bl (jg xs ws)) H:=q;obtain⟨a,rfl,ha⟩:=ie e1;have tx:=t.2 xs (.inl e1)
   match xs,hl,e1,ha,tx,q with
   | [k,so,ai,x,y],_,e1,ha,tx,q=>
     have hq:cr K H a [k,so,ai,x,y]:=cr.of ha;have hb:tupB H (.ref a) 5=true:=by unfold tupB;rw[e1];rfl
     refine bh (gy (ci (bb (aK (sp:=kC) (x:=.bl (tupB H (.ref a) 5)) (ae (aa rfl) (ae ar aw)) (λQ q=>⟨.ref a,5,rfl,t.thg,q⟩)))) (λ_=>ci (bb (aK (sp:=iY K) (ae (aQ (aa rfl) ar (.inr hq) (bO (j:=0) rfl)) (ae (aa rfl) aw)) (λQ q=>⟨k,d,ws,rfl,tx k (by simp),hw,q⟩))))) (λh=>?_) (λh=>?_)
     .rw[hb]at h;have hk:wordB k ws=false:=by
       cases hk:wordB k ws
       .rfl
       .rw[hk]at h;cases h
      refine aO ar ?_;have e2:jg [k,so,ai,x,y] ws=false:=by
       unfold jg;split
       .rename_i z;cases z;rw[hk];simp
       .rfl
      rw[e2]at q;exact q
     .rw[hb]at h;have hk:wordB k ws=true:=by
       cases hk:wordB k ws
       .rw[hk]at h;cases h
       .rfl
      refine aU (v:=so) (aQ (aa rfl) ar (.inr hq) (bO (j:=1) rfl)) ?_;refine aU (v:=ai) (aQ (aa rfl) ar (.inr hq) (bO (j:=2) rfl)) ?_;refine bh (gy (ci (bb (aK (sp:=iY K) (ae (aa rfl) (ae ar aw)) (λQ q=>⟨so,aS,sortsL,rfl,tx so (by simp),hS H,q⟩)))) (λ_=>ci (bb (aK (sp:=iY K) (ae (aa rfl) (ae ar aw)) (λQ q=>⟨ai,aA,aimsL,rfl,tx ai (by simp),hA H,q⟩))))) (λh=>?_) (λh=>?_)
      .refine aO ar ?_;have e2:jg [k,so,ai,x,y] ws=false:=by
        unfold jg;split
        .rename_i k' so' ai' x' y' z;cases z;have h:(!decide (so'∈sortsL)|| !decide (ai'∈aimsL))=true:=h
         cases h1:decide (so'∈sortsL)<;>cases h2:decide (ai'∈aimsL)<;>simp_all
        .rfl
       rw[e2]at q;exact q
      .have h1:wordB so sortsL=true:=by cases h1:wordB so sortsL<;>simp_all
       have h2:wordB ai aimsL=true:=by cases h2:wordB ai aimsL<;>simp_all
       cases so with
       |str so=>
        cases ai with
        |str ai=>
         have h1:decide (so∈sortsL)=true:=h1;have h2:decide (ai∈aimsL)=true:=h2;have eR:jg [k,.str so,.str ai,x,y] ws=(!(decide (so="jump")&& !decide (ai="hit"))&&lg so x y):=by show(wordB k ws&&decide (so∈sortsL)&&decide (ai∈aimsL)&& !(decide (so="jump")&& !decide (ai="hit"))&&lg so x y)=_;rw[hk,h1,h2];simp
         rw[eR]at q;refine bh (ic (bb (eC (aa rfl) ar)) (λ_=>bb (kW (aa rfl) ar))) (λh=>?_) (λh=>?_)
         .refine aO ar ?_;rw[h]at q;exact q
         .rw[h]at q;exact eI (ae (aa rfl) (ae (aQ (aa rfl) ar (.inr hq) (bO (j:=3) rfl)) (ae (aQ (aa rfl) ar (.inr hq) (bO (j:=4) rfl)) aw))) ⟨so,x,y,rfl,tx x (by simp),tx y (by simp),q⟩
        |_=>cases h2
       |_=>cases h1
theorem qd{f:Addr}{fd:NV}(F:bB K "are_pairs" "are_pairs" dC f fd)(T:Txt mg aS aA aE aW)(C:RG4 P w K mg Ny):bg P w K mg Ny cV 3 f fd ["thing","firsts","seconds"] (q9 K):=by
 refine F.ok pJ (λvs H Q E h=>?_) (λcdv A Nz s H vs Q E hr h=>?_)
 .obtain⟨v,d,e,A,B,rfl,_⟩:=h;rfl
 .obtain⟨v,d,e,A,B,rfl,t,hA,hB,q⟩:=h;have hu:=bS hr;refine⟨_,(am (aF (eH (aH C.is_list_of hr (az (cv 0) (az ag (az (kg T.MOST_PAIRS) pa_nil)))) (dZ (kB (DD K) qK T.all (az (gB (cC (N:=["part","firsts","seconds"]) (src:=[none,some 1,some 2]) (ao dC) ["thing","firsts","seconds"]) (qQ K (cv 0)) (λ_ _ _=>(bD (i:=0) ["part","firsts","seconds"])) (λ_ _ _=>bZ) (λ_ _ _=>(aH C.is_pair hr (az (cv 0) (az (cv 1) (az (cv 2) pa_nil)))))) pa_nil)))))),?_⟩;show cM _ _ [some v,oR d,oR e] H;refine Ci (a:=kP H v 0 6) (aK (ae (aa rfl) (ae ar (ae ar aw))) (λQ q=>⟨v,0,6,rfl,t.thg,q⟩)) (λh=>?_) (λh=>?_)
  .unfold kP at h;cases e1:lstOf H v with
   |none=>rw[e1]at h;cases h
   |some xs=>
    rw[e1]at h;have h:0<=(xs.length:Int)/\(xs.length:Int)<=6:=NE h;obtain⟨a,rfl,ha⟩:=gr e1;have tx:=t.2 xs (.inr e1);refine gF (d:=a) (xs:=xs) (rest:=[oR d,oR e]) (aa rfl) (aY.of ha) (by rw[NR];lia) rfl (λ_=>true) (λx=>.bl (eA H x A B)) (λx hx=>dM) (λx hx _=>?_) (λp hp=>?_)
    .exact aK (ae (aa rfl) (ae (aa rfl) (ae (aa rfl) aw))) (λQ q=>⟨x,d,e,A,B,rfl,tx x hx,hA,hB,q⟩)
    .refine⟨xs.map (λx=>eA H x A B),?_,?_⟩
     .have e2:(xs.filter λ_=>true).map (λx=>V.bl (eA H x A B))=(xs.map (λx=>eA H x A B)).map V.bl:=by rw[R7.mpr (λ_ _=>rfl),RN];rfl
      rw[<-e2];exact aY.of ah
     .have k:=q _ ((ak.refl H).upd (o:=.lst ((xs.filter λ_=>true).map (λx=>V.bl (eA H x A B)))) hp);unfold pairsB at k;rw[e1]at k;have e3:(decide (xs.length<=6)&&xs.all (λx=>eA H x A B))=(xs.map (λx=>eA H x A B)).all id:=by rw[NA (by lia:xs.length<=6),S4];rfl
      have k:Q (.bl (decide (xs.length<=6)&&xs.all (λx=>eA H x A B))) _:=k;rw[e3]at k;exact k
  .have k:=q H (ak.refl H);have e2:pairsB H v A B=false:=by
    unfold pairsB;unfold kP at h;cases e1:lstOf H v with
    |none=>rfl
    |some xs=>
     rw[e1]at h;have h:¬(0<=(xs.length:Int)/\(xs.length:Int)<=6):=NF h;show(decide (xs.length<=6)&&_)=false;rw[NB (by lia:¬xs.length<=6)];rfl
   rw[e2]at k;exact k
theorem uq{f:Addr}{fd:NV}(F:bB K "is_ends" "is_ends" g7 f fd)(T:Txt mg aS aA aE aW)(hE:∀H,iC K H aE iA)(C:RG5 P w K mg Ny):bg P w K mg Ny cV 4 f fd ["thing","kinds"] (vJ K):=by
 refine F.ok tZ (λvs H Q E h=>?_) (λcdv A Nz s H vs Q E hr h=>?_)
 .obtain⟨v,d,ws,rfl,_⟩:=h;rfl
 .obtain⟨v,d,ws,rfl,t,hw,q⟩:=h;refine⟨_,(am (aF (aH C.are_pairs hr (az (cv 0) (az (kg T.END_WORDS) (az (cv 1) pa_nil)))))),?_⟩;show cM _ _ [some v,oR d] H;exact eI (ae (aa rfl) (ae ar (ae (aa rfl) aw))) ⟨v,aE,d,iA,ws,rfl,t,hE H,hw,q⟩
theorem rM{f:Addr}{fd:NV}(F:bB K "is_turns" "is_turns" dv f fd)(T:Txt mg aS aA aE aW)(C:RG5 P w K mg Ny):bg P w K mg Ny cV 4 f fd ["thing","kinds"] (qY K):=by
 refine F.ok lh (λvs H Q E h=>?_) (λcdv A Nz s H vs Q E hr h=>?_)
 .obtain⟨v,d,ws,rfl,_⟩:=h;rfl
 .obtain⟨v,d,ws,rfl,t,hw,q⟩:=h;have hu:=bS hr;refine⟨_,(af (bf (bJ (bL (aH C.are_pairs hr (az (cv 0) (az (cv 1) (az (cv 1) pa_nil)))))) (am (aF gq)) aJ)
   (af (aD (i:=2) lh.nd rfl (Or.inr rfl) (gB (cC (N:=["pair"]) (src:=[none]) (ao dv) ["thing","kinds","firsts"]) (qQ K (cv 0)) (λ_ _ _=>(bD (i:=0) ["pair"])) (λ_ _ _=>bZ) (λ_ _ _=>(bR K (cv 0) ag))))
   (af (bf (bL (kB (Nb K) Kd T.any (az (gB (cC (N:=["pair","firsts"]) (src:=[none,some 2]) (ao dv) ["thing","kinds","firsts"]) (qQ K (cv 0)) (λ_ _ _=>(bD (i:=0) ["pair","firsts"])) (λ_ _ _=>bZ) (λ_ _ _=>(jv K hu (bR K (cv 0) ag) (cv 1)))) pa_nil))) (am (aF gq)) aJ)
   (am (aF (jv K hu (kB m5 bT T.len (az (xA (He K hr) qH T.set (az (cv 2) pa_nil)) pa_nil)) (kB (klen K) bT T.len (az (cv 2) pa_nil)))))))),?_⟩
  show bp _ _ _ [some v,oR d,none] H;refine dP (λb H'=>b=(!pairsB H v ws ws)/\ak H H') (λQ q=>kX (ae (aa rfl) (ae (aa rfl) (ae (aa rfl) aw))) ⟨v,d,d,ws,ws,rfl,t,hw,hw,λH' s=>q _ _ ⟨rfl,s⟩⟩) (λH1 h=>?_) (λH1 h=>?_)
  .obtain⟨hb,s1⟩:=h;have k:=q H1 s1;have e0:pairsB H v ws ws=false:=by
    cases z:pairsB H v ws ws
    .rfl
    .rw[z]at hb;cases hb
   unfold fW at k;rw[e0]at k;exact aO ar k
  .obtain⟨hb,s1⟩:=h;have e0:pairsB H v ws ws=true:=by
    cases z:pairsB H v ws ws
    .rw[z]at hb;cases hb
    .rfl
   unfold fW at q;rw[e0]at q;obtain⟨xs,e1,l6,hp⟩:=xg e0;rw[e1]at q;have q:∀H',ak H H'->Q (.bl (!(xs.any λx=>decide (gS H x∈xs.map (cA H)))&&decide ((xs.map (cA H)).Nodup))) H':=q;obtain⟨a,rfl,ha⟩:=gr e1;have ha1:=s1 _ _ ha;refine bI (λu H'=>∃fq,u=.ref fq/\H' fq=some (.lst ((xs.map (cA H)).map V.str))/\ak H1 H') (λQ q=>?_) ?_
   .refine gF (d:=a) (xs:=xs) (rest:=[]) (aa rfl) (aY.of ha1) (by rw[NR];lia) rfl (λ_=>true) (λx=>.str (cA H x)) (λx hx=>dM) (λx hx _=>?_) (λp hp'=>?_)
    .obtain⟨c,f1,f2,rfl,hc⟩:=hp x hx;have e:cA H (.ref c)=f1:=by simp only[cA,tupOf,hc]
     rw[e];exact aQ (aa rfl) ar (.inr (cr.of (s1 _ _ hc))) (bO (j:=0) rfl)
    .have e:(xs.filter λ_=>true).map (λx=>V.str (cA H x))=(xs.map (cA H)).map V.str:=by rw[R7.mpr (λ_ _=>rfl),RN];rfl
     rw[e];exact q _ _ ⟨p,rfl,ah,(ak.refl H1).upd hp'⟩
   rintro _ H2 ⟨fq,rfl,hf,s2⟩;have ha2:=s2 _ _ ha1;refine dP (λb H'=>b=(xs.any λx=>decide (gS H x∈xs.map (cA H)))/\ak H2 H') (λQ q=>?_) (λH3 h=>?_) (λH3 h=>?_)
   .refine gF (d:=a) (xs:=xs) (rest:=[oR fq]) (aa rfl) (aY.of ha2) (by rw[NR];lia) rfl (λ_=>true) (λx=>.bl (decide (gS H x∈xs.map (cA H)))) (λx hx=>dM) (λx hx _=>?_) (λp hp'=>?_)
    .obtain⟨c,f1,f2,rfl,hc⟩:=hp x hx;have e:gS H (.ref c)=f2:=by simp only[gS,tupOf,hc]
     rw[e];exact BM (aQ (aa rfl) ar (.inr (cr.of (s2 _ _ (s1 _ _ hc)))) (bO (j:=1) rfl)) (aa rfl) (.inl (aY.of hf))
    .refine⟨xs.map (λx=>decide (gS H x∈xs.map (cA H))),?_,?_⟩
     .have e2:(xs.filter λ_=>true).map (λx=>V.bl (decide (gS H x∈xs.map (cA H))))=(xs.map (λx=>decide (gS H x∈xs.map (cA H)))).map V.bl:=by rw[R7.mpr (λ_ _=>rfl),RN];rfl
      rw[<-e2];exact aY.of ah
     .have e3:(xs.map (λx=>decide (gS H x∈xs.map (cA H)))).any id=xs.any λx=>decide (gS H x∈xs.map (cA H)):=by rw[SD];rfl
      rw[e3];exact q _ _ ⟨rfl,(ak.refl H2).upd hp'⟩
   .have k:=q H3 ((s1.trans s2).trans h.2);rw[<-h.1]at k;exact aO ar k
   .have s03:=(s1.trans s2).trans h.2;show cM _ _ [oR a,oR d,oR fq] H3;have hf3:=h.2 _ _ hf;refine B4 (rZ (ss:=xs.map (cA H)) (aa rfl) (aY.of hf3) (by rw[Rz];lia) (λH4 s4=>?_));refine uM (cS (aa rfl) (.inl (aY.of (s4 _ _ hf3)))) ?_;have k:=q H4 (s03.trans s4);rw[<-h.1]at k;have e4:decide ((((lf (xs.map (cA H))).length:Nat):Int)=((((xs.map (cA H)).map V.str).length:Nat):Int))=decide ((xs.map (cA H)).Nodup):=by
     rw[Rz (f:=V.str)]
     by_cases hn:(xs.map (cA H)).Nodup
     .rw[NA hn,NA (by rw[(iX _).mpr hn])]
     .rw[NB hn,NB (λz=>hn ((iX _).mp (by lia)))]
    show Q (.bl (decide ((((lf (xs.map (cA H))).length:Nat):Int)=((((xs.map (cA H)).map V.str).length:Nat):Int)))) H4;rw[e4];exact k
theorem qa{f:Addr}{fd:NV}(F:bB K "is_letter" "is_letter" fo f fd)(T:Txt mg aS aA aE aW):bg P w K mg Ny cV 1 f fd ["thing"] nZ:=by
 refine F.ok pG (λvs H Q E h=>?_) (λcdv A Nz s H vs Q E hr h=>?_)
 .obtain⟨v,rfl,_⟩:=h;rfl
 .obtain⟨v,rfl,t,q⟩:=h;have hu:=bS hr;refine⟨_,(am (aF (eH (Bj .str T.isinstance T.str vd (cv 0)) (eH (jv K hu (kB (klen K) bT T.len (az (cv 0) pa_nil)) ag) (dZ (uG K hu bz (cv 0) bz)))))),?_⟩;show cM _ _ [some v] H;have hs:=oK (T:=.str) (te:=fM 0) (σ:=[some v]) (aa rfl) t;rw[Aw t]at hs;cases v with
  |str z=>
   refine aO (cJ hs (λ_=>cJ (gC (qw (aa rfl) (Tn (show z.length<=1000 from t) (by decide))) ar) (λ_=>DW ar (aa rfl) ar))) ?_;rw[Lw,Lv];have e:(true&&(decide ((z.length:Int)=1)&&(!decide (z.cps.toList<[97])&& !decide ([122]<z.cps.toList))))=letB (.str z):=by
    rw[dN]
    match e:z.cps.toList with
    | [c]=>
      simp only[letB,e,Jv];rw[T7];simp
    | []=>simp only[letB,e];rfl
    |_::_::r=>
     simp only[letB,e];rw[NB (by simp only[RR];lia)];rfl
   have q2:=q;rw[<-e]at q2;exact q2
  |_=>exact aO (cJ (b:=false) hs (λh=>by cases h)) q
theorem qe{f:Addr}{fd:NV}(F:bB K "are_kinds" "are_kinds" dD f fd)(T:Txt mg aS aA aE aW)(C:Nv P w K mg Ny):bg P w K mg Ny cV 2 f fd ["thing"] rf:=by
 refine F.ok pK (λvs H Q E h=>?_) (λcdv A Nz s H vs Q E hr h=>?_)
 .obtain⟨v,rfl,_⟩:=h;rfl
 .obtain⟨v,rfl,t,q⟩:=h;have hu:=bS hr;refine⟨_,(af (bf (PW.pt (fP (bJ (bL (aH C.is_list_of hr (az (cv 0) (az ag (az (kg T.MOST_KINDS) pa_nil)))))) (eQ (bJ (bL (kB (DD K) qK T.all (az (gB (cC (N:=["part"]) (src:=[none]) (ao dD) ["thing"]) (qQ K (cv 0)) (λ_ _ _=>(bD (i:=0) ["part"])) (λ_ _ _=>bZ) (λ_ _ _=>(aH C.is_letter hr (az (cv 0) pa_nil)))) pa_nil))))))) (am (aF gq)) aJ)
   (am (aF (jv K hu (kB m5 bT T.len (az (xA (He K hr) qH T.set (az (cv 0) pa_nil)) pa_nil)) (kB (klen K) bT T.len (az (cv 0) pa_nil)))))),?_⟩
  show bp _ _ _ [some v] H;have eL:Ev (fH pj (bx (fM 0) (bx (tC (.int 1)) (bx (tC (.int 6)) df)))) [some v] H (.bl (kP H v 1 6)):=aK (ae (aa rfl) (ae ar (ae ar aw))) (λQ q=>⟨v,1,6,rfl,t.thg,q⟩);unfold mL at q;cases e1:lstOf H v with
  |none=>
   have hb:kP H v 1 6=false:=by unfold kP;rw[e1]
   rw[hb]at eL;rw[e1]at q;refine bh (b:=true) (λQ q=>ci (bb eL) _ (iR q)) (λ_=>aO ar (q H (ak.refl H))) (λh=>by cases h)
  |some xs=>
   rw[e1]at q;have q:∀H',ak H H'->Q (.bl (decide (1<=xs.length/\xs.length<=6)&&xs.all letB&&decide ((xs.map iH).Nodup))) H':=q;obtain⟨a,rfl,ha⟩:=gr e1;have tx:=t.2 xs (.inr e1);have hb:kP H (.ref a) 1 6=decide (1<=xs.length/\xs.length<=6):=by unfold kP;rw[e1];show decide ((1:Int)<=xs.length/\(xs.length:Int)<=6)=_;rw[decide_eq_decide];lia
   rw[hb]at eL
   by_cases hl:1<=xs.length/\xs.length<=6
   .rw[NA hl]at eL q;refine dP (λb H'=>b=(!xs.all letB)/\ak H H') (λQ q=>?_) (λH1 h=>?_) (λH1 h=>?_)
    .refine Lr (ci (bb eL)) ?_;refine gF (d:=a) (xs:=xs) (rest:=[]) (aa rfl) (aY.of ha) (by rw[NR];lia) rfl (λ_=>true) (λx=>.bl (letB x)) (λx hx=>dM) (λx hx _=>?_) (λp hp=>?_)
     .exact aK (ae (aa rfl) aw) (λQ q=>⟨x,rfl,tx x hx,q⟩)
     .refine⟨xs.map letB,?_,?_⟩
      .have e2:(xs.filter λ_=>true).map (λx=>V.bl (letB x))=(xs.map letB).map V.bl:=by rw[R7.mpr (λ_ _=>rfl),RN];rfl
       rw[<-e2];exact aY.of ah
      .have e3:(xs.map letB).all id=xs.all letB:=by rw[S4];rfl
       rw[e3];exact q _ _ ⟨rfl,(ak.refl H).upd hp⟩
    .have k:=q H1 h.2;have e0:xs.all letB=false:=by
      cases z:xs.all letB
      .rfl
      .rw[z]at h;cases h.1
     rw[e0]at k;exact aO ar k
    .obtain⟨hq,s1⟩:=h;have e0:xs.all letB=true:=by
      cases z:xs.all letB
      .rw[z]at hq;cases hq
      .rfl
     have e5:xs=(xs.map iH).map V.str:=by
      rw[RN];have:∀x∈xs,x=(V.str∘iH) x:=λx hx=>by obtain⟨c,rfl,_⟩:=Be (R1.mp e0 x hx);rfl
      exact(List.map_id xs).symm.trans (R9 this)
     have ha1:=s1 _ _ ha;rw[e5]at ha1;show cM _ _ [oR a] H1;refine B4 (rZ (ss:=xs.map iH) (aa rfl) (aY.of ha1) (by rw[Rz];lia) (λH4 s4=>?_));refine uM (cS (aa rfl) (.inl (aY.of (s4 _ _ ha1)))) ?_;have k:=q H4 (s1.trans s4);rw[e0]at k;have e4:decide ((((lf (xs.map iH)).length:Nat):Int)=((((xs.map iH).map V.str).length:Nat):Int))=decide ((xs.map iH).Nodup):=by
      rw[Rz (f:=V.str)]
      by_cases hn:(xs.map iH).Nodup
      .rw[NA hn,NA (by rw[(iX _).mpr hn])]
      .rw[NB hn,NB (λz=>hn ((iX _).mp (by lia)))]
     show Q (.bl (decide ((((lf (xs.map iH)).length:Nat):Int)=((((xs.map iH).map V.str).length:Nat):Int)))) H4;rw[e4];exact k
   .rw[NB hl]at eL q;exact bh (b:=true) (λQ q=>ci (bb eL) _ (iR q)) (λ_=>aO ar (q H (ak.refl H))) (λh=>by cases h)
theorem qc{f:Addr}{fd:NV}(F:bB K "are_rules" "are_rules" dB f fd)(T:Txt mg aS aA aE aW)(C:Nv P w K mg Ny):bg P w K mg Ny cV 5 f fd ["thing","kinds"] (q8 K):=by
 refine F.ok pI (λvs H Q E h=>?_) (λcdv A Nz s H vs Q E hr h=>?_)
 .obtain⟨v,d,ws,rfl,_⟩:=h;rfl
 .obtain⟨v,d,ws,rfl,t,hw,q⟩:=h;have hu:=bS hr;refine⟨_,(am (aF (eH (aH C.is_list_of hr (az (cv 0) (az ag (az (kg T.MOST_RULES) pa_nil)))) (dZ (kB (DD K) qK T.all (az (gB (cC (N:=["part","kinds"]) (src:=[none,some 1]) (ao dB) ["thing","kinds"]) (qQ K (cv 0)) (λ_ _ _=>(bD (i:=0) ["part","kinds"])) (λ_ _ _=>bZ) (λ_ _ _=>(aH C.is_rule hr (az (cv 0) (az (cv 1) pa_nil))))) pa_nil)))))),?_⟩;show cM _ _ [some v,oR d] H;refine Ci (a:=kP H v 0 24) (aK (ae (aa rfl) (ae ar (ae ar aw))) (λQ q=>⟨v,0,24,rfl,t.thg,q⟩)) (λh=>?_) (λh=>?_)
  .unfold kP at h;cases e1:lstOf H v with
   |none=>rw[e1]at h;cases h
   |some xs=>
    rw[e1]at h;have h:0<=(xs.length:Int)/\(xs.length:Int)<=24:=NE h;obtain⟨a,rfl,ha⟩:=gr e1;have tx:=t.2 xs (.inr e1);refine gF (d:=a) (xs:=xs) (rest:=[oR d]) (aa rfl) (aY.of ha) (by rw[NR];lia) rfl (λ_=>true) (λx=>.bl (dY H x ws)) (λx hx=>dM) (λx hx _=>?_) (λp hp=>?_)
    .exact aK (ae (aa rfl) (ae (aa rfl) aw)) (λQ q=>⟨x,d,ws,rfl,tx x hx,hw,q⟩)
    .refine⟨xs.map (λx=>dY H x ws),?_,?_⟩
     .have e2:(xs.filter λ_=>true).map (λx=>V.bl (dY H x ws))=(xs.map (λx=>dY H x ws)).map V.bl:=by rw[R7.mpr (λ_ _=>rfl),RN];rfl
      rw[<-e2];exact aY.of ah
     .have k:=q _ ((ak.refl H).upd (o:=.lst ((xs.filter λ_=>true).map (λx=>V.bl (dY H x ws)))) hp);unfold fI at k;rw[e1]at k;have e3:(decide (xs.length<=24)&&xs.all (λx=>dY H x ws))=(xs.map (λx=>dY H x ws)).all id:=by rw[NA (by lia:xs.length<=24),S4];rfl
      have k:Q (.bl (decide (xs.length<=24)&&xs.all (λx=>dY H x ws))) _:=k;rw[e3]at k;exact k
  .have k:=q H (ak.refl H);have e2:fI H v ws=false:=by
    unfold fI;unfold kP at h;cases e1:lstOf H v with
    |none=>rfl
    |some xs=>
     rw[e1]at h;have h:¬(0<=(xs.length:Int)/\(xs.length:Int)<=24):=NF h;show(decide (xs.length<=24)&&_)=false;rw[NB (by lia:¬xs.length<=24)];rfl
   rw[e2]at k;exact k
theorem ql{f cG:Addr}{fd:NV}(F:bB K "__init__" "Game.__init__" cD f fd)(T:Txt mg aS aA aE aW)(hW:∀H,iC K H aW iG)(B:vm K cG)(C:GG2 P w K mg Ny):bg P w K mg Ny cV 6 f fd ["self","board","kinds","rules","turns","ends","stuck"] (vI K cG):=by
 refine F.ok kH (λvs H Q E h=>?_) (λcdv A Nz s H vs Q E hr h=>?_)
 .obtain⟨p,b,kd,rd,td,ed,dx,ws,rs,ts,es,st,rfl,_⟩:=h;rfl
 .obtain⟨p,b,kd,rd,td,ed,dx,ws,rs,ts,es,st,rfl,hp,hk,hr',ht,he,tk,tr,tt,te,bk,br,bt,be,hst,lst',q⟩:=h;have hu:=bS hr;have wk:∀H',ak H H'->iC K H' kd ws:=λH' s=>.inl (aY.of (s _ _ hk));refine⟨_,(af (bf (bJ (bL (aH C.are_kinds hr (az (cv 2) pa_nil)))) (am fF) aJ)
   (af (bf (bJ (bL (aH C.are_rules hr (az (cv 3) (az (cv 2) pa_nil))))) (am fF) aJ)
   (af (bf (bJ (bL (aH C.is_turns hr (az (cv 4) (az (cv 2) pa_nil))))) (am fF) aJ)
   (af (bf (bJ (bL (aH C.is_ends hr (az (cv 5) (az (cv 2) pa_nil))))) (am fF) aJ)
   (af (bf (bJ (bL (aH C.is_word hr (az (cv 6) (az (kg T.STUCK_WORDS) pa_nil))))) (am fF) aJ)
   (af (jl K (cv 0) (cv 1))
   (af (jl K (cv 0) (xA (v6 K) ir T.list (az (cv 2) pa_nil)))
   (af (jl K (cv 0) (xA (v6 K) ir T.list (az (cv 3) pa_nil)))
   (af (jl K (cv 0) (xA (v6 K) ir T.list (az (cv 4) pa_nil)))
   (af (jl K (cv 0) (xA (v6 K) ir T.list (az (cv 5) pa_nil)))
   (am (jl K (cv 0) (cv 6))))))))))))),?_⟩
  show bp _ _ _ [oR p,oR b,oR kd,oR rd,oR td,oR ed,oT st] H;refine dP (λb H'=>b=false/\ak H H') (λQ q=>kX (ae (aa rfl) aw) ⟨.ref kd,rfl,tk,λH' s=>?_⟩) (λH' h=>by cases h.1) (λH1 h=>?_)
  .rw[bk];exact q _ _ ⟨rfl,s⟩
  obtain⟨_,s1⟩:=h;have eqR:fI H1 (.ref rd) ws=fI H (.ref rd) ws:=rE tr s1;refine dP (λb H'=>b=false/\ak H1 H') (λQ q=>kX (ae (aa rfl) (ae (aa rfl) aw)) ⟨.ref rd,kd,ws,rfl,tr.same s1,wk _ s1,λH' s=>?_⟩) (λH' h=>by cases h.1) (λH2 h=>?_)
  .rw[eqR,br];exact q _ _ ⟨rfl,s⟩
  obtain⟨_,s2⟩:=h;have s02:=s1.trans s2;have eqT:fW H2 (.ref td) ws=fW H (.ref td) ws:=qT tt s02;refine dP (λb H'=>b=false/\ak H2 H') (λQ q=>kX (ae (aa rfl) (ae (aa rfl) aw)) ⟨.ref td,kd,ws,rfl,tt.same s02,wk _ s02,λH' s=>?_⟩) (λH' h=>by cases h.1) (λH3 h=>?_)
  .rw[eqT,bt];exact q _ _ ⟨rfl,s⟩
  obtain⟨_,s3⟩:=h;have s03:=s02.trans s3;have eqE:pairsB H3 (.ref ed) iA ws=pairsB H (.ref ed) iA ws:=lj te s03;refine dP (λb H'=>b=false/\ak H3 H') (λQ q=>kX (ae (aa rfl) (ae (aa rfl) aw)) ⟨.ref ed,kd,ws,rfl,te.same s03,wk _ s03,λH' s=>?_⟩) (λH' h=>by cases h.1) (λH4 h=>?_)
  .rw[eqE,be];exact q _ _ ⟨rfl,s⟩
  obtain⟨_,s4⟩:=h;have s04:=s03.trans s4;refine bh (ci (bb (aK (ae (aa rfl) (ae ar aw)) (λQ q=>⟨.str st,aW,iG,rfl,lst',hW H4,q⟩)))) (λh=>?_) (λ_=>?_)
  .have e:wordB (.str st) iG=true:=NA hst;rw[e]at h;cases h
  have gl:=λb k r t e=>JO (b:=b) (k:=k) (r:=r) (t:=t) (e:=e);have nk:p≠kd:=hJ hp hk (by intro z;cases z);have nr:p≠rd:=hJ hp hr' (by intro z;cases z);have nt:p≠td:=hJ hp ht (by intro z;cases z);have ne':p≠ed:=hJ hp he (by intro z;cases z);have h4:∀(G:Hp),SameBut p H G->G kd=some (.lst (ws.map V.str))/\G rd=some (.lst rs)/\G td=some (.lst ts)/\G ed=some (.lst es):=λG sb=>⟨sb _ _ hk nk.symm,sb _ _ hr' nr.symm,sb _ _ ht nt.symm,sb _ _ he ne'.symm⟩;refine tL (aa rfl) (aa rfl) (s04 _ _ hp) B.cl B.board (by decide) ?_;generalize hG5:upd H4 p (HO.ins cG dx (putF "board" (V.ref b) []))=G5;have p5:G5 p=some (.ins cG dx (gf1 b)):=hG5▸ah;have b5:SameBut p H G5:=hG5▸s04.but.self;have nfree:∀(G:Hp)(q:Addr),SameBut p H G->G p≠none->G q=none->H q=none:=λG q sb hpp hq=>by
   cases e:H q with
   |none=>rfl
   |some o=>
    by_cases z:q=p
    .rw[z]at hq;exact NG hq hpp
    .have:=sb q o e z;rw[hq]at this;cases this
  refine lI (aa rfl) (h4 _ b5).1 (λH'=>aa rfl) p5 B.cl B.kinds (by have:=(gl b 0 0 0 0).1;lia) (λkq hkq=>?_);have nkq:p≠kq:=aC p5 hkq;generalize hG6:upd (upd G5 kq (HO.lst (ws.map V.str))) p (HO.ins cG dx (putF "kinds" (V.ref kq) (gf1 b)))=G6;have p6:G6 p=some (.ins cG dx (gf2 b kq)):=hG6▸ah;have k6:G6 kq=some (.lst (ws.map V.str)):=by rw[<-hG6,av nkq.symm,ah]
  have b6:SameBut p H G6:=hG6▸(b5.new (nfree _ _ b5 (by rw[p5];simp) hkq)).self;refine lI (aa rfl) (h4 _ b6).2.1 (λH'=>aa rfl) p6 B.cl B.rules (by have:=(gl b kq 0 0 0).2.1;lia) (λrq hrq=>?_);have nrq:p≠rq:=aC p6 hrq;generalize hG7:upd (upd G6 rq (HO.lst rs)) p (HO.ins cG dx (putF "rules" (V.ref rq) (gf2 b kq)))=G7;have p7:G7 p=some (.ins cG dx (gf3 b kq rq)):=hG7▸ah;have r7:G7 rq=some (.lst rs):=by rw[<-hG7,av nrq.symm,ah]
  have k7:G7 kq=some (.lst (ws.map V.str)):=by rw[<-hG7,av nkq.symm,av (aC k6 hrq)];exact k6
  have b7:SameBut p H G7:=hG7▸(b6.new (nfree _ _ b6 (by rw[p6];simp) hrq)).self;refine lI (aa rfl) (h4 _ b7).2.2.1 (λH'=>aa rfl) p7 B.cl B.turns (by have:=(gl b kq rq 0 0).2.2.1;lia) (λtq htq=>?_);have ntq:p≠tq:=aC p7 htq;generalize hG8:upd (upd G7 tq (HO.lst ts)) p (HO.ins cG dx (putF "turns" (V.ref tq) (gf3 b kq rq)))=G8;have p8:G8 p=some (.ins cG dx (gf4 b kq rq tq)):=hG8▸ah;have t8:G8 tq=some (.lst ts):=by rw[<-hG8,av ntq.symm,ah]
  have r8:G8 rq=some (.lst rs):=by rw[<-hG8,av nrq.symm,av (aC r7 htq)];exact r7
  have k8:G8 kq=some (.lst (ws.map V.str)):=by rw[<-hG8,av nkq.symm,av (aC k7 htq)];exact k7
  have b8:SameBut p H G8:=hG8▸(b7.new (nfree _ _ b7 (by rw[p7];simp) htq)).self;refine lI (aa rfl) (h4 _ b8).2.2.2 (λH'=>aa rfl) p8 B.cl B.ends (by have:=(gl b kq rq tq 0).2.2.2.1;lia) (λeq heq=>?_);have neq:p≠eq:=aC p8 heq;generalize hG9:upd (upd G8 eq (HO.lst es)) p (HO.ins cG dx (putF "ends" (V.ref eq) (gf4 b kq rq tq)))=G9;have p9:G9 p=some (.ins cG dx (DL b kq rq tq eq)):=hG9▸ah;have e9:G9 eq=some (.lst es):=by rw[<-hG9,av neq.symm,ah]
  have t9:G9 tq=some (.lst ts):=by rw[<-hG9,av ntq.symm,av (aC t8 heq)];exact t8
  have r9:G9 rq=some (.lst rs):=by rw[<-hG9,av nrq.symm,av (aC r8 heq)];exact r8
  have k9:G9 kq=some (.lst (ws.map V.str)):=by rw[<-hG9,av nkq.symm,av (aC k8 heq)];exact k8
  have b9:SameBut p H G9:=hG9▸(b8.new (nfree _ _ b8 (by rw[p8];simp) heq)).self;refine vz (λv H'=>v=.str st/\H'=G9) (λQ q=>uM (v:=.str st) (aa rfl) (q _ _ ⟨rfl,rfl⟩)) p cG dx (λH' Q q=>aa rfl Q q) B.cl B.stuck ?_;rintro _ _ ⟨rfl,rfl⟩;refine⟨_,p9,by have:=(gl b kq rq tq eq).2.2.2.2;lia,?_⟩;refine q _ ⟨dx,kq,rq,tq,eq,ah,?_,?_,?_,?_⟩ b9.self
  .rw[av nkq.symm];exact k9
  .rw[av nrq.symm];exact r9
  .rw[av ntq.symm];exact t9
  .rw[av neq.symm];exact e9
end
section
variable{P:NP}{w:NT}{K:Frag}{mg:NH}{Ny:NZ}{aS aA aE aW:Addr}
theorem qf{f:Addr}{fd:NV}(F:bB K "are_holes" "are_holes" dE f fd)(T:Txt mg aS aA aE aW)(C:CA P w K mg Ny):bg P w K mg Ny cV 3 f fd ["thing","many"] rh:=by
 refine F.ok pL (λvs H Q E h=>?_) (λcdv A Nz s H vs Q E hr h=>?_)
 .obtain⟨d,m,hs,rfl,_⟩:=h;rfl
 .obtain⟨d,m,hs,rfl,hd,good,nd,hl,m64,k⟩:=h;have hu:=bS hr;have hS:aY K H d (hs.map V.int):=aY.of hd;refine⟨_,(af (bf (PW.pt (fP (bJ (bL (Bj .list T.isinstance T.list ir (cv 0)))) (eQ (aT K hu (kB (klen K) bT T.len (az (cv 0) pa_nil)) (cv 1))))) (am (aF gq)) aJ)
   (af (bf (bJ (bL (kB (DD K) qK T.all (az (gB (cC (N:=["hole","many"]) (src:=[none,some 1]) (ao dE) ["thing","many"]) (qQ K (cv 0)) (λ_ _ _=>(bD (i:=0) ["hole","many"])) (λ_ _ _=>bZ) (λ_ _ _=>(aH C.is_among hr (az (cv 0) (az ag (az (au (cv 1) ag) pa_nil)))))) pa_nil)))) (am (aF gq)) aJ)
   (am (aF (jv K hu (kB vb bT T.len (az (xA (M9 K hr) qH T.set (az (cv 0) pa_nil)) pa_nil)) (kB (klen K) bT T.len (az (cv 0) pa_nil))))))),?_⟩
  show bp _ _ _ [oR d,oJ m] H;refine bh (gy (ci (bb (JU (aa rfl) hd))) (λ_=>(bb (Hs (cS (aa rfl) (.inl hS)) (aa rfl))))) (λh=>?_) (λ_=>?_)
  .have h:decide (m<=((hs.map V.int).length:Int))=true:=h;have h:=NE h;rw[Rz]at h;lia
  refine dP (λb H'=>b=false/\ak H H') (λQ q=>?_) (λH' h=>by cases h.1) (λH1 h=>?_)
  .refine gF (d:=d) (xs:=hs.map V.int) (rest:=[oJ m]) (aa rfl) hS (by rw[Rz,NR];lia) rfl (λ_=>true) (λ_=>.bl true) (λx hx=>dM) (λx hx _=>?_) (λd' hd'=>?_)
   .obtain⟨z,hz,rfl⟩:=RA.mp hx;have g:=good z hz;refine aK (ae (aa rfl) (ae ar (ae (eT (aa rfl) ar) aw))) (λQ q=>⟨z,0,m - 1,rfl,?_⟩);rw[NA (by lia:0<=z/\z<=m - 1)];exact q
   .refine⟨List.replicate hs.length true,?_,?_⟩
    .have e:((hs.map V.int).filter λ_=>true).map (λ_=>V.bl true)=(List.replicate hs.length true).map V.bl:=by rw[R7.mpr (λ_ _=>rfl),RN,List.map_replicate];show hs.map (λ_=>V.bl true)=_;rw[List.map_const']
     rw[<-e];exact aY.of ah
    .have e:(List.replicate hs.length true).all id=true:=by simp
     rw[e];exact q _ _ ⟨rfl,(ak.refl H).upd hd'⟩
  obtain⟨_,s1⟩:=h;have hS1:=s1.seq hS;simp only[cM,fG,cB,bx,df];refine uM (aa rfl) ?_;refine⟨hs,hS1,by have:scanBound=4096:=rfl;lia,λq hq=>?_⟩;refine⟨_,_,ah,?_⟩;have s2:ak H1 (upd H1 q (.set (λk=>(uniq hs).any (· == k)) (uniq hs).length)):=(ak.refl H1).upd hq;refine uM (v:=.ref d) (aa rfl) ⟨_,.inl (s2.seq hS1),?_⟩;rw[Rz,(Ao hs).mpr nd];show Q (.bl (decide ((hs.length:Int)=hs.length))) _;rw[NA rfl];exact k _ (s1.trans ((ak.refl H1).upd hq))
theorem nK{f cB:Addr}{fd:NV}(F:bB K "__init__" "Board.__init__" bW f fd)(T:Txt mg aS aA aE aW)(B:kj K cB)(C:CB2 P w K mg Ny):bg P w K mg Ny cV 4 f fd ["self","wide","high","holes"] (pz K cB):=by
 refine F.ok jN (λvs H Q E h=>?_) (λcdv A Nz s H vs Q E hr h=>?_)
 .obtain⟨p,d,dx,wi,hi,hs,rfl,_⟩:=h;rfl
 .obtain⟨p,d,dx,wi,hi,hs,rfl,hp,hd,w1,w8,h1,h8,good,nd,hl,k⟩:=h;have hu:=bS hr;have m1:wi*hi<=8*8:=TV w8 h8 (by lia) (by lia);have m0:0<=wi*hi:=T2 (by lia) (by lia);have npd:p≠d:=hJ hp hd (by intro z;cases z);refine⟨_,(af (bf (PW.pt (fP (bJ (bL (aH C.is_among hr (az (cv 1) (az ag (az (kg T.LONGEST) pa_nil)))))) (eQ (bJ (bL (aH C.is_among hr (az (cv 2) (az ag (az (kg T.LONGEST) pa_nil))))))))) (am fF) aJ)
   (af (bf (bJ (bL (aH C.are_holes hr (az (cv 3) (az (au (cv 1) (cv 2)) pa_nil))))) (am fF) aJ)
   (af (jl K (cv 0) (cv 1))
   (af (jl K (cv 0) (cv 2))
   (af (jl K (cv 0) (kB (LY K) kY T.sorted (az (cv 3) pa_nil)))
   (am (jl K (cv 0) (gB (cC (N:=["square","self"]) (src:=[none,some 0]) (ao bW) ["self","wide","high","holes"]) (Cu T.range (az (au (cv 1) (cv 2)) pa_nil)) (λ_ _ _=>(bD (i:=0) ["square","self"])) (λ_ _ _=>bZ) (λ_ _ _=>(jv K hu (cv 0) (ck K (cv 1)))))))))))),?_⟩
  show bp _ _ _ [oR p,oJ wi,oJ hi,oR d] H;refine bh (gy (ci (bb (aK (ae (aa rfl) (ae ar (ae ar aw))) (λQ q=>⟨wi,1,8,rfl,q⟩)))) (λ_=>(ci (bb (aK (ae (aa rfl) (ae ar (ae ar aw))) (λQ q=>⟨hi,1,8,rfl,q⟩)))))) (λh=>?_) (λ_=>?_)
  .rw[NA (⟨w1,w8⟩:1<=wi/\wi<=8),NA (⟨h1,h8⟩:1<=hi/\hi<=8)]at h;cases h
  refine dP (λb H'=>b=false/\ak H H') (λQ q=>?_) (λH' h=>by cases h.1) (λH1 h=>?_)
  .exact kX (ae (aa rfl) (ae (eU (aa rfl) (aa rfl) (.inl ⟨by lia,by lia⟩)) aw)) ⟨d,wi*hi,hs,rfl,hd,good,nd,hl,by lia,λH' s=>q _ _ ⟨rfl,s⟩⟩
  obtain⟨_,s1⟩:=h;refine tL (aa rfl) (aa rfl) (s1 _ _ hp) B.cl B.wide (by decide) ?_;have a1:=bV "wide" (V.int wi) [];have a2:=bV "high" (V.int hi) (putF "wide" (V.int wi) []);simp only[List.length_nil]at a1;refine tL (aa rfl) (aa rfl) ah B.cl B.high (by lia) ?_;generalize hH3:upd (upd H1 p (HO.ins cB dx (putF "wide" (V.int wi) []))) p (HO.ins cB dx (putF "high" (V.int hi) (putF "wide" (V.int wi) [])))=H3;have p3:H3 p=some (.ins cB dx (putF "high" (V.int hi) (putF "wide" (V.int wi) []))):=hH3▸ah;have s3:SameBut p H H3:=hH3▸(s1.but.self.self);have d3:H3 d=some (.lst (hs.map V.int)):=s3 _ _ hd npd.symm;refine C2 (λv H'=>∃(hs':List Int)(q:Addr),v=.ref q/\hs'.Perm hs/\hs'.Pairwise (·<=·)/\H3 q=none/\H'=upd H3 q (.lst (hs'.map V.int))) (λQ q=>?_) p cB dx (λH' Q q=>aa rfl Q q) B.cl B.holes ?_
  .exact Nn (aa rfl) ⟨hs,aY.of d3,by lia,λhs' q' h1 h2 h3=>q _ _ ⟨hs',q',rfl,h1,h2,h3,rfl⟩⟩
  rintro _ _ ⟨hs',q,rfl,pm,sr,hq,rfl⟩;have npq:p≠q:=aC p3 hq;have a3:=bV "holes" (V.ref q) (putF "high" (V.int hi) (putF "wide" (V.int wi) []));refine⟨_,(by rw[av npq];exact p3),(by lia),?_⟩;generalize hH4:upd (upd H3 q (HO.lst (hs'.map V.int))) p (HO.ins cB dx (putF "holes" (V.ref q) (putF "high" (V.int hi) (putF "wide" (V.int wi) []))))=H4;have p4:H4 p=some (.ins cB dx (putF "holes" (V.ref q) (putF "high" (V.int hi) (putF "wide" (V.int wi) [])))):=hH4▸ah;have q4:H4 q=some (.lst (hs'.map V.int)):=by rw[<-hH4,av npq.symm,ah]
  have hqH:H q=none:=by
   cases e:H q with
   |none=>rfl
   |some o=>
    have:=s3 q o e npq.symm;rw[hq]at this;cases this
  have s4:SameBut p H H4:=hH4▸((s3.new hqH).self);have f4:Fl K H4 p "holes" (.ref q):=⟨cB,dx,_,p4,B.cl,B.holes,by rw[aB,ND rfl]⟩;refine vz (λv H'=>∃(pf:Addr),v=.ref pf/\H4 pf=none/\H'=upd H4 pf (.lst ((firmL wi hi hs').map V.bl))) (λQ k'=>?_) p cB dx (λH' Q q=>aa rfl Q q) B.cl B.firm ?_
  .refine j6 (n:=wi*hi) (rest:=[oR p]) (ae (eU (aa rfl) (aa rfl) (.inl ⟨by lia,by lia⟩)) aw) m0 (by rw[NR];lia) (by lia) rfl (λ_=>true) (λx=>match x with| .int i=>.bl (!decide (i∈hs'))|_=>.non) (λi hi=>dM) (λi hi _=>?_) (λd' hd'=>?_)
   .exact(uN (aa rfl) (ba (aa rfl) (f4)) (.inl (aY.of q4)))
   .refine k' _ _ ⟨d',rfl,hd',?_⟩;have e:(((List.range (wi*hi).toNat).map λ(i:Nat)=>V.int (0+(i:Int))).filter λ_=>true).map (λx=>match x with| .int i=>V.bl (!decide (i∈hs'))|_=>.non)=(firmL wi hi hs').map V.bl:=by rw[R7.mpr (λ_ _=>rfl),RN];unfold firmL;rw[RN];refine R9 λi _=>?_;show V.bl (!decide (0+(i:Int)∈hs'))=V.bl (!decide ((i:Int)∈hs'));rw[TU]
    rw[e]
  rintro _ _ ⟨pf,rfl,hpf,rfl⟩;have npf:p≠pf:=aC p4 hpf;have nqf:q≠pf:=aC q4 hpf;have hfH:H pf=none:=by
   cases e:H pf with
   |none=>rfl
   |some o=>
    have:=s4 pf o e npf.symm;rw[hpf]at this;cases this
  refine⟨_,(by rw[av npf];exact p4),(by lia),?_⟩;refine k hs' _ pm ⟨⟨dx,q,pf,ah,by rw[av npq.symm,av nqf];exact q4,by rw[av npf.symm,ah]⟩,w1,w8,h1,h8,λh hh=>good h (pm.mem_iff.mp hh),sr,pm.nodup_iff.mpr nd⟩ ((s4.new hfH).self)
theorem qb{f:Addr}{fd:NV}(F:bB K "column_of" "column_of" fu f fd)(T:Txt mg aS aA aE aW):bg P w K mg Ny cV 1 f fd ["wide","square"] GL:=by
 refine F.ok pH (λvs H Q E h=>?_) (λcdv A Nz s H vs Q E hr h=>?_)
 .obtain⟨a,b,rfl,_⟩:=h;rfl
 .obtain⟨a,b,rfl,a0,q⟩:=h;refine⟨_,(am (aF (au (cv 1) (cv 0)))),?_⟩;show cM _ _ [oJ a,oJ b] H;exact aO (aR (aa rfl) (aa rfl) (a0)) q
theorem xl{f:Addr}{fd:NV}(F:bB K "row_of" "row_of" iK f fd)(T:Txt mg aS aA aE aW):bg P w K mg Ny cV 1 f fd ["wide","square"] AB:=by
 refine F.ok wT (λvs H Q E h=>?_) (λcdv A Nz s H vs Q E hr h=>?_)
 .obtain⟨a,b,rfl,_⟩:=h;rfl
 .obtain⟨a,b,rfl,a0,a1,q⟩:=h;refine⟨_,(am (aF (au (cv 1) (cv 0)))),?_⟩;show cM _ _ [oJ a,oJ b] H;exact aO (bw (aa rfl) (aa rfl) (⟨a0,by lia⟩)) q
theorem pZ{f:Addr}{fd:NV}(F:bB K "square_at" "square_at" fm f fd)(T:Txt mg aS aA aE aW):bg P w K mg Ny cV 1 f fd ["wide","column","row"] Ay:=by
 refine F.ok pE (λvs H Q E h=>?_) (λcdv A Nz s H vs Q E hr h=>?_)
 .obtain⟨a,b,c,rfl,_⟩:=h;rfl
 .obtain⟨a,b,c,rfl,a0,a1,q⟩:=h;refine⟨_,(am (aF (au (au (cv 2) (cv 0)) (cv 1)))),?_⟩;show cM _ _ [oJ a,oJ b,oJ c] H;exact aO (bK (eU (aa rfl) (aa rfl) (.inr ⟨by lia,by lia⟩)) (aa rfl)) q
theorem mE{f cB:Addr}{fd:NV}(F:bB K "moved" "Board.moved" dk f fd)(T:Txt mg aS aA aE aW)(B:kj K cB)(C:CB P w K mg Ny):bg P w K mg Ny cV 2 f fd ["self","square","across","up"] (vE K cB):=by
 refine F.ok dQ (λvs H Q E h=>?_) (λcdv A Nz s H vs Q E hr h=>?_)
 .obtain⟨p,wi,hi,hs,sq,ax,up,rfl,_⟩:=h;rfl
 .obtain⟨p,wi,hi,hs,sq,ax,up,rfl,O,k⟩:=h;have hu:=bS hr;have w1:=O.w1;have w8:=O.w8;have fw:=O.wide B;have fh:=O.high B;obtain⟨pf,ff,hf⟩:=O.firm B;refine⟨_,(af (aD (i:=4) dQ.nd rfl (Or.inl rfl) (au (aH C.column_of hr (az (ck K (cv 0)) (az (cv 1) pa_nil))) (cv 2)))
   (af (aD (i:=5) dQ.nd rfl (Or.inl rfl) (au (aH C.row_of hr (az (ck K (cv 0)) (az (cv 1) pa_nil))) (cv 3)))
   (af (bf (PW.pt (fP (bJ (lO K hu ag (cv 4) (ck K (cv 0)))) (eQ (bJ (lO K hu ag (cv 5) (ck K (cv 0))))))) (am (aF dw)) aJ)
   (af (aD (i:=6) dQ.nd rfl (Or.inl rfl) (aH C.square_at hr (az (ck K (cv 0)) (az (cv 4) (az (cv 5) pa_nil)))))
   (am (aF (dn (bL (bR K (ck K (cv 0)) (cv 6))) (cv 6) dw))))))),?_⟩
  show bp _ _ _ [oR p,oJ sq,oJ ax,oJ up,none,none,none] H;refine aU (bK (aK (ae (ba (aa rfl) (fw)) (ae (aa rfl) aw)) (λQ q=>⟨wi,sq,rfl,by lia,q⟩)) (aa rfl)) ?_;refine aU (bK (aK (ae (ba (aa rfl) (fw)) (ae (aa rfl) aw)) (λQ q=>⟨wi,sq,rfl,by lia,by lia,q⟩)) (aa rfl)) ?_;unfold Kx at k;generalize hc:sq % wi+ax=c at k;generalize hr':sq / wi+up=r at k;refine bh (gy (ci (lH ar (aa rfl) (λ_=>(ba (aa rfl) (fw))))) (λ_=>(ci (lH ar (aa rfl) (λ_=>(ba (aa rfl) (fh))))))) (λh=>?_) (λh=>?_)
  .show cM _ _ _ _;refine aO ar ?_;rw[NC (λz=>by rw[NA (⟨z.1,z.2.1⟩:0<=c/\c<wi),NA (⟨z.2.2.1,z.2.2.2⟩:0<=r/\r<hi)]at h;cases h)]at k;exact k
  .have h2:(0<=c/\c<wi)/\(0<=r/\r<hi):=by
    by_cases a:0<=c/\c<wi
    .by_cases b:0<=r/\r<hi
     .exact⟨a,b⟩
     .rw[NA a,NB b]at h;cases h
    .rw[NB a]at h;cases h
   rw[ND ⟨h2.1.1,h2.1.2,h2.2.1,h2.2.2⟩]at k;refine aU (aK (ae (ba (aa rfl) (fw)) (ae (aa rfl) (ae (aa rfl) aw))) (λQ q=>⟨wi,c,r,rfl,by lia,by lia,q⟩)) ?_;have g0:0<=r*wi+c:=by have:=T2 h2.2.1 (by lia:0<=wi);lia
   have g1:r*wi+c<wi*hi:=by
    have:r*wi<=(hi - 1)*wi:=T3 (by lia) (by lia);have e:(hi - 1)*wi=wi*hi - wi:=by rw[Int.sub_mul,TY,TW]
    lia
   show cM _ _ _ _;refine aO (v:=if(!decide (r*wi+c∈hs))=true then .int (r*wi+c)else .non) (sI (bb (aQ (ba (aa rfl) (ff)) (aa rfl) (.inl (aY.of hf)) (DS g0 g1))) (λ_=>(aa rfl)) (λ_=>ar)) ?_
   by_cases m:r*wi+c∈hs
   .rw[NA m];rw[ND m]at k;exact k
   .rw[NB m];rw[NC m]at k;exact k
theorem Jp{f cB:Addr}{fd:NV}(F:bB K "ray" "ray" rC f fd)(T:Txt mg aS aA aE aW)(B:kj K cB)(C:CB3 P w K mg Ny cB):bg P w K mg Ny cV 3 f fd ["board","square","across","up"] (GH K cB):=by
 refine F.ok pF (λvs H Q E h=>?_) (λcdv A Nz s H vs Q E hr h=>?_)
 .obtain⟨p,wi,hi,hs,sq,ax,up,rfl,_⟩:=h;rfl
 .obtain⟨p,wi,hi,hs,sq,ax,up,rfl,O,s0,s1,n0,k⟩:=h;have hu:=bS hr;have w1:=O.w1;have w8:=O.w8;have m0:=TN sq (by lia:wi≠0);have m1:=TQ sq (by lia:0<wi);refine⟨_,(af (bf (PW.pt (gk (aT K hu (cv 2) ag) (fg (aT K hu (cv 3) ag)))) (am (aF (bi pa_nil))) aJ)
   (af (aD (i:=4) pF.nd rfl (Or.inl rfl) (bi pa_nil))
   (af (aD (i:=5) pF.nd rfl (Or.inl rfl) (sx C.Board_moved hr (cv 0) (az (cv 1) (az (cv 2) (az (cv 3) pa_nil)))))
   (af (rF N8 (aT K hu (cv 5) dw) (af (dt (gQ (cv 4) (cv 5)))
   (am (aD (i:=5) pF.nd rfl (Or.inl rfl) (sx C.Board_moved hr (cv 0) (az (cv 5) (az (cv 2) (az (cv 3) pa_nil))))))))
   (am (aF (cv 4))))))),?_⟩
  show bp _ _ _ [oR p,oJ sq,oJ ax,oJ up,none,none] H;refine bh (ic (bb (gC (aa rfl) ar)) (λ_=>(bb (gC (aa rfl) ar)))) (λh=>?_) (λ_=>?_)
  .rw[T6]at h;exact NG ⟨NE h.1,NE h.2⟩ n0
  refine gH λq hq=>?_;have sm:ak H (upd H q (.lst [])):=(ak.refl H).upd hq;have O1:=O.same sm;refine aU (v:=oI (if oe wi hi hs sq ax up 1 then some (lX wi sq ax up 1)else none)) (qv (p:=p) (aa rfl) O1.no (ae (aa rfl) (ae (aa rfl) (ae (aa rfl) aw))) (λQ q=>⟨p,wi,hi,hs,sq,ax,up,rfl,O1,?_⟩)) ?_
  .have e:=lN (hi:=hi) (hs:=hs) (s:=sq) (ax:=ax) (up:=up) (k:=0) w1 (by simp;exact m0) (by simp;exact m1);rw[qW w1]at e;rw[e];exact q
  refine⟨λm σ' H'=>∃i:Nat,m=8 - i/\i<=8/\(∀j<i,oe wi hi hs sq ax up (j+1))/\σ'=[oR p,oJ sq,oJ ax,oJ up,oR q,some (oI (if oe wi hi hs sq ax up (i+1)then some (lX wi sq ax up (i+1))else none))]/\H' q=some (.lst ((rayL wi sq ax up i).map V.int))/\ak H H',
   ⟨8,0,rfl,by lia,λj hj=>by lia,rfl,ah,sm⟩,?_⟩
  rintro m _ H1 ⟨i,rfl,hi8,hok,rfl,hl,hs1⟩
  by_cases hk:oe wi hi hs sq ax up (i+1)
  .rw[ND hk];have hlt:=uu w8 O.h8 w1 s0 s1 n0 hk;refine(bb (io (aa rfl) ar)) _ (iR ⟨_,λ_ _ h=>h,?_⟩);refine II (aa rfl) (aa rfl) hl (by rw[Rz,hG,NR];lia) ?_;have s2:ak H (upd H1 q (.lst ((rayL wi sq ax up i).map V.int++[.int (lX wi sq ax up (i+1))]))):=hs1.put hq;have O2:=O.same s2;refine ii (v:=oI (if oe wi hi hs sq ax up (i+1+1)then some (lX wi sq ax up (i+1+1))else none)) (qv (p:=p) (aa rfl) O2.no (ae (aa rfl) (ae (aa rfl) (ae (aa rfl) aw))) (λQ q=>⟨p,wi,hi,hs,lX wi sq ax up (i+1),ax,up,rfl,O2,?_⟩)) ?_
   .rw[lN w1 hk.1 hk.2.1];exact q
   .refine⟨8 - (i+1),by lia,i+1,rfl,by lia,λj hj=>?_,rfl,?_,s2⟩
    .by_cases e:j=i
     .subst e;exact hk
     .exact hok j (by lia)
    .rw[ah,wY,RQ];rfl
  .rw[NC hk];refine(bb (gt (aa rfl) ar)) _ (iB ?_);dsimp only;exact aO (aa rfl) (k i q H1 ⟨hok,hk⟩ hi8 hq hl hs1)
theorem uj{f:Addr}{fd:NV}(F:bB K "kind_of" "kind_of" gW f fd)(T:Txt mg aS aA aE aW):bg P w K mg Ny cV 1 f fd ["sign"] tN:=by
 refine F.ok tW (λvs H Q E h=>?_) (λcdv A Nz s H vs Q E hr h=>?_)
 .obtain⟨c,rfl,_⟩:=h;rfl
 .obtain⟨c,rfl,hc,q⟩:=h;have hu:=bS hr;refine⟨_,(am (aF (dn (aT K hu (cv 0) (ce (az (kg T.EMPTY) (az (kg T.HOLE) pa_nil)))) dw (jx PySem.F.slot_str_lower PySem.F.type_str_lower ux (cv 0))))),?_⟩;show cM _ _ [oT (one c)] H;simp only[cM,MN];refine Hk (aa rfl) BO wg (λH' s=>?_);have k:=q H' s;unfold jm at k
  by_cases h:c=46\/c=35
  .rw[NA h];rw[ND h]at k;exact iR (uM ar k)
  .rw[NB h];rw[NC h]at k;exact iB (uM (BK (aa rfl) hc) k)
theorem ui{f:Addr}{fd:NV}(F:bB K "side_of" "side_of" gU f fd)(T:Txt mg aS aA aE aW):bg P w K mg Ny cV 1 f fd ["sign"] lZ:=by
 refine F.ok tV (λvs H Q E h=>?_) (λcdv A Nz s H vs Q E hr h=>?_)
 .obtain⟨c,rfl,_⟩:=h;rfl
 .obtain⟨c,rfl,hc,q⟩:=h;have hu:=bS hr;refine⟨_,(af (bf (aT K hu (cv 0) (ce (az (kg T.EMPTY) (az (kg T.HOLE) pa_nil)))) (am (aF dw)) aJ)
   (am (aF (dn (bL (jx PySem.F.slot_str_isupper PySem.F.type_str_isupper Js (cv 0))) ag ag)))),?_⟩
  show bp _ _ _ [oT (one c)] H;unfold bP at q;refine dP (λb H'=>b=decide (c=46\/c=35)/\ak H H') (λQ q=>Hk (aa rfl) BO wg (λH' s=>q _ _ ⟨rfl,s⟩)) (λH1 h=>?_) (λH1 h=>?_)
  .have k:=q H1 h.2;rw[ND (NE h.1.symm)]at k;exact aO ar k
  .have k:=q H1 h.2;rw[NC (NF h.1.symm)]at k;refine aO (sI (bb (Mn (aa rfl) hc)) (λ_=>ar) (λ_=>ar)) ?_
   by_cases g:65<=c/\c<=90
   .rw[NA g];rw[ND g]at k;exact k
   .rw[NB g];rw[NC g]at k;exact k
end
section
variable{P:NP}{w:NT}{K:Frag}{mg:NH}{Ny:NZ}{aS aA aE aW:Addr}
theorem Dq{f:Addr}{fd:NV}(F:bB K "slid" "slid" mn f fd)(T:Txt mg aS aA aE aW)(C:CRs P w K mg Ny):bg P w K mg Ny cV 2 f fd ["row","side","aim","path"] (Az K):=by
 refine F.ok lL (λvs H Q E h=>?_) (λcdv A Nz s H vs Q E hr h=>?_)
 .obtain⟨row,aim,sd,p,path,rfl,_⟩:=h;rfl
 .obtain⟨row,aim,sd,p,path,rfl,hp,R,hg,h8,k⟩:=h;have hu:=bS hr;have rl:=R.len;refine⟨_,(af (aD (i:=4) lL.nd rfl (Or.inl rfl) (bi pa_nil))
   (af (fJ N8 rfl (qQ K (cv 3)) (bN (i:=5) lL.nd rfl (Or.inl rfl)) (af (aD (i:=6) lL.nd rfl (Or.inl rfl) (aH C.side_of hr (az (bR K (cv 0) (cv 5)) pa_nil)))
   (af (bf (aT K hu (cv 6) dw) (af (bf (PW.pt (gk (aT K hu (cv 6) (cv 1)) (fg (aT K hu (cv 2) bz)))) (am (dt (gQ (cv 4) (ce (az (cv 5) (az (cv 5) pa_nil)))))) aJ)
   (am AT)) aJ)
   (am (bf (aT K hu (cv 2) bz) (am (dt (gQ (cv 4) (ce (az (cv 5) (az (kg T.NOTHING) pa_nil)))))) aJ)))))
   (am (aF (cv 4))))),?_⟩
  show bp _ _ _ [oT row,oJ sd,oT aim,oR p,none,none,none] H;refine gH λq hq=>?_;have sm:ak H (upd H q (.lst [])):=(ak.refl H).upd hq;refine cb (λσ' H'=>(∃o5 o6,σ'=[oT row,oJ sd,oT aim,oR p,oR q,o5,o6])/\bA H H' q (de row sd aim path)/\ak H H') (λK' hK=>?_) ?_
  .refine hZ (λv H'=>v=.ref p/\H'=upd H q (.lst [])) (λQ z=>aa rfl _ (z _ _ ⟨rfl,rfl⟩)) ?_;rintro _ _ ⟨rfl,rfl⟩;refine⟨p,path.map V.int,rfl,sm.seq hp,λi σ' H'=>∃(l:List (Int×Int)),(∃o5 o6,σ'=[oT row,oJ sd,oT aim,oR p,oR q,o5,o6])/\bA H H' q l/\l.length<=i/\l++de row sd aim (path.drop i)=de row sd aim path/\ak H H',⟨[],⟨_,_,rfl⟩,bA.nil,Tl _,rfl,sm⟩,?_,?_,?_⟩
   .rintro i σ' H' _ ⟨_,_,_,_,_,s1⟩;exact s1.seq hp
   .rintro i x _ H1 hx ⟨l,⟨o5,o6,rfl⟩,⟨ps,p1,p2,p3⟩,ll,el,s1⟩;have hi:i<path.length:=by
     have:=(RO.mp hx).1
     rwa[Rz]at this
    obtain rfl:x=.int path[i]:=by rw[RE,RC hi]at hx;exact(Option.some.inj hx).symm
    have hd:path.drop i=path[i]::path.drop (i+1):=SB hi;obtain⟨g0,g1⟩:=hg _ (RU hi);generalize path[i]=g at hd g0 g1;obtain⟨at1,at2⟩:=R.at g0 g1;rw[hd,ij]at el;show bp _ _ _ [oT row,oJ sd,oT aim,oR p,oR q,oJ g,o6] H1;refine bI (λv H'=>v=sdV row g/\ak H1 H') (λQ z=>(ae (cT (aa rfl) (aa rfl) (by rw[NR];lia) at1) aw) _ ⟨_,rfl,at2,λH2 s2=>z _ _ ⟨rfl,s2⟩⟩) ?_;rintro _ H2 ⟨rfl,s2⟩;have p2':=s2 _ _ p2;have p3':∀p∈ps,H p.2=none/\H2 p.2=some (.tup (p.1.map V.int)):=λp h=>⟨(p3 p h).1,s2 _ _ (p3 p h).2⟩;have s3:=s1.trans s2;have lz:(ps.map λz=>V.ref z.2).length=l.length:=by have:=congrArg List.length p1;rw[Rz,Rz]at this;rw[Rz,this]
    by_cases hn:sdV row g=.non
    .rw[ND hn]at el;refine bh (b:=false) ?_ (λz=>nomatch z) λ_=>?_
     .rw[hn];exact bb (gt (aa rfl) ar)
     .refine jE (bb (kW (aa rfl) ar)) (λh=>?_) (λh=>?_)
      .have ha:¬aim="hit":=λz=>by rw[z]at h;simp at h
       rw[NC ha]at el;refine lv (aa rfl) ⟨_,p2'⟩ (ig (aa rfl) (ar (x:=.int (-1))) λt ht=>?_);have nt:q≠t:=λz=>by rw[<-z,p2']at ht;cases ht
       refine⟨_,by rw[av nt];exact p2',by rw[lz,NR];lia,l++[(g, -1)],⟨_,_,rfl⟩,bA.add p1 p2' p3' s3 ht,by rw[RI];show l.length+1<=_;lia,by rw[Sl];exact el,?_⟩;exact(s3.upd ht).put hq
      .have ha:aim="hit":=by simpa using h
       rw[ND ha]at el;exact⟨l,⟨_,_,rfl⟩,⟨ps,p1,p2',p3'⟩,by lia,el,s3⟩
    .rw[NC hn]at el;obtain⟨v,hv⟩:∃v,sdV row g=.int v:=by
      unfold sdV bP at hn ⊢;split
      .rename_i z;rw[ND z]at hn;exact NG rfl hn
      .exact⟨_,rfl⟩
     rw[hv]at el ⊢;refine bh (b:=true) (bb (io (aa rfl) ar)) (λ_=>?_) (λz=>nomatch z);refine bh (ic (bb (mQ (aa rfl) (aa rfl))) (λ_=>(bb (kW (aa rfl) ar)))) (λh=>?_) (λh=>?_)
     .rw[T6]at h;have h1:¬v=sd:=λz=>by have:=h.1;rw[z]at this;simp at this
      have h2:¬aim="go":=λz=>by have:=h.2;rw[z]at this;simp at this
      rw[ND ⟨λz=>h1 (by injection z),h2⟩]at el;refine lv (aa rfl) ⟨_,p2'⟩ (ig (aa rfl) (aa rfl) λt ht=>?_);have nt:q≠t:=λz=>by rw[<-z,p2']at ht;cases ht
      refine⟨_,by rw[av nt];exact p2',by rw[lz,NR];lia,hK _ _ ⟨⟨_,_,rfl⟩,?_,(s3.upd ht).put hq⟩⟩;rw[<-el];exact bA.add p1 p2' p3' s3 ht
     .have h3:¬(¬v=sd/\¬aim="go"):=λz=>by simp[z.1,z.2]at h
      rw[NC (λz=>h3 ⟨λw=>z.1 (by rw[w]),z.2⟩),RP]at el;refine hK _ _ ⟨⟨_,_,rfl⟩,?_,s3⟩;rw[<-el];exact⟨ps,p1,p2',p3'⟩
   .rintro σ' H' ⟨l,o,hP,_,el,s1⟩;rw[Rz,List.drop_length]at el;refine hK _ _ ⟨o,?_,s1⟩;rw[<-el];simpa[de]using hP
  .rintro _ H1 ⟨⟨o5,o6,rfl⟩,hP,s1⟩;exact aO (aa rfl) (k q H1 hq hP s1)
theorem xm{f:Addr}{fd:NV}(F:bB K "jumped" "jumped" iL f fd)(T:Txt mg aS aA aE aW)(C:CRs P w K mg Ny):bg P w K mg Ny cV 2 f fd ["row","side","path"] (AE K):=by
 refine F.ok wU (λvs H Q E h=>?_) (λcdv A Nz s H vs Q E hr h=>?_)
 .obtain⟨row,sd,p,path,rfl,_⟩:=h;rfl
 .obtain⟨row,sd,p,path,rfl,hp,R,hg,hsd,k⟩:=h;have hu:=bS hr;have rl:=R.len;refine⟨_,(af (bf (PW.pt (fP (aT K hu (kB (klen K) bT T.len (az (cv 2) pa_nil)) ag) (fP (aT K hu (aH C.side_of hr (az (bR K (cv 0) (bR K (cv 2) ag)) pa_nil)) (au ag (cv 1))) (eQ (aT K hu (aH C.side_of hr (az (bR K (cv 0) (bR K (cv 2) ag)) pa_nil)) dw))))) (am (aF (bi pa_nil))) aJ)
   (am (aF (bi (az (ce (az (bR K (cv 2) ag) (az (bR K (cv 2) ag) pa_nil))) pa_nil))))),?_⟩
  show bp _ _ _ [oT row,oJ sd,oR p] H;refine dP (λb H'=>ak H H'/\(b=true->jumpL row sd path=[])/\(b=false->∃g b' r,path=g::b'::r/\jumpL row sd path=[(b',g)])) (λQ z=>?_) (λH' ⟨s1,e,_⟩=>?_) (λH' ⟨s1,_,e⟩=>?_)
  .refine IC (b:=decide (((path.map V.int).length:Int)<2)) (bb (sH (cS (aa rfl) (.inl hp)) ar)) (λh=>z _ _ ⟨ak.refl H,λ_=>?_,λw=>nomatch w⟩) (λh=>?_)
   .have:=NE h;rw[Rz]at this
    match path,this with
    | [],_=>rfl
    | [_],_=>rfl
    |_::_::_,w=>simp at w;lia
   .have hl:=NF h;rw[Rz]at hl;obtain⟨g,b,r,rfl⟩:∃g b r,path=g::b::r:=by
     match path,hl with
     | [],w=>simp at w
     | [_],w=>simp at w
     |g::b::r,_=>exact⟨g,b,r,rfl⟩
    obtain⟨g0,g1⟩:=hg g (by simp);obtain⟨b0,b1⟩:=hg b (by simp);obtain⟨x1,x2⟩:=R.at g0 g1;obtain⟨y1,y2⟩:=R.at b0 b1;refine Lq (BP (ae (cT (aa rfl) (aQ (x:=.int g) (aa rfl) ar (.inl hp) (bO (j:=0) rfl)) (by rw[NR];lia) x1) aw) ⟨_,rfl,x2,λH2 s2=>uM (eT ar (aa rfl)) ?_⟩);rw[C6];show if(!decide (sdV row g=.int (1 - sd)))=true then _ else _
    by_cases h1:sdV row g=.int (1 - sd)
    .rw[NA h1];refine iB (BP (ae (cT (aa rfl) (aQ (x:=.int b) (aa rfl) ar (.inl (s2.seq hp)) (bO (j:=1) rfl)) (by rw[NR];lia) y1) aw) ⟨_,rfl,y2,λH3 s3=>uM ar ?_⟩);rw[tQ];show Q (!decide (sdV row b=.non)) H3;refine z _ _ ⟨s2.trans s3,λh2=>?_,λh2=>⟨g,b,r,rfl,?_⟩⟩
     .show(if _ then _ else _)=_;rw[NC (λw=>by rw[NA w.2]at h2;cases h2)]
     .show(if _ then _ else _)=_;rw[ND ⟨h1,by simpa using h2⟩]
    .rw[NB h1];refine iR (z _ _ ⟨s2,λ_=>?_,λw=>nomatch w⟩);show(if _ then _ else _)=_;rw[NC (λw=>h1 w.1)]
  .refine⟨Tl _,λq hq=>k q _ (s1.free hq) ?_ (s1.upd hq)⟩;rw[e rfl];exact⟨[],rfl,ah,λ_ z=>nomatch z⟩
  .obtain⟨g,b,r,rfl,e⟩:=e rfl;have hp2:=s1.seq hp;refine lq (ig (x:=.int b) (y:=.int g) (aQ (aa rfl) ar (.inl hp2) (bO (j:=1) rfl)) (aQ (aa rfl) ar (.inl hp2) (bO (j:=0) rfl)) λt ht=>⟨by show 1<=sizeLine;decide,λq hq=>?_⟩);have hq1:H' q=none:=by
    by_cases w:q=t
    .rw[w];exact ht
    .rw[av w]at hq;exact hq
   have nt:t≠q:=λw=>by rw[w,ah]at hq;cases hq
   refine k q _ (s1.free hq1) ?_ ((s1.upd ht).upd hq);rw[e];refine⟨[([b,g],t)],rfl,ah,λp hp=>?_⟩;rw[RL.mp hp];exact⟨s1.free ht,by rw[av nt,ah];rfl⟩
theorem ur{f cB:Addr}{fd:NV}(F:bB K "by_rule" "by_rule" g8 f fd)(T:Txt mg aS aA aE aW)(C:CRb P w K mg Ny cB):bg P w K mg Ny cV 4 f fd ["board","row","square","rule"] (rj K cB):=by
 refine F.ok jt (λvs H Q E h=>?_) (λcdv A Nz s H vs Q E hr h=>?_)
 .obtain⟨b,r,row,sq,sd,wi,hi,hs,u,rfl,_⟩:=h;rfl
 .obtain⟨b,r,row,sq,sd,wi,hi,hs,u,rfl,B,hT,R,rl,s0,s1,hsd,sd2,n0,k⟩:=h;have hu:=bS hr;have r64:=R.len;obtain⟨x1,x2⟩:=R.at s0 (by lia);refine⟨_,(af (aD (i:=4) jt.nd rfl (Or.inl rfl) (aH C.side_of hr (az (bR K (cv 1) (cv 2)) pa_nil)))
   (af (aD (i:=5) jt.nd rfl (Or.inl rfl) (aH C.ray hr (az (cv 0) (az (cv 2) (az (bR K (cv 3) ag) (az (dn (aT K hu (cv 4) ag) (bR K (cv 3) ag) (jy (bR K (cv 3) ag))) pa_nil))))))
   (af (bf (aT K hu (bR K (cv 3) ag) bz) (am (aF (aH C.jumped hr (az (cv 1) (az (cv 4) (az (cv 5) pa_nil)))))) aJ)
   (am (aF (aH C.slid hr (az (cv 1) (az (cv 4) (az (bR K (cv 3) ag) (az (dn (aT K hu (bR K (cv 3) ag) bz) (Bi K (cv 5) du (cK ag)) (cv 5)) pa_nil)))))))))),?_⟩
  show bp _ _ _ [oR b,oT row,oJ sq,oR r,none,none] H;refine bI (λv H'=>v=sdV row sq/\ak H H') (λQ z=>(ae (cT (aa rfl) (aa rfl) (by rw[NR];lia) x1) aw) _ ⟨_,rfl,x2,λH2 s2=>z _ _ ⟨rfl,s2⟩⟩) ?_;rintro _ H1 ⟨rfl,q1⟩;rw[hsd];have T1:∀{H'},ak H H'->cr K H' r u.vs:=λz=>ak.tupY z hT;have dy0:¬(u.ax=0/\u.dy sd=0):=λz=>n0 ⟨z.1,by have:=z.2;unfold aP.dy at this;split at this<;>lia⟩;refine bI (λv H'=>∃n q,v=.ref q/\ib wi hi hs sq u.ax (u.dy sd) n/\n<=8/\H' q=some (.lst ((rayL wi sq u.ax (u.dy sd) n).map V.int))/\ak H1 H')
   (λQ z=>(ae (aa rfl) (ae (aa rfl) (ae (aQ (x:=.int u.ax) (aa rfl) ar (.inr (T1 q1)) rfl) (ae (x:=.int (u.dy sd)) (λQ' z'=>?_) aw)))) _ ⟨b,wi,hi,hs,sq,u.ax,u.dy sd,rfl,B.same q1,s0,s1,dy0,λn q H' a1 a2 _ a4 a5=>z _ _ ⟨n,q,rfl,a1,a2,a4,a5⟩⟩) ?_
  .refine nT (b:=decide (sd=0)) (bb (gC (aa rfl) ar)) (λh=>?_) (λh=>?_)
   .have h:=NE h;rw[show u.dy sd=u.up by unfold aP.dy;rw[ND h]]at z';exact aQ (x:=.int u.up) (aa rfl) ar (.inr (T1 q1)) rfl _ z'
   .have h:=NF h;rw[show u.dy sd= -u.up by unfold aP.dy;rw[NC h]]at z';exact jw (aQ (x:=.int u.up) (aa rfl) ar (.inr (T1 q1)) rfl) _ z'
  rintro _ H2 ⟨n,q,rfl,ry,n8,hq,q2⟩;have q3:=q1.trans q2;have inr:∀g∈rayL wi sq u.ax (u.dy sd) n,0<=g/\g<(row.length:Int):=λg hg=>by obtain⟨a,b,_⟩:=pO B.w1 ry g hg;lia
  have free:∀{p:Addr},H2 p=none->H p=none:=λ{p} h=>q3.free h;refine bh (b:=decide (u.so="jump")) (bb (eC (aQ (x:=.str u.so) (aa rfl) ar (.inr (T1 q3)) rfl) ar)) (λh=>?_) (λh=>?_)
  .have h:=NE h;refine GU ((ae (aa rfl) (ae (aa rfl) (ae (aa rfl) aw))) _ ⟨row,sd,q,_,rfl,.inl (.inl hq),R,inr,sd2,λt H' t1 t2 t3=>k n t H' ry n8 (free t1) ?_ (q3.trans t3)⟩);unfold qG;rw[ND h];exact t2.from q3
  .have h:=NF h;refine GU ((aa rfl) _ ((aa rfl) _ ((aQ (x:=.str u.ai) (aa rfl) ar (.inr (T1 q3)) rfl) _ ?_)));refine nT (b:=decide (u.so="leap")) (bb (eC (aQ (x:=.str u.so) (aa rfl) ar (.inr (T1 q3)) rfl) ar)) (λh2=>?_) (λh2=>?_)
   .have h2:=NE h2;refine l9 (lo:=none) (hi:=some 1) (aa rfl) jj (iz ar) (.inl (.inl hq)) λp hp=>?_;have q4:ak H (upd H2 p (.lst (cutV ((rayL wi sq u.ax (u.dy sd) n).map V.int) none (some 1)))):=q3.upd hp;have ec:cutV ((rayL wi sq u.ax (u.dy sd) n).map V.int) none (some 1)=((rayL wi sq u.ax (u.dy sd) n).take 1).map V.int:=by exact Mr _
    refine⟨row,u.ai,sd,p,(rayL wi sq u.ax (u.dy sd) n).take 1,rfl,.inl (.inl (by rw[ec];exact ah)),R,λg hg=>inr g (Ss hg),by rw[RV];lia,λt H' t1 t2 t3=>k n t H' ry n8 (q4.free t1) ?_ (q4.trans t3)⟩;unfold qG;rw[NC h,ND h2];exact t2.from q4
   .have h2:=NF h2;refine(aa rfl) _ ⟨row,u.ai,sd,q,_,rfl,.inl (.inl hq),R,inr,by rw[hG];exact n8,λt H' t1 t2 t3=>k n t H' ry n8 (free t1) ?_ (q3.trans t3)⟩;unfold qG;rw[NC h,NC h2];exact t2.from q3
end
section
variable{P:NP}{w:NT}{K:Frag}{mg:NH}{Ny:NZ}{aS aA aE aW:Addr}
theorem kN{f cG:Addr}{fd:NV}(F:bB K "rules_of" "Game.rules_of" cf f fd)(T:Txt mg aS aA aE aW)(D:vm K cG):bg P w K mg Ny cV 1 f fd ["self","kind"] (nY cG):=by
 refine F.ok kG (λvs H Q E h=>?_) (λcdv A Nz s H vs Q E hr h=>?_)
 .obtain⟨g,b,kd,ks,ts,es,st,us,rfl,_⟩:=h;rfl
 .obtain⟨g,b,kd,ks,ts,es,st,us,rfl,G,R,h24,k⟩:=h;have hu:=bS hr;obtain⟨rq,fl,hrq⟩:=G.rules D;refine⟨_,(am (aF (gB (cC (N:=["rule","kind"]) (src:=[none,some 1]) (ao cf) ["self","kind"]) (qQ K (ck K (cv 0))) (λ_ _ _=>(bD (i:=0) ["rule","kind"])) (λ_ _ _=>(jT (aT K hu (bR K (cv 0) ag) (cv 1)))) (λ_ _ _=>(cv 0))))),?_⟩;show tComp _ _ _ _ _ [oR g,oT kd] H Q;refine gF (d:=rq) (xs:=cF us) (rest:=[oT kd]) (ba (aa rfl) fl) (aY.of hrq) (by rw[Rz,NR];lia) rfl (MR us kd) (λv=>v) (λx hx=>?_) (λx hx _=>aa rfl) (λd hd=>?_)
  .obtain⟨z,hz,rfl⟩:=RA.mp hx;rw[Bm R hz];exact bb (eC (aQ (x:=.str z.1.kd) (aa rfl) ar (.inr (.inl (.inl (R z hz)))) rfl) (aa rfl))
  .rw[uF R,List.map_id'']
   .exact k d _ hd ah ((ak.refl H).upd hd)
   .exact λ_=>rfl
theorem A4{f cB cG:Addr}{fd:NV}(F:bB K "goals" "goals" jO f fd)(T:Txt mg aS aA aE aW)(D:vm K cG)(C:CRg P w K mg Ny cB cG):bg P w K mg Ny cV 5 f fd ["game","row","square"] (px K cB cG):=by
 refine F.ok mi (λvs H Q E h=>?_) (λcdv A Nz s H vs Q E hr h=>?_)
 .obtain⟨g,b,row,kd,sq,sd,wi,hi,hs,ks,ts,es,st,us,rfl,_⟩:=h;rfl
 .obtain⟨g,b,row,kd,sq,sd,wi,hi,hs,ks,ts,es,st,us,rfl,G,B,U,u12,un0,R,rl,s0,s1,hsd,sd2,hkd,few,k⟩:=h;have hu:=bS hr;have r64:=R.len;obtain⟨x1,x2⟩:=R.at s0 (by lia);have ol:(ofKind us kd).length<=12:=Tn (Sf _ _) u12;have osub:∀z∈ofKind us kd,z∈us:=λz hz=>(R0.mp hz).1;refine⟨_,(af (aD (i:=3) mi.nd rfl (Or.inl rfl) (bi pa_nil))
   (af (fJ N8 rfl (qQ K (sx C.Game_rules_of hr (cv 0) (az (aH C.kind_of hr (az (bR K (cv 1) (cv 2)) pa_nil)) pa_nil))) (bN (i:=4) mi.nd rfl (Or.inl rfl)) (am (dt (B7 (cv 3) (aH C.by_rule hr (az (ck K (cv 0)) (az (cv 1) (az (cv 2) (az (cv 4) pa_nil)))))))))
   (am (aF (kB (Jx P w hr) kY T.sorted (az (xA (L4 P w K hr) qH T.set (az (cv 3) pa_nil)) pa_nil)))))),?_⟩
  show bp _ _ _ [oR g,oT row,oJ sq,none,none] H;refine gH λq hq=>?_;have sm:ak H (upd H q (.lst [])):=(ak.refl H).upd hq;refine cb (λσ' H'=>(∃o,σ'=[oR g,oT row,oJ sq,oR q,o])/\(∃l,aX wi hi hs row sq sd (ofKind us kd) l/\bA H H' q l)/\ak H H') (λK' hK=>?_) ?_
  .refine hZ (λv H'=>∃d,v=.ref d/\H' d=some (.lst (cF (ofKind us kd)))/\d≠q/\ak (upd H q (.lst [])) H') (λQ z=>?_) ?_
   .refine(show Ev (fM 0) _ _ (.ref g)from aa rfl) _ ⟨(G.same sm).no,ME ((ae (cT (aa rfl) (aa rfl) (by rw[NR];lia) x1) aw) _ ⟨_,rfl,x2,λH2 s2=>?_⟩)⟩;rw[hkd];refine⟨g,b,kd,ks,ts,es,st,us,rfl,(G.same sm).same s2,(U.same sm).same s2,by lia,λd H' d1 d2 d3=>z _ _ ⟨d,rfl,d2,λe=>?_,s2.trans d3⟩⟩;rw[e,s2 _ _ ah]at d1;cases d1
   .rintro _ H1 ⟨d,rfl,hd,ndq,s1'⟩;refine⟨d,cF (ofKind us kd),rfl,aY.of hd,λi σ' H'=>(∃o,σ'=[oR g,oT row,oJ sq,oR q,o])/\(∃l,aX wi hi hs row sq sd ((ofKind us kd).take i) l/\bA H H' q l)/\ak H H'/\H' d=some (.lst (cF (ofKind us kd))),⟨⟨_,rfl⟩,⟨[],.nil,[],rfl,s1' _ _ ah,λ_ z=>nomatch z⟩,sm.trans s1',hd⟩,?_,?_,?_⟩
    .rintro i σ' H' _ ⟨_,_,_,h⟩;exact aY.of h
    .rintro i x _ H2 hx ⟨⟨o,rfl⟩,⟨l,hl,ps,p1,p2,p3⟩,s2,hd2⟩;have hi':i<(ofKind us kd).length:=by
      have:=(RO.mp hx).1
      rwa[Rz]at this
     obtain rfl:x=.ref (ofKind us kd)[i].2:=by rw[RE,RC hi']at hx;exact(Option.some.inj hx).symm
     have tk:(ofKind us kd).take (i+1)=(ofKind us kd).take i++[(ofKind us kd)[i]]:=by rw[S5 hi']
     have hz:=osub _ (RU hi');generalize(ofKind us kd)[i]=zz at tk hz;have ll:=hl.len;rw[RV]at ll;show jD _ _ [oR g,oT row,oJ sq,oR q,oR zz.2] H2;refine Hq (aa rfl) p2 ((ae (ba (aa rfl) ((G.same s2).board D)) (ae (aa rfl) (ae (aa rfl) (ae (aa rfl) aw)))) _ ⟨b,zz.2,row,sq,sd,wi,hi,hs,zz.1,rfl,B.same s2,.inl (.inl ((U.same s2) zz hz)),R,rl,s0,s1,hsd,sd2,un0 zz hz,λn t H3 ry n8 ht hP s3=>?_⟩);obtain⟨ps2,g1,g2,g3⟩:=hP;have lr:fN wi hi hs row sq sd zz.1 (qG row sd zz.1.so zz.1.ai (rayL wi sq zz.1.ax (zz.1.dy sd) n)):=⟨n,ry,n8,rfl⟩;have lr8:=lr.len;have z1:=congrArg List.length p1;have z2:=congrArg List.length g1;rw[Rz,Rz]at z1 z2;refine⟨t,_,_,rfl,s3 _ _ p2,g2,by rw[Rz,Rz,NR];lia,⟨_,rfl⟩,⟨_,?_,bA.cat p1 (s3 _ _ p2) (λp hp=>⟨(p3 p hp).1,s3 _ _ (p3 p hp).2⟩) s2 g1 g3⟩,(s2.trans s3).put hq,?_⟩
     .rw[tk];exact aX.add lr hl
     .rw[av ndq];exact s3 _ _ hd2
    .rintro σ' H' ⟨o,⟨l,hl,hP⟩,s2,_⟩;rw[Rz,SE]at hl;exact hK _ _ ⟨o,⟨l,hl,hP⟩,s2⟩
  .rintro _ H1 ⟨⟨o,rfl⟩,⟨l,hl,ps,p1,p2,p3⟩,s2⟩;have ll:=hl.len;have z1:=congrArg List.length p1;rw[Rz,Rz]at z1;refine tO ((aa rfl) _ (tR (aY.of p2) (λp hp=>⟨?_,(p3 p hp).2⟩) (by lia) (λL nd mem=>?_) λps' q' H' sub mem pw hq' s3 hq2=>?_))
   .have:p.1∈l.map pk:=by rw[<-p1];exact RA.mpr ⟨p,hp,rfl⟩
    obtain⟨x,_,e⟩:=RA.mp this;rw[<-e];exact λz=>nomatch z
   .obtain⟨m,rfl,hm⟩:=CW (l:=l) λk hk=>by rw[<-p1];exact(mem k).mp hk
    rw[Rz];refine few l hl m ?_ hm;rw[R4,RX]at nd;exact nd.imp λz e=>z (by rw[e])
   .obtain⟨l',e,hm⟩:=CW (l:=l) (L:=ps'.map (·.1)) λk hk=>by rw[<-p1];exact(mem k).mp hk
    refine k l l' q' H' hl ⟨λx=>⟨hm x,λhx=>?_⟩,?_⟩ (s2.free hq') ⟨ps',e,hq2,λp hp=>⟨(p3 p (sub p hp)).1,s3 _ _ (p3 p (sub p hp)).2⟩⟩ (s2.trans s3)
    .have:pk x∈ps'.map (·.1):=(mem _).mpr (by rw[p1];exact RA.mpr ⟨x,hx,rfl⟩);rw[e]at this;obtain⟨y,hy,ey⟩:=RA.mp this;exact pT ey▸hy
    .have z:(ps'.map (·.1)).Pairwise λx y=>dz x y=true:=RX.mpr pw;rw[e]at z;exact RX.mp z
end
section
variable{P:NP}{w:NT}{K:Frag}{mg:NH}{Ny:NZ}{aS aA aE aW:Addr}
theorem lC{f:Addr}{fd:NV}(F:bB K "_law_cell_at" "_law_cell_at" cQ f fd)(T:Txt mg aS aA aE aW):bg P w K mg Ny cV 1 f fd ["_law_script","_law_k"] (jH K):=by
 refine F.ok lx (λvs H Q E h=>?_) (λcdv A Nz s H vs Q E hr h=>?_)
 .obtain⟨a,ns,k,rfl,_⟩:=h;rfl
 .obtain⟨a,ns,k,rfl,hS,k0,q⟩:=h;have hu:=bS hr;refine⟨_,(af (bf (aT K hu (cv 1) (kB (klen K) bT T.len (az (cv 0) pa_nil))) (am (aF (bR K (cv 0) (cv 1)))) aJ)
   (am (aF ag))),?_⟩
  show bp _ _ _ [oR a,oJ k] H;unfold cellAt at q;refine bh (bb (sH (aa rfl) (cS (aa rfl) (.inl hS)))) (λh=>?_) (λh=>?_)
  .have h:=NE h;rw[Rz]at h;have hlt:k.toNat<ns.length:=by lia
   have e:(ns.map V.int)[k.toNat]? =some (.int (ns.getD k.toNat 0)):=by rw[RE,RH,RC hlt];rfl
   have e2:=bO e;have ei:((k.toNat:Nat):Int)=k:=by lia
   rw[ei]at e2;exact aO (aQ (aa rfl) (aa rfl) (.inl hS) e2) q
  .have h:=NF h;rw[Rz]at h;rw[RH,R5 (by lia)]at q;exact aO ar q
theorem nF{f:Addr}{fd:NV}(F:bB K "_law_mixed" "_law_mixed" dU f fd)(T:Txt mg aS aA aE aW):bg P w K mg Ny cV 1 f fd ["_law_cell","_law_k"] pi:=by
 refine F.ok nw (λvs H Q E h=>?_) (λcdv A Nz s H vs Q E hr h=>?_)
 .obtain⟨c,k,rfl,_⟩:=h;rfl
 .obtain⟨c,k,rfl,q⟩:=h;refine⟨_,(am (aF (au (au (au (au (cv 0) (au ag (cv 1))) ag) ag) ag))),?_⟩;show cM _ _ [oJ c,oJ k] H;exact aO (aR (eU (bK (bK (aa rfl) (eU ar (aa rfl) (.inl ⟨by decide,by decide⟩))) ar) ar (.inr ⟨by decide,by decide⟩)) ar (by decide)) q
theorem nG{f:Addr}{fd:NV}(F:bB K "_law_kinds" "_law_kinds" da f fd)(T:Txt mg aS aA aE aW):bg P w K mg Ny cV 1 f fd ["_law_cell"] rc:=by
 refine F.ok gK (λvs H Q E h=>?_) (λcdv A Nz s H vs Q E hr h=>?_)
 .obtain⟨c,rfl,_⟩:=h;rfl
 .obtain⟨c,rfl,k⟩:=h;have hu:=bS hr;refine⟨_,(af (aD (i:=1) gK.nd rfl (Or.inr rfl) bz)
   (af (aD (i:=2) gK.nd rfl (Or.inr rfl) (bR K (bi (dc rfl)) (au (au (cv 0) ag) ag)))
   (am (aF (gB (cC (N:=["_law_k","_law_letters","_law_cell","_law_step_here"]) (src:=[none,some 1,some 0,some 2]) (ao da) ["_law_cell","_law_letters","_law_step_here"]) (Cu T.range (az (bR K (bi (dc rfl)) (au (cv 0) ag)) pa_nil)) (λ_ _ _=>(bD (i:=0) ["_law_k","_law_letters","_law_cell","_law_step_here"])) (λ_ _ _=>bZ) (λ_ _ _=>(bR K (cv 1) (au (au (au (cv 2) ag) (au (cv 3) (cv 0))) ag)))))))),?_⟩
  show bp _ _ _ [oJ c,none,none] H;refine aU ar ?_;refine bI (λv H'=>∃st:Int,v=.int st/\st∈([1,3,5,7,9,11]:List Int)/\ak H H') (λQ q=>?_) ?_
  .obtain⟨n,e,hn⟩:=mw (ns:=[1,3,5,7,9,11]) (i:=c / 208 % 6) (by lia) (by show _<(6:Int);lia);exact iQ jo (by decide) (λH'=>(aR (bw (aa rfl) ar ⟨by decide,by decide⟩) ar (by decide))) e (λH' s=>q _ _ ⟨n,rfl,hn,s⟩)
  rintro _ H1 ⟨st,rfl,hst,s1⟩;obtain⟨n,e,hn⟩:=mw (ns:=[1,2,2,3,3,1,6,4]) (i:=c % 8) (by lia) (by show _<(8:Int);lia);have hn6:1<=n/\n<=6:=by simp only[RB,RW,or_false]at hn;lia
  show cM _ _ [oJ c,oT ("abcdefghijklmnopqrstuvwxyz"),oJ st] H1;refine xN (n:=n) (rest:=[oT ("abcdefghijklmnopqrstuvwxyz"),oJ c,oJ st]) (λQ q=>vP jo (by decide) (λH'=>(aR (aa rfl) ar (by decide))) e q) (by lia) (by rw[NR];lia) (by lia) rfl (λ_=>true)
   (λx=>match x with| .int i=>strV (97+((c / 8+st*i) % 26).toNat)|_=>.non) (λi H' s hi=>dM) (λi H' s hi _=>?_) (λH' d s hd=>?_)
  .have hlt:0<=0+(i:Int)/\0+(i:Int)<6:=by lia
   exact cT (aa rfl) (aR (bK (bw (aa rfl) ar ⟨by decide,by decide⟩) (eU (aa rfl) (aa rfl) (.inr ⟨by lia,by lia⟩))) ar (by decide)) (by decide) (Kq (by lia) (by lia))
  .have e2:(((List.range n.toNat).map λ(i:Nat)=>V.int (0+(i:Int))).filter λ_=>true).map (λx=>match x with| .int i=>strV (97+((c / 8+st*i) % 26).toNat)|_=>.non)=(ju (c / 8) st n.toNat).map strV:=by rw[R7.mpr (λ_ _=>rfl),RN];unfold ju;rw[RN];refine R9 λi _=>?_;show strV (97+((c / 8+st*(0+(i:Int))) % 26).toNat)=strV (97+((c / 8+st*(i:Int)) % 26).toNat);rw[TU]
   rw[e2];have hl:(ju (c / 8) st n.toNat).length=n.toNat:=by unfold ju;simp
   exact k d _ _ ((s1.trans s).free hd) ah uE (xw (by lia) hst) (by lia) (by lia) ((s1.trans s).upd hd)
theorem nI{f:Addr}{fd:NV}(F:bB K "_law_board" "_law_board" dW f fd)(T:Txt mg aS aA aE aW)(C:LG1 P w K mg Ny):bg P w K mg Ny cV 2 f fd ["_law_script"] (re K):=by
 refine F.ok bE (λvs H Q E h=>?_) (λcdv A Nz s H vs Q E hr h=>?_)
 .obtain⟨a,ns,rfl,_⟩:=h;rfl
 .obtain⟨a,ns,rfl,hS,k⟩:=h;have hu:=bS hr;refine⟨_,(af (aD (i:=1) bE.nd rfl (Or.inl rfl) (aH C._law_cell_at hr (az (cv 0) (az ag pa_nil))))
   (af (aD (i:=2) bE.nd rfl (Or.inl rfl) (au ag (au (cv 1) ag)))
   (af (aD (i:=3) bE.nd rfl (Or.inl rfl) (au ag (au (au (cv 1) ag) ag)))
   (af (bf (aT K hu (au (au (cv 1) ag) ag) ag) (af (aD (i:=2) bE.nd rfl (Or.inl rfl) (au ag (au (au (cv 1) ag) ag)))
   (am (aD (i:=3) bE.nd rfl (Or.inl rfl) (au ag (au (au (cv 1) ag) ag))))) aJ)
   (af (aD (i:=1) bE.nd rfl (Or.inl rfl) (aH C._law_cell_at hr (az (cv 0) (az ag pa_nil))))
   (af (aD (i:=4) bE.nd rfl (Or.inl rfl) (bi pa_nil))
   (af (fJ N8 rfl (Cu T.range (az (bR K (bi (dc rfl)) (au (cv 1) ag)) pa_nil)) (bN (i:=5) bE.nd rfl (Or.inl rfl)) (af (aD (i:=6) bE.nd rfl (Or.inl rfl) (au (aH C._law_mixed hr (az (au (cv 1) ag) (az (cv 5) pa_nil))) (au (cv 2) (cv 3))))
   (am (bf (PW.pt (gk (aT K hu (cv 6) (cv 4)) (fg (aT K hu (au (kB (klen K) bT T.len (az (cv 4) pa_nil)) ag) (au (cv 2) (cv 3)))))) (am (dt (gQ (cv 4) (cv 6)))) aJ))))
   (am (aF (ce (az (cv 2) (az (cv 3) (az (cv 4) pa_nil))))))))))))),?_⟩
  show bp _ _ _ [oR a,none,none,none,none,none,none] H;refine aU (aK (ae (aa rfl) (ae ar aw)) (λQ q=>⟨a,ns,0,rfl,hS,by decide,q⟩)) ?_;generalize cellAt ns 0=c;refine aU (bK ar (aR (aa rfl) ar (by decide))) ?_;refine aU (bK ar (aR (bw (aa rfl) ar ⟨by decide,by decide⟩) ar (by decide))) ?_;refine cb (λσ' H'=>∃wi hi:Int,1<=wi/\wi<=8/\1<=hi/\hi<=8/\σ'=[oR a,oJ c,oJ wi,oJ hi,none,none,none]/\H'=H) (λK' hK=>?_) ?_
  .refine jE (bb (gC (aR (bw (aa rfl) ar ⟨by decide,by decide⟩) ar (by decide)) ar)) (λ_=>?_) (λ_=>hK _ _ ⟨_,_,by lia,by lia,by lia,by lia,rfl,rfl⟩);refine aU (bK ar (aR (bw (aa rfl) ar ⟨by decide,by decide⟩) ar (by decide))) ?_;exact ii (bK ar (aR (bw (aa rfl) ar ⟨by decide,by decide⟩) ar (by decide))) (hK _ _ ⟨_,_,by lia,by lia,by lia,by lia,rfl,rfl⟩)
  rintro _ H1 ⟨wi,hi,w1,w8,h1,h8,rfl,rfl⟩;have m1:wi*hi<=8*8:=TV w8 h8 (by lia) (by lia);have m0:1*1<=wi*hi:=TV w1 h1 (by lia) (by lia);refine aU (aK (ae (aa rfl) (ae ar aw)) (λQ q=>⟨a,ns,1,rfl,hS,by decide,q⟩)) ?_;generalize cellAt ns 1=c1;refine gH λq1 hq1=>?_;have sm:ak H1 (upd H1 q1 (.lst [])):=(ak.refl H1).upd hq1;obtain⟨n,e,hn⟩:=mw (ns:=[0,0,1,2]) (i:=c1 % 4) (by lia) (by show _<(4:Int);lia);have hn2:0<=n/\n<=2:=by simp only[RB,RW,or_false]at hn;lia
  refine cb (λσ' H'=>∃hs:List Int,(∃o5 o6,σ'=[oR a,oJ c1,oJ wi,oJ hi,oR q1,o5,o6])/\H' q1=some (.lst (hs.map V.int))/\(∀h∈hs,0<=h/\h<wi*hi)/\hs.Nodup/\(hs.length:Int)<wi*hi/\hs.length<=2/\ak H1 H') (λK' hK=>?_) ?_
  .refine kU n (λQ q=>vP jo (by decide) (λH'=>(aR (aa rfl) ar (by decide))) e q) (by lia) (by lia)
    (λi σ' H'=>∃hs:List Int,(∃o5 o6,σ'=[oR a,oJ c1,oJ wi,oJ hi,oR q1,o5,o6])/\H' q1=some (.lst (hs.map V.int))/\(∀h∈hs,0<=h/\h<wi*hi)/\hs.Nodup/\(hs.length:Int)<wi*hi/\hs.length<=i/\ak H1 H')
    (λH' s=>⟨[],⟨_,_,rfl⟩,s _ _ ah,(λh hh=>by cases hh),Sx,by show(0:Int)<_;lia,Tj _,sm.trans s⟩) ?_ (λσ' H' h=>?_)
   .rintro i _ H3 hi' ⟨hs,⟨o5,o6,rfl⟩,h3,gd,nd,hl,hl2,s3⟩;show bp _ _ _ [oR a,oJ c1,oJ wi,oJ hi,oR q1,oJ (0+(i:Int)),o6] H3;generalize 0+(i:Int)=j;refine aU (aR (aK (ae (bw (aa rfl) ar ⟨by decide,by decide⟩) (ae (aa rfl) aw)) (λQ q=>⟨_,_,rfl,q⟩)) (eU (aa rfl) (aa rfl) (.inl ⟨by lia,by lia⟩)) (by lia)) ?_;generalize hsq:mixed (c1 / 4) j % (wi*hi)=sq;have sq0:0<=sq:=hsq▸TN _ (by lia);have sq1:sq<wi*hi:=hsq▸TQ _ (by lia);refine jE (ic (bb (uN (aa rfl) (aa rfl) (.inl (aY.of h3)))) (λ_=>(bb (sH (bK (cS (aa rfl) (.inl (aY.of h3))) ar) (eU (aa rfl) (aa rfl) (.inl ⟨by lia,by lia⟩)))))) (λh=>?_) (λ_=>⟨hs,⟨_,_,rfl⟩,h3,gd,nd,hl,by lia,s3⟩);rw[T6]at h;have hni:¬sq∈hs:=λz=>by have h1:=h.1;rw[NA z]at h1;cases h1
    have hl':=NE h.2;rw[Rz]at hl';refine C3 (aa rfl) (aa rfl) h3 (by rw[Rz,NR];lia) ⟨hs++[sq],⟨_,_,rfl⟩,?_,λh hh=>?_,?_,?_,?_,s3.put hq1⟩
    .rw[ah,RQ];rfl
    .rcases RM.mp hh with z|z
     .exact gd h z
     .rw[RL.mp z];exact⟨sq0,sq1⟩
    .rw[Sv];refine⟨nd,by simp,λx hx y hy e=>?_⟩;rw[RL.mp hy]at e;exact hni (e▸hx)
    .rw[RI];show((hs.length+1:Nat):Int)<_;lia
    .rw[RI];show hs.length+1<=_;lia
   .obtain⟨hs,o,h3,gd,nd,hl,hl2,s3⟩:=h;exact hK _ _ ⟨hs,o,h3,gd,nd,hl,by lia,s3⟩
  rintro _ H3 ⟨hs,⟨o5,o6,rfl⟩,h3,gd,nd,hl,hl2,s3⟩;show cM _ _ [oR a,oJ c1,oJ wi,oJ hi,oR q1,o5,o6] H3;refine lS (aa rfl) (aa rfl) (aa rfl) (λt ht=>?_);exact k t q1 wi hi hs _ w1 w8 h1 h8 ah (by rw[av (aC h3 ht)];exact h3) gd nd hl hl2 hq1 (s3.free ht) (s3.upd ht)
end
section
variable{P:NP}{w:NT}{K:Frag}{mg:NH}{Ny:NZ}{aS aA aE aW:Addr}
theorem qi{f:Addr}{fd:NV}(F:bB K "_law_rule" "_law_rule" fB f fd)(T:Txt mg aS aA aE aW):bg P w K mg Ny cV 1 f fd ["_law_cell","_law_kinds_here"] vG:=by
 refine F.ok bM (λvs H Q E h=>?_) (λcdv A Nz s H vs Q E hr h=>?_)
 .obtain⟨c,d,ks,rfl,_⟩:=h;rfl
 .obtain⟨c,d,ks,rfl,hk,q⟩:=h;have hu:=bS hr;have hpos:(0:Int)<((ks.map strV).length:Int):=by rw[Rz];have:=hk.l1;lia
  have h6:((ks.map strV).length:Int)<=6:=by rw[Rz];have:=hk.l6;lia
  refine⟨_,(af (aD (i:=2) bM.nd rfl (Or.inl rfl) (au (cv 0) (kB (klen K) bT T.len (az (cv 1) pa_nil))))
   (af (aD (i:=3) bM.nd rfl (Or.inl rfl) (bR K (bi (dc rfl)) (au (cv 2) ag)))
   (af (aD (i:=4) bM.nd rfl (Or.inl rfl) (bR K (bi (dc rfl)) (au (au (cv 2) ag) ag)))
   (af (aD (i:=5) bM.nd rfl (Or.inl rfl) ag)
   (af (bf (aT K hu (cv 3) bz) (am (aD (i:=4) bM.nd rfl (Or.inl rfl) bz)) aJ)
   (af (bf (aT K hu (cv 3) bz) (am (aD (i:=5) bM.nd rfl (Or.inl rfl) (bR K (bi (dc rfl)) (au (au (cv 2) ag) ag)))) aJ)
   (af (aD (i:=6) bM.nd rfl (Or.inl rfl) (au (au (au (cv 2) ag) (au (au ag (cv 5)) ag)) (cv 5)))
   (af (aD (i:=7) bM.nd rfl (Or.inl rfl) (au (au (au (cv 2) ag) (au (au ag (cv 5)) ag)) (cv 5)))
   (af (bf (PW.pt (gk (aT K hu (cv 6) ag) (fg (aT K hu (cv 7) ag)))) (am (aD (i:=7) bM.nd rfl (Or.inl rfl) ag)) aJ)
   (am (aF (ce (az (bR K (cv 1) (au (cv 0) (kB (klen K) bT T.len (az (cv 1) pa_nil)))) (az (cv 3) (az (cv 4) (az (cv 6) (az (cv 7) pa_nil))))))))))))))))),?_⟩
  show bp _ _ _ [oJ c,oR d,none,none,none,none,none,none] H;refine aU (bw (aa rfl) (cS (aa rfl) (.inl (aY.of hk.at_))) ⟨by lia,by lia⟩) ?_;generalize c / ((ks.map strV).length:Int)=m;refine bI (λv H'=>∃so:Str,v=.str so/\so∈sortsL/\ak H H') (λQ q=>?_) ?_
  .obtain⟨n,e,hn⟩:=vU (ss:=sortsL) (i:=m % 3) (by lia) (by show _<(3:Int);lia);exact iQ jo (by decide) (λH'=>(aR (aa rfl) ar (by decide))) e (λH' s=>q _ _ ⟨n,rfl,hn,s⟩)
  rintro _ H1 ⟨so,rfl,hso,s1⟩;refine bI (λv H'=>∃ai:Str,v=.str ai/\ai∈aimsL/\ak H1 H') (λQ q=>?_) ?_
  .obtain⟨n,e,hn⟩:=vU (ss:=aimsL) (i:=m / 3 % 3) (by lia) (by show _<(3:Int);lia);exact iQ jo (by decide) (λH'=>(aR (bw (aa rfl) ar ⟨by decide,by decide⟩) ar (by decide))) e (λH' s=>q _ _ ⟨n,rfl,hn,s⟩)
  rintro _ H2 ⟨ai,rfl,hai,s2⟩;refine aU ar ?_;show bp _ _ _ [oJ c,oR d,oJ m,oT so,oT ai,oJ 1,none,none] H2;refine eW (λσ' H'=>H'=H2/\∃ai:Str,σ'=[oJ c,oR d,oJ m,oT so,oT ai,oJ 1,none,none]/\ai∈aimsL/\(so="jump"->ai="hit")) ?_ (λgo=>?_)
  rotate_left
  .exact bh (bb (eC (aa rfl) ar)) (λh=>ii ar (go _ _ ⟨rfl,"hit",rfl,by decide,λ_=>rfl⟩)) (λh=>go _ _ ⟨rfl,ai,rfl,hai,λz=>NG z (NF h)⟩)
  rintro _ H2 ⟨rfl,ai,rfl,hai,hjh⟩;refine eW (λσ' H'=>ak H2 H'/\∃fr:Int,σ'=[oJ c,oR d,oJ m,oT so,oT ai,oJ fr,none,none]/\1<=fr/\fr<=(if so="leap"then 3 else 1)) ?_ (λgo=>?_)
  rotate_left
  .refine bh (bb (eC (aa rfl) ar)) (λh=>?_) (λh=>go _ _ ⟨ak.refl _,1,rfl,by decide,by split<;>lia⟩);obtain⟨n,e,hn⟩:=mw (ns:=[1,2,3]) (i:=m / 9 % 3) (by lia) (by show _<(3:Int);lia);have hn6:1<=n/\n<=3:=by simp only[RB,RW,or_false]at hn;lia
   exact kZ (iQ jo (by decide) (λH'=>(aR (bw (aa rfl) ar ⟨by decide,by decide⟩) ar (by decide))) e (λH' s=>go _ _ ⟨s,n,rfl,hn6.1,by rw[ND (NE h)];exact hn6.2⟩))
  rintro _ H3 ⟨s3,fr,rfl,f0,f1⟩;have fr3:fr<=3:=by split at f1<;>lia
  refine aU (eT (aR (bw (aa rfl) ar ⟨by decide,by decide⟩) (bK (eU ar (aa rfl) (.inl ⟨by decide,by decide⟩)) ar) (by lia)) (aa rfl)) ?_;refine aU (eT (aR (bw (aa rfl) ar ⟨by decide,by decide⟩) (bK (eU ar (aa rfl) (.inl ⟨by decide,by decide⟩)) ar) (by lia)) (aa rfl)) ?_;have a0:=TN (m / 27) (by lia:2*fr+1≠0);have a1:=TQ (m / 27) (by lia:0<2*fr+1);have b0:=TN (m / 189) (by lia:2*fr+1≠0);have b1:=TQ (m / 189) (by lia:0<2*fr+1);have hax: -fr<=m / 27 % (2*fr+1) - fr/\m / 27 % (2*fr+1) - fr<=fr:=by lia
  have hup: -fr<=m / 189 % (2*fr+1) - fr/\m / 189 % (2*fr+1) - fr<=fr:=by lia
  generalize m / 27 % (2*fr+1) - fr=ax at hax;generalize m / 189 % (2*fr+1) - fr=up at hup;show bp _ _ _ [oJ c,oR d,oJ m,oT so,oT ai,oJ fr,oJ ax,oJ up] H3;refine eW (λσ' H'=>H'=H3/\∃up:Int,σ'=[oJ c,oR d,oJ m,oT so,oT ai,oJ fr,oJ ax,oJ up]/\-fr<=up/\up<=fr/\¬(ax=0/\up=0)) ?_ (λgo=>?_)
  rotate_left
  .refine bh (ic (bb (gC (aa rfl) ar)) (λ_=>bb (gC (aa rfl) ar))) (λh=>ii ar (go _ _ ⟨rfl,1,rfl,by lia,by lia,by lia⟩)) (λh=>go _ _ ⟨rfl,up,rfl,hup.1,hup.2,λz=>by simp[z.1,z.2]at h⟩)
  rintro _ H3 ⟨rfl,up,rfl,u0,u1,n0⟩;have s03:=(s1.trans s2).trans s3;have hk3:=hk.same s03;obtain⟨k,hkm,ek⟩:=hk3.pick c;refine tupY (eF (aQ (aa rfl) (aR (aa rfl) (cS (aa rfl) (.inl (aY.of hk3.at_))) hpos) (.inl (aY.of hk3.at_)) ek) (eF (aa rfl) (eF (aa rfl) (eF (aa rfl) (eF (aa rfl) (rS ⟨by show 5<=sizeLine;decide,λp hp=>?_⟩))))));exact q p ⟨one k,so,ai,ax,up⟩ _ ⟨⟨k,hkm,rfl⟩,hso,hai,hjh,⟨by show -(if so="leap"then 3 else 1)<=ax;lia,Int.le_trans hax.2 f1⟩,⟨by show -(if so="leap"then 3 else 1)<=up;lia,Int.le_trans u1 f1⟩,n0⟩ (s03.free hp) ah (s03.upd hp)
theorem nB{f:Addr}{fd:NV}(F:bB K "_law_turns" "_law_turns" cY f fd)(T:Txt mg aS aA aE aW):bg P w K mg Ny cV 1 f fd ["_law_cell","_law_kinds_here"] ra:=by
 refine F.ok eX (λvs H Q E h=>?_) (λcdv A Nz s H vs Q E hr h=>?_)
 .obtain⟨c,d,ks,rfl,_⟩:=h;rfl
 .obtain⟨c,d,ks,rfl,hk,q⟩:=h;have hu:=bS hr;have hl1:=hk.l1;have hl6:=hk.l6;refine⟨_,(af (aD (i:=2) eX.nd rfl (Or.inr rfl) (kB (klen K) bT T.len (az (cv 1) pa_nil)))
   (af (bf (PW.pt (fP (aT K hu (au (cv 0) ag) ag) (eQ (aT K hu (cv 2) ag)))) (am (aF (bi pa_nil))) aJ)
   (af (aD (i:=3) eX.nd rfl (Or.inr rfl) (bR K (cv 1) (au (au (cv 0) ag) (cv 2))))
   (af (jS (i:=4) rfl (cC (N:=["_law_k","_law_other","_law_kinds_here","_law_many","_law_cell"]) (src:=[none,some 3,some 1,some 2,some 0]) (ao cY) ["_law_cell","_law_kinds_here","_law_many","_law_other","_law_turns_here"]) (Cu T.range (az (au (cv 2) ag) pa_nil)) (λ_ _ _=>(bD (i:=0) ["_law_k","_law_other","_law_kinds_here","_law_many","_law_cell"])) (λ_ _ _=>bZ) (λ_ _ _=>(ce (az (bR K (cv 2) (au (au (au (au (cv 4) ag) ag) (cv 0)) (cv 3))) (az (cv 1) pa_nil)))) eX.nd rfl (Or.inl rfl) rfl (Or.inl rfl))
   (am (aF (Bi K (cv 4) du (cK (au ag (au (au (cv 0) ag) ag)))))))))),?_⟩
  show bp _ _ _ [oJ c,oR d,none,none,none] H;refine aU (cS (aa rfl) (.inl (aY.of hk.at_))) ?_;rw[Rz];refine bh (gy (bb (mQ (aR (aa rfl) ar (by decide)) ar)) (λ_=>(bb (sH (aa rfl) ar)))) (λh=>?_) (λh=>?_)
  .refine⟨Tl _,λp hp=>q p [] _ ⟨Tl _,λ_ z=>(nomatch z),Sx,λ_ z=>(nomatch z)⟩ (λ_ z=>(nomatch z)) hp ah ((ak.refl H).upd hp)⟩
  .have hm:2<=ks.length:=by rw[Uh]at h;have:=NF h.2;lia
   have at_:∀i:Int,0<=i->i<ks.length->km (ks.map strV) i=some (strV (ks.getD i.toNat 0))/\ks.getD i.toNat 0∈ks:=λi h0 h1=>by
    have hi:i.toNat<ks.length:=by lia
    have e:ks[i.toNat]? =some (ks.getD i.toNat 0):=by rw[RH,RC hi];rfl
    have z:=bO (xs:=ks.map strV) (j:=i.toNat) (v:=strV (ks.getD i.toNat 0)) (by rw[RE,e];rfl);rw[T0 h0]at z;exact⟨z,RT e⟩
   have inj:∀i j:Int,0<=i->i<ks.length->0<=j->j<ks.length->ks.getD i.toNat 0=ks.getD j.toNat 0->i=j:=λi j a b c' d' e=>by
    have hi:i.toNat<ks.length:=by lia
    have hj:j.toNat<ks.length:=by lia
    rw[RH,RH,RC hi,RC hj]at e;have:=(SL hk.nd).mp (by simpa using e);lia
   have o0:=TN (c / 3) (by lia:(ks.length:Int)≠0);have o1:=TQ (c / 3) (by lia:(0:Int)<ks.length);obtain⟨eo,mo⟩:=at_ _ o0 o1;refine aU (v:=strV (ks.getD (c / 3 % (ks.length:Int)).toNat 0)) (aQ (aa rfl) (aR (bw (aa rfl) ar ⟨by decide,by decide⟩) (aa rfl) (by lia)) (.inl (aY.of hk.at_)) eo) ?_;generalize hi0:c / 3 % (ks.length:Int)=i0 at o0 o1 eo mo;refine bI (λv H'=>∃(p:Addr)(zs:List ((Str×Str)×Addr)),v=.ref p/\H' p=some (.lst (bQ zs))/\gv H' zs/\zs.length=ks.length - 1/\(∀(i:Nat) z,zs[i]? =some z->z.1=(one (ks.getD ((c / 3+1+(i:Int)) % (ks.length:Int)).toNat 0),one (ks.getD i0.toNat 0)))/\ak H H') (λQ z=>?_) ?_
   .refine xM (n:=(ks.length:Int) - 1) (λQ' z'=>(ae (eT (aa rfl) ar) aw) _ (z' _ (ak.refl _))) (by lia) (by lia) rfl
     (λi H' v=>∃a,v=.ref a/\H' a=some (.tup [.str (one (ks.getD ((c / 3+1+(i:Int)) % (ks.length:Int)).toNat 0)),.str (one (ks.getD i0.toNat 0))])) (λi H1 H2 v ⟨a,e1,e2⟩ s=>⟨a,e1,s _ _ e2⟩) (λi H' hi s Q2 z2=>?_) (λp H' ys s hp hl hy=>?_)
    .have j0:=TN (c / 3+1+(i:Int)) (by lia:(ks.length:Int)≠0);have j1:=TQ (c / 3+1+(i:Int)) (by lia:(0:Int)<ks.length);refine ig (x:=strV (ks.getD ((c / 3+1+(i:Int)) % (ks.length:Int)).toNat 0)) (y:=strV (ks.getD i0.toNat 0)) (aQ (aa rfl) (aR (bK (bK (bw (aa rfl) ar ⟨by decide,by decide⟩) ar) (aa rfl)) (aa rfl) (by lia)) (.inl (aY.of (hk.same s).at_)) ?_) (aa rfl) λa ha=>z2 _ _ ⟨a,rfl,ah⟩ ((ak.refl _).upd ha);rw[TU];exact(at_ _ j0 j1).1
    .obtain⟨zs,rfl,h1,h2,h3⟩:=vS (λi=>(one (ks.getD ((c / 3+1+(i:Int)) % (ks.length:Int)).toNat 0),one (ks.getD i0.toNat 0))) ys 0 λi y hi=>by rw[Tt];exact hy i y hi
     refine z _ _ ⟨p,zs,rfl,ah,h1.same ((ak.refl _).upd hp),by rw[h2,hl];lia,λi z hz=>by have:=h3 i z hz;rwa[Tt]at this,s.upd hp⟩
   rintro _ H1 ⟨p,zs,rfl,hp,hz,zl,za,s1⟩;have kk:∃n:Nat,1+c / 18 % 2=(n:Int)/\1<=n/\n<=2:=⟨(1+c / 18 % 2).toNat,by lia,by lia,by lia⟩;obtain⟨n,en,n1,n2⟩:=kk;refine l9 (lo:=none) (hi:=some (n:Int)) (aa rfl) jj (iz ?_) (.inl (.inl hp)) λt ht=>?_
   .rw[<-en];exact(bK ar (aR (bw (aa rfl) ar ⟨by decide,by decide⟩) ar (by decide)))
   have ec:cutV (bQ zs) none (some (n:Int))=bQ (zs.take n):=by unfold cutV;rw[HT.sIx_none,HT.sIx_nat,SC,TJ];show List.take (min n (List.map (λz=>V.ref z.2) zs).length) (List.map (λz=>V.ref z.2) zs)=List.map (λz=>V.ref z.2) (List.take n zs);rw[SJ];exact List.take_eq_take_iff.mpr (by lia)
   rw[ec];have s2:ak H (upd H1 t (.lst (bQ (zs.take n)))):=s1.upd ht;have val:∀(i:Nat) z,(zs.take n)[i]? =some z->i<n/\i<ks.length - 1/\z.1=(one (ks.getD ((c / 3+1+(i:Int)) % (ks.length:Int)).toNat 0),one (ks.getD i0.toNat 0)):=λi z h=>by have hi:=(RO.mp h).1;rw[RV]at hi;rw[S8 (by lia)]at h;exact⟨by lia,by lia,za i z h⟩
   have ixr:∀i:Nat,i<ks.length - 1->¬(c / 3+1+(i:Int)) % (ks.length:Int)=i0:=λi hi e=>by rw[<-hi0]at e;have e2:=T4.mp e;rw[show c / 3+1+(i:Int) - c / 3=1+i by lia,TZ (by lia) (by lia)]at e2;lia
   refine q t (zs.take n) _ ⟨by rw[RV];lia,λz h=>?_,?_,λz h y h' e=>?_⟩ (λz h=>((ak.refl H1).upd ht) _ _ (hz z (Ss h))) (s1.free ht) ah s2
   .obtain⟨i,hi⟩:=SK h;obtain⟨_,_,e⟩:=val i z hi;rw[e];exact⟨⟨_,(at_ _ (TN _ (by lia)) (TQ _ (by lia))).2,rfl⟩,_,mo,rfl⟩
   .rw[R4,RX,SI];intro i j hi hj hij e;obtain⟨a1,a2,a3⟩:=val i _ (RC hi);obtain⟨b1,b2,b3⟩:=val j _ (RC hj);rw[a3,b3]at e;have e:=inj _ _ (TN _ (by lia)) (TQ _ (by lia)) (TN _ (by lia)) (TQ _ (by lia)) (jV e);have e2:=T4.mp e.symm;rw[show c / 3+1+(j:Int) - (c / 3+1+(i:Int))=(j:Int) - i by lia,TZ (by lia) (by lia)]at e2;lia
   .obtain⟨i,hi⟩:=SK h;obtain⟨j,hj⟩:=SK h';obtain⟨_,_,a3⟩:=val i z hi;obtain⟨_,b2,b3⟩:=val j y hj;rw[a3,b3]at e;exact ixr j b2 (inj _ _ o0 o1 (TN _ (by lia)) (TQ _ (by lia)) (jV e)).symm
end
section
variable{P:NP}{w:NT}{K:Frag}{mg:NH}{Ny:NZ}{aS aA aE aW:Addr}
theorem qj{f cB cG:Addr}{fd:NV}(F:bB K "_law_game" "_law_game" fC f fd)(T:Txt mg aS aA aE aW)(C:LGg P w K mg Ny cB cG):bg P w K mg Ny cV 8 f fd ["_law_script"] (vH K cB cG):=by
 refine F.ok bj (λvs H Q E h=>?_) (λcdv A Nz s H vs Q E hr h=>?_)
 .obtain⟨a,ns,rfl,_⟩:=h;rfl
 .obtain⟨a,ns,rfl,hS,k⟩:=h;have hu:=bS hr;refine⟨_,(af (kL (aH C._law_board hr (az (cv 0) pa_nil)) (L5 K (n:=3) (cH (bN (i:=1) bj.nd rfl (Or.inl rfl)) (cH (bN (i:=2) bj.nd rfl (Or.inl rfl)) (cH (bN (i:=3) bj.nd rfl (Or.inl rfl)) jU)))))
   (af (aD (i:=4) bj.nd rfl (Or.inl rfl) (aH C._law_kinds hr (az (aH C._law_cell_at hr (az (cv 0) (az ag pa_nil))) pa_nil)))
   (af (aD (i:=5) bj.nd rfl (Or.inl rfl) (aH C._law_cell_at hr (az (cv 0) (az ag pa_nil))))
   (af (aD (i:=6) bj.nd rfl (Or.inl rfl) (bi pa_nil))
   (af (fJ N8 rfl (Cu T.range (az (bR K (bi (dc rfl)) (au (cv 5) ag)) pa_nil)) (bN (i:=7) bj.nd rfl (Or.inl rfl)) (am (dt (gQ (cv 6) (aH C._law_rule hr (az (aH C._law_mixed hr (az (au (aH C._law_cell_at hr (az (cv 0) (az (au ag (au (cv 7) ag)) pa_nil))) (cv 5)) (az (cv 7) pa_nil))) (az (cv 4) pa_nil)))))))
   (af (aD (i:=8) bj.nd rfl (Or.inl rfl) (aH C._law_turns hr (az (aH C._law_cell_at hr (az (cv 0) (az ag pa_nil))) (az (cv 4) pa_nil))))
   (af (aD (i:=5) bj.nd rfl (Or.inl rfl) (aH C._law_cell_at hr (az (cv 0) (az ag pa_nil))))
   (af (aD (i:=9) bj.nd rfl (Or.inl rfl) (bi pa_nil))
   (af (fJ N8 rfl (Cu T.range (az (bR K (bi (dc rfl)) (au (cv 5) ag)) pa_nil)) (bN (i:=7) bj.nd rfl (Or.inl rfl)) (af (aD (i:=10) bj.nd rfl (Or.inl rfl) (aH C._law_mixed hr (az (cv 5) (az (cv 7) pa_nil))))
   (am (dt (gQ (cv 9) (ce (az (bR K (bi (az bz (az bz pa_nil))) (au (cv 10) ag)) (az (bR K (cv 4) (au (au (cv 10) ag) (kB (klen K) bT T.len (az (cv 4) pa_nil)))) pa_nil))))))))
   (af (aD (i:=11) bj.nd rfl (Or.inl rfl) (bR K (bi (dc rfl)) (au (au (cv 5) ag) ag)))
   (am (aF (Hf C.Game hr (az (Hf C.Board hr (az (cv 1) (az (cv 2) (az (cv 3) pa_nil)))) (az (cv 4) (az (cv 6) (az (cv 8) (az (cv 9) (az (cv 11) pa_nil))))))))))))))))))),?_⟩
  show bp _ _ _ [oR a,none,none,none,none,none,none,none,none,none,none,none] H;refine cb (λσ' H'=>∃(wi hi:Int)(d:Addr)(hs:List Int),σ'=[oR a,oJ wi,oJ hi,oR d,none,none,none,none,none,none,none,none]/\1<=wi/\wi<=8/\1<=hi/\hi<=8/\H' d=some (.lst (hs.map V.int))/\(∀h∈hs,0<=h/\h<wi*hi)/\hs.Nodup/\(hs.length:Int)<wi*hi/\hs.length<=2/\ak H H') (λK' hK=>?_) ?_
  .refine Kh (ae (aa rfl) aw) ⟨a,ns,rfl,hS,λt d wi hi hs H' w1 w8 h1 h8 et ed gd nd ln l2 nq nt s=>?_⟩;exact Mf et (hK _ _ ⟨wi,hi,d,hs,rfl,w1,w8,h1,h8,ed,gd,nd,ln,l2,s⟩)
  rintro _ H1 ⟨wi,hi,d,hs,rfl,w1,w8,h1,h8,ed,gd,nd,ln,l2,s1⟩;have hS1:=s1.seq hS;refine bI (λv H'=>∃(kq:Addr)(ks:List Nat),v=.ref kq/\jp H' kq ks/\ak H1 H') (λQ q=>?_) ?_
  .exact eI (ae (aK (ae (aa rfl) (ae ar aw)) (λQ q=>⟨a,ns,2,rfl,hS1,by decide,q⟩)) aw) ⟨_,rfl,λkq ks H' z1 z2 z3 z4 z5 z6 z7=>q _ _ ⟨kq,ks,rfl,⟨z2,z3,z5,z6,z4⟩,z7⟩⟩
  rintro _ H2 ⟨kq,ks,rfl,ek,s2⟩;have hS2:=s2.seq hS1;refine aU (aK (ae (aa rfl) (ae ar aw)) (λQ q=>⟨a,ns,3,rfl,hS2,by decide,q⟩)) ?_;generalize cellAt ns 3=c3;refine gH λrq hrq=>?_;have sr:ak H2 (upd H2 rq (.lst [])):=(ak.refl H2).upd hrq;obtain⟨n,e,hn⟩:=mw (ns:=[4,5,6,3,8,2,12,0]) (i:=c3 % 8) (by lia) (by show _<(8:Int);lia);have hn2:0<=n/\n<=12:=by simp only[RB,RW,or_false]at hn;lia
  refine cb (λσ' H'=>∃us:List (aP×Addr),(∃o7,σ'=[oR a,oJ wi,oJ hi,oR d,oR kq,oJ c3,oR rq,o7,none,none,none,none])/\H' rq=some (.lst (cF us))/\eM H' us/\(∀z∈us,kh ks z.1)/\us.length<=12/\ak H2 H') (λK' hK=>?_) ?_
  .refine kU n (λQ q=>vP jo (by decide) (λH'=>(aR (aa rfl) ar (by decide))) e q) (by lia) (by lia)
    (λi σ' H'=>∃us:List (aP×Addr),(∃o7,σ'=[oR a,oJ wi,oJ hi,oR d,oR kq,oJ c3,oR rq,o7,none,none,none,none])/\H' rq=some (.lst (cF us))/\eM H' us/\(∀z∈us,kh ks z.1)/\us.length=i/\ak H2 H')
    (λH' s=>⟨[],⟨_,rfl⟩,s _ _ ah,λ_ z=>(nomatch z),λ_ z=>(nomatch z),rfl,sr.trans s⟩) ?_ (λσ' H' h=>?_)
   .rintro i _ H3 hi' ⟨us,⟨o7,rfl⟩,h3,hR,hg,hl,s3⟩;show jD _ _ [oR a,oJ wi,oJ hi,oR d,oR kq,oJ c3,oR rq,oJ (0+(i:Int)),none,none,none,none] H3;rw[TU];have hS3:=s3.seq hS2;refine lv (aa rfl) ⟨_,h3⟩ (eI (ae (aK (ae (bK (aK (ae (aa rfl) (ae (bK ar (aR (aa rfl) ar (by decide))) aw)) (λQ q=>⟨a,ns,4+(i:Int) % 4,rfl,hS3,by lia,q⟩)) (aa rfl)) (ae (aa rfl) aw)) (λQ q=>⟨_,_,rfl,q⟩)) (ae (aa rfl) aw)) ⟨_,kq,ks,rfl,ek.same s3,λt u H4 g1 g2 g3 g4=>⟨_,g4 _ _ h3,by rw[Rz,hl,NR];lia,us++[(u,t)],⟨_,rfl⟩,?_,?_,λz hz=>?_,by rw[RI,hl];rfl,(s3.trans g4).put hrq⟩⟩)
    .rw[ah,show cF (us++[(u,t)])=cF us++[V.ref t]from RQ ..]
    .exact(hR.add g4 g3).put (g4 _ _ h3)
    .rcases RM.mp hz with w|w
     .exact hg z w
     .rw[RL.mp w];exact g1
   .obtain⟨us,o,x1,x2,x3,x4,x5⟩:=h;exact hK _ _ ⟨us,o,x1,x2,x3,by lia,x5⟩
  rintro _ H3 ⟨us,⟨o7,rfl⟩,h3,hR,hg,hl,s3⟩;have hS3:=s3.seq hS2;refine bI (λv H'=>∃(tq:Addr)(ts:List ((Str×Str)×Addr)),v=.ref tq/\tm ks ts/\gv H' ts/\H' tq=some (.lst (bQ ts))/\ak H3 H') (λQ q=>?_) ?_
  .exact eI (ae (aK (ae (aa rfl) (ae ar aw)) (λQ q=>⟨a,ns,8,rfl,hS3,by decide,q⟩)) (ae (aa rfl) aw)) ⟨_,kq,ks,rfl,ek.same s3,λtq ts H' g1 g2 g3 g4 g5=>q _ _ ⟨tq,ts,rfl,g1,g2,g4,g5⟩⟩
  rintro _ H4 ⟨tq,ts,rfl,tg,tp,et,s4⟩;have hS4:=s4.seq hS3;refine aU (aK (ae (aa rfl) (ae ar aw)) (λQ q=>⟨a,ns,9,rfl,hS4,by decide,q⟩)) ?_;generalize cellAt ns 9=c9;refine gH λeq heq=>?_;have se:ak H4 (upd H4 eq (.lst [])):=(ak.refl H4).upd heq;obtain⟨n2,e2,hn3⟩:=mw (ns:=[0,1,2,3,0,6]) (i:=c9 % 6) (by lia) (by show _<(6:Int);lia);have hn4:0<=n2/\n2<=6:=by simp only[RB,RW,or_false]at hn3;lia
  have hpos:(0:Int)<((ks.map strV).length:Int):=by rw[Rz];have:=ek.l1;lia
  refine cb (λσ' H'=>∃es:List ((Str×Str)×Addr),(∃o7 o10,σ'=[oR a,oJ wi,oJ hi,oR d,oR kq,oJ c9,oR rq,o7,oR tq,oR eq,o10,none])/\H' eq=some (.lst (bQ es))/\gv H' es/\(∀z∈es,z.1.1∈iA/\∃b∈ks,z.1.2=one b)/\es.length<=6/\ak H4 H') (λK' hK=>?_) ?_
  .refine kU n2 (λQ q=>vP jo (by decide) (λH'=>(aR (aa rfl) ar (by decide))) e2 q) (by lia) (by lia)
    (λi σ' H'=>∃es:List ((Str×Str)×Addr),(∃o7 o10,σ'=[oR a,oJ wi,oJ hi,oR d,oR kq,oJ c9,oR rq,o7,oR tq,oR eq,o10,none])/\H' eq=some (.lst (bQ es))/\gv H' es/\(∀z∈es,z.1.1∈iA/\∃b∈ks,z.1.2=one b)/\es.length=i/\ak H4 H')
    (λH' s=>⟨[],⟨_,_,rfl⟩,s _ _ ah,λ_ z=>(nomatch z),λ_ z=>(nomatch z),rfl,se.trans s⟩) ?_ (λσ' H' h=>?_)
   .rintro i _ H5 hi' ⟨es,⟨o7',o10,rfl⟩,h5,hP,hg5,hl5,s5⟩;show bp _ _ _ [oR a,oJ wi,oJ hi,oR d,oR kq,oJ c9,oR rq,oJ (0+(i:Int)),oR tq,oR eq,o10,none] H5;refine aU (aK (ae (aa rfl) (ae (aa rfl) aw)) (λQ q=>⟨_,_,rfl,q⟩)) ?_;generalize mixed c9 (0+(i:Int))=mm;obtain⟨en,ee,he⟩:=vU (ss:=iA) (i:=mm % 2) (by lia) (by show _<(2:Int);lia);have ek5:∀{H'},ak H5 H'->jp H' kq ks:=λz=>ek.same (((s3.trans s4).trans s5).trans z);obtain⟨kc,kcm,kce⟩:=(ek5 (ak.refl _)).pick (mm / 2);refine lv (aa rfl) ⟨_,h5⟩ (tupY (gE (iQ jo (by decide) (λH'=>(aR (aa rfl) ar (by decide))) ee (λH6 s6=>eF (aQ (aa rfl) (aR (bw (aa rfl) ar ⟨by decide,by decide⟩) (cS (aa rfl) (.inl (aY.of (ek5 s6).at_))) hpos) (.inl (aY.of (ek5 s6).at_)) kce) (rS ⟨by show 2<=sizeLine;decide,λt ht=>?_⟩)))));have h56:=s6 _ _ h5;have s67:=s6.upd (o:=.tup [.str en,strV kc]) ht;refine⟨_,s67 _ _ h5,by rw[Rz,hl5,NR];lia,es++[((en,one kc),t)],⟨_,_,rfl⟩,?_,(hP.add s67 ah).put (s67 _ _ h5),λz hz=>?_,by rw[RI,hl5];rfl,(s5.trans s67).put heq⟩
    .rw[ah,show bQ (es++[((en,one kc),t)])=bQ es++[V.ref t]from RQ ..]
    .rcases RM.mp hz with w|w
     .exact hg5 z w
     .rw[RL.mp w];exact⟨he,kc,kcm,rfl⟩
   .obtain⟨es,o,x1,x2,x3,x4,x5⟩:=h;exact hK _ _ ⟨es,o,x1,x2,x3,by lia,x5⟩
  rintro _ H5 ⟨es,⟨o7',o10,rfl⟩,h5,hP,hg5,hl5,s5⟩;refine bI (λv H'=>∃st:Str,v=.str st/\st∈iG/\ak H5 H') (λQ q=>?_) ?_
  .obtain⟨n,e,hn⟩:=vU (ss:=iG) (i:=c9 / 6 % 3) (by lia) (by show _<(3:Int);lia);exact iQ jo (by decide) (λH'=>(aR (bw (aa rfl) ar ⟨by decide,by decide⟩) ar (by decide))) e (λH' s=>q _ _ ⟨n,rfl,hn,s⟩)
  rintro _ H6 ⟨st,rfl,hst,s6⟩;have s26:ak H2 H6:=((s3.trans s4).trans s5).trans s6;have ed6:=(s2.trans s26) _ _ ed;refine Lx (G3 (gE (G3 (eF (aa rfl) (eF (aa rfl) (eF (aa rfl) (rS λx dx nx ndx ne=>?_)))))));refine⟨x,d,dx,wi,hi,hs,rfl,ah,by rw[av (aC ed6 nx),av (aC ed6 ndx)];exact ed6,w1,w8,h1,h8,gd,nd,ln,λhs' H7 pm O sb=>⟨rfl,?_⟩⟩;have s7:ak H6 H7:=oo (ak.refl H6) nx ndx sb;refine eF (aa rfl) (eF (aa rfl) (eF (aa rfl) (eF (aa rfl) (eF (aa rfl) (rS λg gx ng ngx nne=>?_)))));have sF:ak H7 (upd (upd H7 gx (.own g)) g (.ins cG gx [])):=((ak.refl H7).upd ngx).upd (by rw[av (Ne.symm nne)];exact ng);have ekF:=ek.same ((s26.trans s7).trans sF);have q3:=(((s4.trans s5).trans s6).trans s7).trans sF;have q4:=((s5.trans s6).trans s7).trans sF;have q5:=(s6.trans s7).trans sF;have mm:(ks.map one).map V.str=ks.map strV:=by rw[RN];rfl
  have tln:∀z∈ts,z.1.1.length<=1000/\z.1.2.length<=1000:=λz hz=>by obtain⟨⟨a,_,e1⟩,b,_,e2⟩:=tg.kd z hz;rw[e1,e2];exact⟨iP a,iP b⟩
  have eln:∀z∈es,z.1.1.length<=1000/\z.1.2.length<=1000:=λz hz=>by obtain⟨e1,b,_,e2⟩:=hg5 z hz;rw[e2];exact⟨JZ e1,iP b⟩
  refine⟨g,x,kq,rq,tq,eq,gx,ks.map one,cF us,bQ ts,bQ es,st,rfl,ah,by rw[mm];exact ekF.at_,q3 _ _ h3,q4 _ _ et,q5 _ _ h5,JD ekF,IT (q3 _ _ h3) (hR.same q3) hg,AU (q4 _ _ et) (tp.same q4) tln,AU (q5 _ _ h5) (hP.same q5) eln,
   xx ekF.at_ ek.ltr ek.nd ek.l1 ek.l6,wW (q3 _ _ h3) (hR.same q3) hg (by lia),wJ (q4 _ _ et) (tp.same q4) tg,oa (q5 _ _ h5) (hP.same q5) (λz hz=>⟨(hg5 z hz).1,?_⟩) hl5,hst,(by decide:∀s∈iG,s.length<=1000) st hst,λH8 G sb'=>⟨rfl,?_⟩⟩
  .obtain⟨b,hb,e2⟩:=(hg5 z hz).2;exact RA.mpr ⟨b,hb,e2.symm⟩
  .rw[mm]at G;have s8:ak H7 H8:=oo (ak.refl H7) ng ngx sb';have t3:=(((s4.trans s5).trans s6).trans s7).trans s8;have t4:=((s5.trans s6).trans s7).trans s8;have t5:=(s6.trans s7).trans s8;exact k g x kq wi hi hs' ks us ts es st H8 ⟨G,O.same s8,ek.ltr,ek.l1,ek.l6,ek.nd,hR.same t3,hl,hg,tp.same t4,tg,hP.same t5,hl5,hg5,hst⟩ (by rw[pm.length_eq];exact l2) (by rw[pm.length_eq];exact ln) (((s1.trans s2).trans s3).trans t3)
end
theorem GY{xs:List V}{i:Int}(h0:0<=i)(h1:i<xs.length):∃v,km xs i=some v/\v∈xs:=by obtain⟨v,e1,e2⟩:=Cf (xs:=xs) h0 h1;exact⟨v,e1,RT e2⟩
def AD(K:Frag)(cB cG:Addr):Sp:=λvs H Q _=>∃(a g b:Addr)(ns:List Int)(st:Int)(wi hi:Int)(hs:List Int)(ks:List Nat)(rs ts es:List V)(sw:Str),vs=[.ref a,.ref g,.int st]/\aY K H a (ns.map V.int)/\0<=st/\st<=100/\gw cG H g b (ks.map strV) rs ts es sw/\cu K cB H b wi hi hs/\(∀k∈ks,lG k)/\1<=ks.length/\ks.length<=6/\(hs.length:Int)<wi*hi/\
 ∀(z:Str)(H':Hp),z.length=(wi*hi).toNat->(∀(s c:Nat),z.cps.toList[s]? =some c->lu ks c (if(s:Int)∈hs then 35 else 46)=true)->ak H H'->Q (.str z) H'
theorem Bn{K:Frag}{H:Hp}{Q:VK}{d:Addr}{cs:List Nat}(h:H d=some (.lst (cs.map strV)))(hl:cs.length<=1000)(q:Q (.str ⟨cs.toArray⟩) H):sA K (.str "") [.ref d] H Q:=by
 rw[IX];refine⟨cs.map one,aY.of (by rw[RN];exact h),?_,?_⟩
 .rw[RN];have es:∀l:List Nat,(l.map ((λx:Str=>x.length)∘one)).sum=l.length:=λl=>by
   induction l with
   |nil=>rfl
   |cons a r ih=>rw[RY,List.sum_cons,ih,RR];show 1+r.length=_;lia
  have ez:("":Str).length=0:=by decide+kernel
  have hz:sizeLine=sizeLine:=rfl;rw[es,ez];show cs.length+(cs.map one).length*0<=16777216;lia
 .rw[xB];exact q
theorem xL(F:List Int)(lo hi:Option Int):∃ss:List Int,cutV (F.map V.int) lo hi=ss.map V.int/\(∀s∈ss,s∈F)/\ss.length<=F.length:=by
 refine⟨(F.drop (HT.sIx (F.map V.int).length 0 lo)).take (HT.sIx (F.map V.int).length (F.map V.int).length hi - HT.sIx (F.map V.int).length 0 lo),?_,λs hs=>SW (Ss hs),?_⟩
 .unfold cutV;rw[SJ,List.map_drop]
 .rw[RV,Sj];lia
def gI(F:List Int)(x:V):Int:=F.getD (match x with| .int i=>(i % (F.length:Int)).toNat|_=>0) 0
theorem Mh{F:List Int}(h:0<F.length)(x:V):gI F x∈F:=by
 have key:∀j,j<F.length->F.getD j 0∈F:=λj hj=>by rw[RH,RC hj];exact RU _
 unfold gI;cases x with
 |int i=>
  have h0:=TN i (by lia:(F.length:Int)≠0);have h1:=TQ i (by lia:(0:Int)<F.length);refine key _ ?_;dsimp only;lia
 |_=>exact key _ h
theorem Mi{F:List Int}(h:0<F.length)(i:Int):km (F.map V.int) (i % ((F.map V.int).length:Int))=some (.int (gI F (.int i))):=by
 rw[Rz];have h0:=TN i (by lia:(F.length:Int)≠0);have h1:=TQ i (by lia:(0:Int)<F.length);obtain⟨v,e1,e2⟩:=Cf (xs:=F.map V.int) h0 (by rw[Rz];exact h1);rw[e1];rw[RE]at e2;unfold gI;dsimp only;rw[RH];cases e:F[(i % (F.length:Int)).toNat]? with
 |none=>rw[e]at e2;cases e2
 |some z=>rw[e]at e2;exact e2.symm
noncomputable def bareL(n:Nat)(hs:List Int):List Nat:=(List.range n).map λ(s:Nat)=>if(s:Int)∈hs then 35 else 46
def GS(hs:List Int):V->V
 | .int i=>strV (if i∈hs then 35 else 46)
 |_=>.non
section
variable{P:NP}{w:NT}{K:Frag}{mg:NH}{Ny:NZ}{aS aA aE aW:Addr}
theorem rO{f cB cG:Addr}{fd:NV}(F:bB K "_law_row" "_law_row" cz f fd)(T:Txt mg aS aA aE aW)(B:kj K cB)(D:vm K cG)(C:LG1 P w K mg Ny):bg P w K mg Ny cV 2 f fd ["_law_script","_law_game_here","_law_start"] (AD K cB cG):=by
 refine F.ok bC (λvs H Q E h=>?_) (λcdv A Nz s H vs Q E hr h=>?_)
 .obtain⟨a,g,b,ns,st,wi,hi,hs,ks,rs,ts,es,sw,rfl,_⟩:=h;rfl
 .obtain⟨a,g,b,ns,st,wi,hi,hs,ks,rs,ts,es,sw,rfl,hS,st0,st1,G,O,hlt,k1,k6,ln,q⟩:=h;have hu:=bS hr;refine⟨_,(af (aD (i:=3) bC.nd rfl (Or.inl rfl) (au (ck K (ck K (cv 1))) (ck K (ck K (cv 1)))))
   (af (aD (i:=4) bC.nd rfl (Or.inr rfl) (gB (cC (N:=["_law_square","_law_game_here"]) (src:=[none,some 1]) (ao cz) ["_law_script","_law_game_here","_law_start","_law_size","_law_free","_law_signs","_law_cell","_law_cells","_law_spots","_law_k","_law_square","_law_more","_law_kind"]) (Cu T.range (az (cv 3) pa_nil)) (λ_ _ _=>(bD (i:=0) ["_law_square","_law_game_here"])) (λ_ _ _=>(jT (aT K hu (cv 0) (ck K (ck K (cv 1)))))) (λ_ _ _=>(cv 0))))
   (af (jS (i:=5) rfl (cC (N:=["_law_square","_law_game_here"]) (src:=[none,some 1]) (ao cz) ["_law_script","_law_game_here","_law_start","_law_size","_law_free","_law_signs","_law_cell","_law_cells","_law_spots","_law_k","_law_square","_law_more","_law_kind"]) (Cu T.range (az (cv 3) pa_nil)) (λ_ _ _=>(bD (i:=0) ["_law_square","_law_game_here"])) (λ_ _ _=>bZ) (λ_ _ _=>(bR K bz (xA oP qI T.int (az (jv K hu (cv 0) (ck K (ck K (cv 1)))) pa_nil)))) bC.nd rfl (Or.inl rfl) rfl (Or.inl rfl))
   (af (aD (i:=6) bC.nd rfl (Or.inl rfl) (aH C._law_cell_at hr (az (cv 0) (az (cv 2) pa_nil))))
   (af (jS (i:=7) rfl (cC (N:=["_law_k","_law_script","_law_start"]) (src:=[none,some 0,some 2]) (ao cz) ["_law_script","_law_game_here","_law_start","_law_size","_law_free","_law_signs","_law_cell","_law_cells","_law_spots","_law_k","_law_square","_law_more","_law_kind"]) (Cu T.range (az ag pa_nil)) (λ_ _ _=>(bD (i:=0) ["_law_k","_law_script","_law_start"])) (λ_ _ _=>bZ) (λ_ _ _=>(aH C._law_mixed hr (az (aH C._law_cell_at hr (az (cv 1) (az (au (au (cv 2) ag) (cv 0)) pa_nil))) (az (cv 0) pa_nil)))) bC.nd rfl (Or.inl rfl) rfl (Or.inl rfl))
   (af (jS (i:=8) rfl (cC (N:=["_law_more","_law_free"]) (src:=[none,some 4]) (ao cz) ["_law_script","_law_game_here","_law_start","_law_size","_law_free","_law_signs","_law_cell","_law_cells","_law_spots","_law_k","_law_square","_law_more","_law_kind"]) (qQ K (Bi K (cv 7) du (cK (au ag (au (cv 6) ag))))) (λ_ _ _=>(bD (i:=0) ["_law_more","_law_free"])) (λ_ _ _=>bZ) (λ_ _ _=>(bR K (cv 1) (au (cv 0) (kB (klen K) bT T.len (az (cv 1) pa_nil))))) bC.nd rfl (Or.inl rfl) rfl (Or.inl rfl))
   (af (bf (aT K hu (au (au (cv 6) ag) ag) ag) (am (aD (i:=8) bC.nd rfl (Or.inl rfl) (Bi K (cv 4) du (cK ag)))) aJ)
   (af (bf (aT K hu (au (au (cv 6) ag) ag) ag) (am (aD (i:=8) bC.nd rfl (Or.inl rfl) (bi pa_nil))) aJ)
   (af (fJ N8 rfl (Bk K T.enumerate (cv 8)) (L5 K (n:=2) (cH (bN (i:=9) bC.nd rfl (Or.inl rfl)) (cH (bN (i:=10) bC.nd rfl (Or.inl rfl)) jU))) (af (aD (i:=11) bC.nd rfl (Or.inl rfl) (au (bR K (cv 7) (au (cv 9) ag)) (au ag (au (cv 9) ag))))
   (af (aD (i:=12) bC.nd rfl (Or.inl rfl) (bR K (ck K (cv 1)) (au (au (cv 11) ag) (kB (klen K) bT T.len (az (ck K (cv 1)) pa_nil)))))
   (am (kL (bR K (bi (az (jx PySem.F.slot_str_upper PySem.F.type_str_upper uw (cv 12)) (az (cv 12) pa_nil))) (au (au (cv 11) ag) ag)) (pV (cv 5) (cv 10) jK))))))
   (am (aF (ksm PySem.F.slot_str_join PySem.F.type_str_join (Hg K) bz (az (cv 5) pa_nil))))))))))))),?_⟩
  show bp _ _ _ [oR a,oR g,oJ st,none,none,none,none,none,none,none,none,none,none] H;have mm:=O.many;have w1:=O.w1;have w8:=O.w8;have fb:∀(H':Hp)(σ:St)(j:Nat),σ[j]? =some (some (V.ref g))->ak H H'->Ev (Kb K (fM j) "board") σ H' (.ref b):=λH' σ j h s=>ba (aa h) ((G.same s).board D);refine aU (eU (ba (fb H _ 1 rfl (ak.refl H)) (O.wide B)) (ba (fb H _ 1 rfl (ak.refl H)) (O.high B)) (.inl ⟨by lia,by lia⟩)) ?_;obtain⟨hq,fh,eh⟩:=O.holes B;refine bI (λv H'=>∃fq,v=.ref fq/\H' fq=some (.lst ((fQ wi hi hs).map V.int))/\ak H H') (λQ q=>?_) ?_
  .refine j6 (n:=wi*hi) (rest:=[oR g]) (ae (aa rfl) aw) (by lia) (by rw[NR];lia) (by lia) rfl (BD hs) (λv=>v) (λi hi=>?_) (λi hi _=>aa rfl) (λq' hq'=>?_)
   .exact bb (uN (aa rfl) (ba (fb H _ 1 rfl (ak.refl H)) fh) (.inl (aY.of eh)))
   .rw[uL];exact q _ _ ⟨q',rfl,ah,(ak.refl H).upd hq'⟩
  rintro _ H1 ⟨fq,rfl,ef,s1⟩;obtain⟨hq1,fh1,eh1⟩:=(O.same s1).holes B;refine bI (λv H'=>∃sq,v=.ref sq/\H1 sq=none/\H' sq=some (.lst ((bareL (wi*hi).toNat hs).map strV))/\ak H1 H') (λQ q=>?_) ?_
  .refine j6 (n:=wi*hi) (rest:=[oR g]) (ae (aa rfl) aw) (by lia) (by rw[NR];lia) (by lia) rfl (λ_=>true) (GS hs) (λi hi=>dM) (λi hi' _=>?_) (λq' hq'=>?_)
   .have e:strV (if decide (0+(i:Int)∈hs)=true then 35 else 46)=GS hs (.int (0+(i:Int))):=by
     show _=strV (if 0+(i:Int)∈hs then 35 else 46)
     by_cases m:0+(i:Int)∈hs
     .rw[ND m,ND (NA m)]
     .rw[NC m,NB m];rfl
    rw[<-e];exact cT ar (wf (BN (aa rfl) (ba (fb H1 _ 1 rfl s1) fh1) (.inl (aY.of eh1)))) (by decide) (Mq _)
   .refine q _ _ ⟨q',rfl,hq',?_,(ak.refl H1).upd hq'⟩;rw[ah,R7.mpr (λ_ _=>rfl),RN];unfold bareL;rw[RN];congr 2;refine R9 λi _=>?_;show strV (if 0+(i:Int)∈hs then 35 else 46)=strV (if(i:Int)∈hs then 35 else 46);rw[TU]
  rintro _ H2 ⟨sq,rfl,sqn,esq,s2⟩;have s02:=s1.trans s2;refine aU (aK (sp:=jH K) (ae (aa rfl) (ae (aa rfl) aw)) (λQ q=>⟨a,ns,st,rfl,s02.seq hS,st0,q⟩)) ?_;generalize cellAt ns st=c;refine bI (λv H'=>∃(cq:Addr)(cs:List Int),v=.ref cq/\H' cq=some (.lst (cs.map V.int))/\cs.length=6/\ak H2 H') (λQ q=>?_) ?_
  .refine j6 (n:=6) (rest:=[oR a,oJ st]) (ae ar aw) (by lia) (by decide) (by decide) rfl (λ_=>true) (λx=>match x with| .int i=>.int (mixed (cellAt ns (st+1+i)) i)|_=>.non) (λi hi=>dM) (λi hi' _=>?_) (λq' hq'=>?_)
   .exact aK (sp:=pi) (ae (aK (sp:=jH K) (ae (aa rfl) (ae (bK (bK (aa rfl) ar) (aa rfl)) aw)) (λQ q=>⟨a,ns,_,rfl,s02.seq hS,by lia,q⟩)) (ae (aa rfl) aw)) (λQ q=>⟨_,_,rfl,q⟩)
   .refine q _ _ ⟨q',(List.range 6).map λ(i:Nat)=>mixed (cellAt ns (st+1+(0+(i:Int)))) (0+(i:Int)),rfl,?_,by rw[Rz,Sa],(ak.refl H2).upd hq'⟩;rw[ah,R7.mpr (λ_ _=>rfl),RN,RN];rfl
  rintro _ H3 ⟨cq,cs,rfl,ecs,l6,s3⟩;have s03:=s02.trans s3;have esq3:=s3 _ _ esq;have ef3:=(s2.trans s3) _ _ ef;have fpos:=xH ln;show bp _ _ _ [oR a,oR g,oJ st,oJ (wi*hi),oR fq,oR sq,oJ c,oR cq,none,none,none,none,none] H3;have flen:(fQ wi hi hs).length<=64:=by unfold fQ;have:=Sf (λi=> !decide (i∈hs)) ((List.range (wi*hi).toNat).map λ(i:Nat)=>(i:Int));rw[Rz,Sa]at this;lia
  have nsq:∀p,H3 p=none->p≠sq:=λp hp e=>by rw[e,esq3]at hp;cases hp
  refine bI (λv H'=>∃(pq:Addr)(ss:List Int),v=.ref pq/\H' pq=some (.lst (ss.map V.int))/\pq≠sq/\(∀s∈ss,s∈fQ wi hi hs)/\ss.length<=64/\ak H3 H') (λQ q=>?_) ?_
  .refine l9 (lo:=none) (hi:=some (1+c % 6)) (aa rfl) (λQ q=>q) (λQ q=>uM (bK ar (aR (aa rfl) ar (by decide))) q) (aY.of ecs) (λp hp=>?_);have s4:=(ak.refl H3).upd (o:=.lst (cutV (cs.map V.int) none (some (1+c % 6)))) hp;have cl:(cutV (cs.map V.int) none (some (1+c % 6))).length<=6:=by have:=dG (cs.map V.int) none (some (1+c % 6));rw[Rz]at this;lia
   have ef4:aY K _ fq ((fQ wi hi hs).map V.int):=aY.of (s4 _ _ ef3);refine gF (tl:=tC (.ref p)) (d:=p) (xs:=cutV (cs.map V.int) none (some (1+c % 6))) (rest:=[oR fq]) ar (aY.of ah) (by rw[NR];lia) rfl (λ_=>true) (λx=>.int (gI (fQ wi hi hs) x)) (λx hx=>dM) (λx hx _=>?_) (λp2 hp2=>?_)
   .obtain⟨i,_,rfl⟩:=RA.mp (BY hx);exact aQ (aa rfl) (aR (aa rfl) (cS (aa rfl) (.inl ef4)) (by rw[Rz];lia)) (.inl ef4) (Mi fpos i)
   .refine q _ _ ⟨p2,(cutV (cs.map V.int) none (some (1+c % 6))).map (gI (fQ wi hi hs)),rfl,?_,nsq _ (s4.free hp2),λs hs'=>?_,by rw[Rz];lia,s4.upd hp2⟩
    .rw[ah,R7.mpr (λ_ _=>rfl),RN];rfl
    .obtain⟨x,_,rfl⟩:=RA.mp hs';exact Mh fpos x
  rintro _ H4 ⟨pq,ss,rfl,epq,npq,hss,lss,s4⟩;show bp _ _ _ [oR a,oR g,oJ st,oJ (wi*hi),oR fq,oR sq,oJ c,oR cq,oR pq,none,none,none,none] H4;have ef4:=s4 _ _ ef3;refine eW (λσ' H'=>∃(pq:Addr)(ss:List Int),σ'=[oR a,oR g,oJ st,oJ (wi*hi),oR fq,oR sq,oJ c,oR cq,oR pq,none,none,none,none]/\H' pq=some (.lst (ss.map V.int))/\pq≠sq/\(∀s∈ss,s∈fQ wi hi hs)/\ss.length<=64/\ak H3 H') ?_ (λgo=>?_)
  rotate_left
  .refine bh (bb (gC (aR (bw (aa rfl) ar ⟨by decide,by decide⟩) ar (by decide)) ar)) (λ_=>?_) (λ_=>go _ _ ⟨pq,ss,rfl,epq,npq,hss,lss,s4⟩);obtain⟨ss2,e2,h2,l2⟩:=xL (fQ wi hi hs) none (some 12);exact kZ (l9 (lo:=none) (hi:=some 12) (aa rfl) (λQ q=>q) (λQ q=>uM ar q) (aY.of ef4) (λp hp=>go _ _ ⟨p,ss2,rfl,by rw[ah,e2],nsq _ (s4.free hp),h2,by lia,s4.upd hp⟩))
  rintro _ H4 ⟨pq,ss,rfl,epq,npq,hss,lss,s4⟩;refine eW (λσ' H'=>∃(pq:Addr)(ss:List Int),σ'=[oR a,oR g,oJ st,oJ (wi*hi),oR fq,oR sq,oJ c,oR cq,oR pq,none,none,none,none]/\H' pq=some (.lst (ss.map V.int))/\pq≠sq/\(∀s∈ss,s∈fQ wi hi hs)/\ss.length<=64/\ak H3 H') ?_ (λgo=>?_)
  rotate_left
  .refine bh (bb (gC (aR (bw (aa rfl) ar ⟨by decide,by decide⟩) ar (by decide)) ar)) (λ_=>?_) (λ_=>go _ _ ⟨pq,ss,rfl,epq,npq,hss,lss,s4⟩);exact kZ (lq (jk ⟨Tl _,λp hp=>go _ _ ⟨p,[],rfl,ah,nsq _ (s4.free hp),λs hs=>(by cases hs),Tl _,s4.upd hp⟩⟩))
  rintro _ H4 ⟨pq,ss,rfl,epq,npq,hss,lss,s4⟩;have esq4:=s4 _ _ esq3;have hsn:H sq=none:=s1.free sqn;have s04:=s03.trans s4;have back:∀H',SameBut sq H4 H'->ak H H':=λH' sb d o e=>sb d o (s04 d o e) (λz=>by rw[z,hsn]at e;cases e);have ncq:cq≠sq:=λz=>by
   have h1:H3 sq=some (.lst (cs.map V.int)):=z▸ecs;rw[esq3]at h1;have h2:(bareL (wi*hi).toNat hs).map strV=cs.map V.int:=by injection h1 with h1;injection h1
   cases cs with
   |nil=>simp at l6
   |cons x r=>
    cases hb:bareL (wi*hi).toNat hs with
    |nil=>rw[hb]at h2;cases h2
    |cons y r2=>rw[hb]at h2;injection h2 with h2 _;cases h2
  refine cb (λσ' H'=>∃(zs:List Nat)(o9 o10 o11 o12:Option V),σ'=[oR a,oR g,oJ st,oJ (wi*hi),oR fq,oR sq,oJ c,oR cq,oR pq,o9,o10,o11,o12]/\H' sq=some (.lst (zs.map strV))/\zs.length=(wi*hi).toNat/\(∀(s c:Nat),zs[s]? =some c->lu ks c (if(s:Int)∈hs then 35 else 46)=true)/\SameBut sq H4 H') (λK' hK=>?_) ?_
  .refine sE (λq' H'=>q'=pq/\H'=H4) (λQ q=>uM (v:=.ref pq) (aa rfl) (q _ _ ⟨rfl,rfl⟩)) ?_;rintro q' H' ⟨rfl,rfl⟩;refine⟨ss.map V.int,aY.of epq,λi σ' H''=>∃(zs:List Nat)(o9 o10 o11 o12:Option V),σ'=[oR a,oR g,oJ st,oJ (wi*hi),oR fq,oR sq,oJ c,oR cq,oR q',o9,o10,o11,o12]/\H'' sq=some (.lst (zs.map strV))/\zs.length=(wi*hi).toNat/\(∀(s c:Nat),zs[s]? =some c->lu ks c (if(s:Int)∈hs then 35 else 46)=true)/\SameBut sq H' H'',
    ⟨bareL (wi*hi).toNat hs,_,_,_,_,rfl,esq4,?_,?_,SameBut.refl _⟩,?_,?_,?_⟩
   .unfold bareL;rw[Rz,Sa]
   .intro s c' h;unfold bareL at h;rw[RE]at h;cases hr:(List.range (wi*hi).toNat)[s]? with
    |none=>rw[hr]at h;cases h
    |some s'=>
     rw[hr]at h;have e1:s'=s:=by have:=RO.mp hr;obtain⟨h1,h2⟩:=this;rw[List.getElem_range]at h2;exact h2.symm
     subst e1;have h:(if(s':Int)∈hs then 35 else 46)=c':=by injection h
     rw[<-h];unfold lu
     by_cases m:(s':Int)∈hs
     .rw[ND m];rfl
     .rw[NC m,NC (by decide)];exact NA (.inl rfl)
   .rintro i σ' H'' ⟨_,_,_,_,_,_,_,_,_,sb⟩;exact aY.of (sb _ _ epq npq)
   .rintro i x _ H5 t hx ⟨zs,o9,o10,o11,o12,rfl,e5,lz,gz,sb⟩ nt;obtain⟨z,hz,rfl⟩:=RA.mp (RT hx);refine Hl ah ?_;obtain⟨z0,z1,z2⟩:=BE (hss z hz);have s6:=(ak.refl H5).upd (o:=.tup [.int (i:Int),.int z]) nt;generalize upd H5 t (HO.tup [V.int (i:Int),V.int z])=H6 at s6;have sb6:SameBut sq H' H6:=sb.trans s6.but;have ecs6:aY K H6 cq (cs.map V.int):=aY.of (sb6 _ _ (s4 _ _ ecs) ncq);have s06:=back H6 sb6;have e6:=s6 _ _ e5;show bp _ _ _ [oR a,oR g,oJ st,oJ (wi*hi),oR fq,oR sq,oJ c,oR cq,oR q',oJ (i:Int),oJ z,o11,o12] H6;obtain⟨n1,en1,_⟩:=mw (ns:=cs) (i:=(i:Int) % 6) (by lia) (by lia);refine aU (bK (aQ (aa rfl) (aR (aa rfl) ar (by decide)) (.inl ecs6) en1) (eU ar (bw (aa rfl) ar ⟨by decide,by decide⟩) (.inl ⟨by decide,by decide⟩))) ?_;generalize n1+4099*((i:Int) / 6)=more;obtain⟨kq,fk,ek⟩:=(G.same s06).kinds D;have kpos:(0:Int)<((ks.map strV).length:Int):=by rw[Rz];lia
    obtain⟨kv,ekv,mkv⟩:=GY (xs:=ks.map strV) (i:=more / 64 % ((ks.map strV).length:Int)) (TN _ (by lia)) (TQ _ kpos);obtain⟨k,hk,rfl⟩:=RA.mp mkv;refine aU (aQ (ba (aa rfl) fk) (aR (bw (aa rfl) ar ⟨by decide,by decide⟩) (cS (ba (aa rfl) fk) (.inl (aY.of ek))) kpos) (.inl (aY.of ek)) ekv) ?_;show tAsg _ _ _ [some (.ref a),some (.ref g),some (.int st),some (.int (wi*hi)),some (.ref fq),some (.ref sq),some (.int c),some (.ref cq),some (.ref q'),some (.int (i:Int)),some (.int z),some (.int more),some (strV k)] H6;obtain⟨v,ev,mv⟩:=GY (xs:=[strV (k - 32),strV k]) (i:=more / 512 % 2) (by lia) (by show _<(2:Int);lia);refine vR (l:=sq) (i:=z) (P:=λv H'=>ak H6 H'/\∃c,v=strV c/\(c∈ks\/c∈ks.map (· - 32))) (λQ q=>iQ (ae (BI (aa rfl) (hlt k hk)) (ae (aa rfl) aw)) (by show 2<=1000;decide) (λH'=>(aR (bw (aa rfl) ar ⟨by decide,by decide⟩) ar (by decide))) ev (λH' s=>q _ _ ⟨s,?_⟩)) (λu H7 h=>?_)
    .simp only[RB,RW,or_false]at mv
     rcases mv with rfl|rfl
     .exact⟨_,rfl,.inr (RA.mpr ⟨k,hk,rfl⟩)⟩
     .exact⟨_,rfl,.inl hk⟩
    .obtain⟨s7,c',rfl,hc'⟩:=h;refine⟨aa rfl,aa rfl,zs.map strV,s7 _ _ e6,z0,by rw[Rz];lia,zs.set z.toNat c',_,_,_,_,rfl,?_,by rw[Sk];exact lz,λs c2 h2=>?_,(sb6.trans s7.but).self⟩
     .rw[ah,List.map_set]
     .by_cases hs2:s=z.toNat
      .subst hs2;rw[SM (by lia)]at h2;cases h2;rw[NC (by rw[T0 z0];exact z2)];unfold lu;rw[NC (by decide)];exact NA (.inr hc')
      .rw[SN (λe=>hs2 e.symm)]at h2;exact gz s c2 h2
   .rintro σ' H'' h;exact hK _ _ h
  rintro _ H5 ⟨zs,o9,o10,o11,o12,rfl,e5,lz,gz,sb⟩;show cM _ _ [oR a,oR g,oJ st,oJ (wi*hi),oR fq,oR sq,oJ c,oR cq,oR pq,o9,o10,o11,o12] H5;refine GO ar (uM (aa rfl) (Bn e5 (by lia) (q _ _ ?_ (λs c' h=>gz s c' h) (back _ sb))));show zs.toArray.size=_;rw[RD];exact lz
end
section
variable{P:NP}{w:NT}{K:Frag}{mg:NH}{Ny:NZ}{aS aA aE aW:Addr}
theorem qh{f:Addr}{fd:NV}(F:bB K "_law_side" "_law_side" fA f fd)(T:Txt mg aS aA aE aW):bg P w K mg Ny cV 1 f fd ["_law_sign"] jG:=by
 refine F.ok pM (λvs H Q E h=>?_) (λcdv A Nz s H vs Q E hr h=>?_)
 .obtain⟨c,rfl,_⟩:=h;rfl
 .obtain⟨c,rfl,hc,k⟩:=h;have hu:=bS hr;refine⟨_,(af (bf (PW.pt (fP (aT K hu (cv 0) bz) (eQ (aT K hu (cv 0) bz)))) (am (aF dw)) aJ)
   (am (aF (xA oP qI T.int (az (jv K hu (cv 0) bz) pa_nil))))),?_⟩
  show bp _ _ _ [oT (one c)] H;have e1:(one c=".")<->c=46:=⟨λz=>jV (b:=46) (z.trans (by decide+kernel)),λz=>by rw[z];decide+kernel⟩;have e2:(one c="#")<->c=35:=⟨λz=>jV (b:=35) (z.trans (by decide+kernel)),λz=>by rw[z];decide+kernel⟩;unfold bP at k;refine bh (gy (bb (eC (aa rfl) ar)) (λ_=>(bb (eC (aa rfl) ar)))) (λh=>?_) (λh=>?_)
  .refine aO ar ?_;rw[ND]at k
   .exact k
   .rw[Uc]at h;exact h.imp (λz=>e1.mp (NE z)) (λz=>e2.mp (NE z))
  .rw[Uh]at h;have n1:¬c=46:=λz=>NF h.1 (e1.mpr z);have n2:¬c=35:=λz=>NF h.2 (e2.mpr z);rw[NC (by lia)]at k;refine aO (wf (JW (aa rfl) ar)) ?_;have:(if decide (c∈("abcdefghijklmnopqrstuvwxyz":Str).cps.toList)=true then(1:Int)else 0)=if 65<=c/\c<=90 then 0 else 1:=by
    unfold Sg at hc
    by_cases z:lG c
    .rw[ND (NA (wA.mpr z)),NC (by unfold lG at z;lia)]
    .rw[NC (by rw[NB (λw=>z (wA.mp w))];decide),ND (by unfold lG at z;lia)]
   rw[this];exact k
theorem qg{f cB cG:Addr}{fd:NV}(F:bB K "_law_step" "_law_step" fv f fd)(T:Txt mg aS aA aE aW)(B:kj K cB)(D:vm K cG):bg P w K mg Ny cV 1 f fd ["_law_game_here","_law_square","_law_across","_law_up"] (lJ K cB cG):=by
 refine F.ok fR (λvs H Q E h=>?_) (λcdv A Nz s H vs Q E hr h=>?_)
 .obtain⟨g,b,wi,hi,sq,ax,up,hs,ks,rs,ts,es,st,rfl,_⟩:=h;rfl
 .obtain⟨g,b,wi,hi,sq,ax,up,hs,ks,rs,ts,es,st,rfl,G,O,k⟩:=h;have hu:=bS hr;have w1:=O.w1;have w8:=O.w8;have fb:=G.board D;have fw:=O.wide B;have fh:=O.high B;obtain⟨hq,fq,eq⟩:=O.holes B;refine⟨_,(af (aD (i:=4) fR.nd rfl (Or.inl rfl) (au (au (cv 1) (ck K (ck K (cv 0)))) (cv 2)))
   (af (aD (i:=5) fR.nd rfl (Or.inl rfl) (au (au (cv 1) (ck K (ck K (cv 0)))) (cv 3)))
   (af (bf (PW.pt (fP (bJ (lO K hu ag (cv 4) (ck K (ck K (cv 0))))) (eQ (bJ (lO K hu ag (cv 5) (ck K (ck K (cv 0)))))))) (am (aF dw)) aJ)
   (af (aD (i:=6) fR.nd rfl (Or.inl rfl) (au (au (cv 5) (ck K (ck K (cv 0)))) (cv 4)))
   (am (aF (dn (aT K hu (cv 6) (ck K (ck K (cv 0)))) dw (cv 6)))))))),?_⟩
  show bp _ _ _ [oR g,oJ sq,oJ ax,oJ up,none,none,none] H;refine aU (bK (aR (aa rfl) (ba (ba (aa rfl) (fb)) (fw)) (by lia)) (aa rfl)) ?_;refine aU (bK (bw (aa rfl) (ba (ba (aa rfl) (fb)) (fw)) (⟨by lia,by lia⟩)) (aa rfl)) ?_;unfold Kx at k;generalize hc:sq % wi+ax=c at k;generalize hr':sq / wi+up=r at k;refine bh (gy (ci (lH ar (aa rfl) (λ_=>(ba (ba (aa rfl) (fb)) (fw))))) (λ_=>(ci (lH ar (aa rfl) (λ_=>(ba (ba (aa rfl) (fb)) (fh))))))) (λh=>?_) (λh=>?_)
  .refine aO ar ?_;rw[NC (λz=>by rw[NA (⟨z.1,z.2.1⟩:0<=c/\c<wi),NA (⟨z.2.2.1,z.2.2.2⟩:0<=r/\r<hi)]at h;cases h)]at k;exact k
  .have hcr:(0<=c/\c<wi)/\0<=r/\r<hi:=by simpa using h
   rw[ND ⟨hcr.1.1,hcr.1.2,hcr.2.1,hcr.2.2⟩]at k;have m1:r*wi<=8*8:=TV (by have:=O.h8;lia) w8 (by lia) (by lia);refine aU (bK (eU (aa rfl) (ba (ba (aa rfl) (fb)) (fw)) (.inr ⟨by lia,by lia⟩)) (aa rfl)) ?_
   by_cases z:r*wi+c∈hs
   .rw[ND z]at k;exact nT (b:=decide (r*wi+c∈hs)) (bb (BN (aa rfl) (ba (ba (aa rfl) fb) fq) (.inl (aY.of eq)))) (λ_=>ar _ k) (λw=>NG z (NF w))
   .rw[NC z]at k;exact nT (b:=decide (r*wi+c∈hs)) (bb (BN (aa rfl) (ba (ba (aa rfl) fb) fq) (.inl (aY.of eq)))) (λw=>NG (NE w) z) (λ_=>(aa rfl) _ k)
end
section
variable{P:NP}{w:NT}{K:Frag}{mg:NH}{Ny:NZ}{aS aA aE aW:Addr}
theorem lD{f cB cG:Addr}{fd:NV}(F:bB K "_law_by_rule" "_law_by_rule" cR f fd)(T:Txt mg aS aA aE aW)(C:CLb P w K mg Ny cB cG):bg P w K mg Ny cV 2 f fd ["_law_game_here","_law_row_here","_law_square","_law_rule_here"] (n4 K cB cG):=by
 refine F.ok bF (λvs H Q E h=>?_) (λcdv A Nz s H vs Q E hr h=>?_)
 .obtain⟨g,b,r,row,sq,sd,wi,hi,hs,u,ks,rs,ts,es,st,rfl,_⟩:=h;rfl
 .obtain⟨g,b,r,row,sq,sd,wi,hi,hs,u,ks,rs,ts,es,st,rfl,G,B,hT,R,rl,s0,s1,hsd,sd2,n0,k⟩:=h;have hu:=bS hr;have r64:=R.len;have w1:=B.w1;obtain⟨x1,x2⟩:=R.toRowS.at s0 (by lia);have xs:Sg (row.cps.toList.getD sq.toNat 0):=by obtain⟨j,_,e,_⟩:=jd x1;exact R.sg _ (RT e)
  have dy0:¬(u.ax=0/\u.dy sd=0):=λz=>n0 ⟨z.1,by have:=z.2;unfold aP.dy at this;split at this<;>lia⟩;obtain⟨n,ry,n8⟩:=IW (hs:=hs) B.w8 B.h8 B.w1 s0 s1 dy0;have T1:∀{H'},ak H H'->cr K H' r u.vs:=λz=>ak.tupY z hT;have m0:=TN sq (by lia:wi≠0);have m1:=TQ sq (by lia:0<wi);refine⟨_,(af (aD (i:=4) bF.nd rfl (Or.inl rfl) (aH C._law_side hr (az (bR K (cv 1) (cv 2)) pa_nil)))
   (af (aD (i:=5) bF.nd rfl (Or.inl rfl) (bR K (cv 3) ag))
   (af (aD (i:=6) bF.nd rfl (Or.inl rfl) (bR K (bi (az (bR K (cv 3) ag) (az (jy (bR K (cv 3) ag)) pa_nil))) (cv 4)))
   (af (aD (i:=7) bF.nd rfl (Or.inl rfl) (aH C._law_step hr (az (cv 0) (az (cv 2) (az (cv 5) (az (cv 6) pa_nil))))))
   (af (aD (i:=8) bF.nd rfl (Or.inl rfl) (bi pa_nil))
   (af (bf (aT K hu (bR K (cv 3) ag) bz) (af (aD (i:=9) bF.nd rfl (Or.inl rfl) (dn (aT K hu (cv 7) dw) dw (aH C._law_step hr (az (cv 0) (az (cv 7) (az (cv 5) (az (cv 6) pa_nil)))))))
   (af (bf (PW.pt (gk (aT K hu (cv 9) dw) (gk (aT K hu (bR K (cv 1) (cv 9)) bz) (fg (aT K hu (aH C._law_side hr (az (bR K (cv 1) (cv 7)) pa_nil)) (au ag (cv 4))))))) (am (dt (gQ (cv 8) (ce (az (cv 9) (az (cv 7) pa_nil)))))) aJ)
   (am (aF (cv 8))))) aJ)
   (af (rF N8 (aT K hu (cv 7) dw) (af (bf (PW.pt (gk (aT K hu (bR K (cv 1) (cv 7)) bz) (fg (aT K hu (bR K (cv 3) ag) bz)))) (am (dt (gQ (cv 8) (ce (az (cv 7) (az (jy ag) pa_nil)))))) aJ)
   (af (bf (PW.pt (gk (aT K hu (aH C._law_side hr (az (bR K (cv 1) (cv 7)) pa_nil)) (au ag (cv 4))) (fg (aT K hu (bR K (cv 3) ag) bz)))) (am (dt (gQ (cv 8) (ce (az (cv 7) (az (cv 7) pa_nil)))))) aJ)
   (af (bf (PW.pt (fP (aT K hu (bR K (cv 3) ag) bz) (eQ (aT K hu (bR K (cv 1) (cv 7)) bz)))) (am (aF (cv 8))) aJ)
   (am (aD (i:=7) bF.nd rfl (Or.inl rfl) (aH C._law_step hr (az (cv 0) (az (cv 7) (az (cv 5) (az (cv 6) pa_nil)))))))))))
   (am (aF (cv 8)))))))))),?_⟩
  show bp _ _ _ [oR g,oT row,oJ sq,oR r,none,none,none,none,none,none] H;refine aU (v:=.int sd) (aK (ae (cT (aa rfl) (aa rfl) (by rw[NR];lia) x1) aw) (λQ q=>⟨_,rfl,xs,by rw[<-hsd]at q;exact q⟩)) ?_;refine aU (v:=.int u.ax) (aQ (aa rfl) ar (.inr hT) rfl) ?_;refine bI (λv H'=>v=.int (u.dy sd)/\ak H H') (λQ z=>?_) ?_
  .refine iQ (v:=.int (u.dy sd)) (i:=sd) (ae (aQ (x:=.int u.up) (aa rfl) ar (.inr hT) rfl) (ae (jw (aQ (x:=.int u.up) (aa rfl) ar (.inr hT) rfl)) aw)) (by show 2<=1000;decide) (λH'=>aa rfl) ?_ (λH' s=>z _ _ ⟨rfl,s⟩)
   rcases sd2 with rfl|rfl
   .rfl
   .rfl
  rintro _ H1 ⟨rfl,q1⟩;have G1:=G.same q1;have B1:=B.same q1;generalize hdy:u.dy sd=dy at ry dy0;have step:∀(H':Hp),ak H H'->∀j:Nat,j<=n->∀Q:VK,Q (oI (rayL wi sq u.ax dy n)[j]?) H'->lJ K cB cG [.ref g,.int (lX wi sq u.ax dy j),.int u.ax,.int dy] H' Q E0:=λH' s j hj Q q=>by
   refine⟨g,b,wi,hi,_,u.ax,dy,hs,ks,rs,ts,es,st,rfl,G.same s,B.same s,?_⟩;rw[<-mr ry hj]at q;cases j with
   |zero=>rw[lN w1 (by simp;exact m0) (by simp;exact m1)];exact q
   |succ j=>
    obtain⟨a1,a2,_⟩:=ry.1 j (by lia);rw[lN w1 a1 a2];exact q
  have step0:∀(H':Hp),ak H H'->∀Q:VK,Q (oI (rayL wi sq u.ax dy n)[0]?) H'->lJ K cB cG [.ref g,.int sq,.int u.ax,.int dy] H' Q E0:=λH' s Q q=>by
   have z:=step H' s 0 (Tl _) Q q
   rwa[qW w1]at z
  refine aU (v:=oI (rayL wi sq u.ax dy n)[0]?) (aK (ae (aa rfl) (ae (aa rfl) (ae (aa rfl) (ae (aa rfl) aw)))) (λQ q=>step0 H1 q1 Q q)) ?_;refine gH λq hq=>?_;have q2:ak H (upd H1 q (.lst [])):=q1.upd hq;have hqH:H q=none:=q1.free hq;have look:∀x∈rayL wi sq u.ax dy n,∃c,km row.cps.toList x=some c/\Sg c/\sdV row x=bP c/\(one c="."<->sdV row x=.non):=λx hx=>by obtain⟨a1,a2,a3⟩:=pO w1 ry x hx;exact R.look a1 (by lia) a3
  have lead:fN wi hi hs row sq sd u (qG row sd u.so u.ai (rayL wi sq u.ax dy n)):=⟨n,by rw[hdy];exact ry,n8,by rw[hdy]⟩;refine bh (b:=decide (u.so="jump")) (bb (eC (aQ (x:=.str u.so) (aa rfl) ar (.inr (T1 q2)) rfl) ar)) (λh=>?_) (λh=>?_)
  .have h:=NE h;have fin:∀H':Hp,bA H H' q (jumpL row sd (rayL wi sq u.ax dy n))->ak H H'->Q (.ref q) H':=λH' hP s=>k _ q _ lead hqH (by unfold qG;rw[ND h];exact hP) s;generalize hpath:rayL wi sq u.ax dy n=path at look fin step
   match path,look,fin,step,hpath with
   | [],look,fin,step,hpath=>
     refine aU (v:=.non) (λQ z=>nT (b:=true) (bb (DU (aa rfl) ar)) (λ_=>ar _ z) (λw=>nomatch w)) ?_;refine bh (b:=false) (λQ z=>(bb (gt (aa rfl) ar)) _ (iB z)) (λw=>nomatch w) λ_=>?_;exact aO (aa rfl) (fin _ (bA.nil.from q1) q2)
   |x::rest,look,fin,step,hpath=>
    have e0:lX wi sq u.ax dy 1=x:=by
     have:(rayL wi sq u.ax dy n)[0]? =some x:=by rw[hpath];rfl
     rw[<-mr ry (Tl _)]at this;split at this
     .exact Option.some.inj this
     .cases this
    have n1:1<=n:=by have:=congrArg List.length hpath;rw[hG]at this;simp at this;lia
    obtain⟨cx,cx1,cx2,cx3,cx4⟩:=look x RK;refine aU (v:=oI rest[0]?) (λQ z=>nT (b:=false) (bb (DV (aa rfl) ar)) (λw=>nomatch w) (λ_=>(aK (x:=oI rest[0]?) (ae (aa rfl) (ae (aa rfl) (ae (aa rfl) (ae (aa rfl) aw)))) (λQ' z'=>?_)) _ z)) ?_
    .have w:=step _ q2 1 n1 Q' (by simpa using z');rw[e0]at w;exact w
    match rest,look,fin with
    | [],look,fin=>
      refine bh (b:=false) (λQ z=>(bb (gt (aa rfl) ar)) _ (iB z)) (λw=>nomatch w) λ_=>?_;exact aO (aa rfl) (fin _ (bA.nil.from q1) q2)
    |y::rest',look,fin=>
     obtain⟨cy,cy1,cy2,cy3,cy4⟩:=look y (by simp);refine bh (b:=true&&(decide (one cy=".")&&decide (bP cx=.int (1 - sd)))) (ic (bb (io (aa rfl) ar)) (λ_=>ic (bb (eC (cT (aa rfl) (aa rfl) (by rw[NR];lia) cy1) ar)) (λ_=>bb (sG (ae (cT (aa rfl) (aa rfl) (by rw[NR];lia) cx1) aw) cx2 (eT ar (aa rfl)))))) (λh2=>?_) (λh2=>?_)
     .rw[Ua,T6]at h2;refine lv (aa rfl) ⟨_,ah⟩ (ig (x:=.int y) (y:=.int x) (aa rfl) (aa rfl) λt ht=>?_);have nt:q≠t:=λz=>by rw[<-z,ah]at ht;cases ht
      refine⟨[],by rw[av nt];exact ah,by show 0<sizeLine;decide,?_⟩;dsimp only;refine aO (v:=.ref q) (aa rfl) (fin _ ?_ ((q2.upd ht).put hqH));show bA H _ q (if sdV row x=.int (1 - sd)/\sdV row y=.non then [(y,x)]else []);rw[ND ⟨cx3.trans (NE h2.2),cy4.mp (NE h2.1)⟩];exact bA.add (l:=[]) (ps:=[]) rfl ah (λ_ z=>nomatch z) q2 ht
     .refine aO (aa rfl) (fin _ ?_ q2);show bA H _ q (if sdV row x=.int (1 - sd)/\sdV row y=.non then [(y,x)]else []);rw[NC (λz=>by
       rw[NA (cy4.mpr z.2),NA (cx3.symm.trans z.1)]at h2;cases h2)]
      exact bA.nil.from q1
  .have h:=NF h;have fin:∀H':Hp,bA H H' q (de row sd u.ai (if u.so="leap"then(rayL wi sq u.ax dy n).take 1 else rayL wi sq u.ax dy n))->ak H H'->Q (.ref q) H':=λH' hP s=>k _ q _ lead hqH (by unfold qG;rw[NC h];exact hP) s;have pl:(rayL wi sq u.ax dy n).length=n:=hG;have sqj:∀(j:Nat) x,(rayL wi sq u.ax dy n)[j]? =some x->lX wi sq u.ax dy (j+1)=x/\j+1<=n:=λj x e=>by have hj:=(RO.mp e).1;rw[pl]at hj;rw[<-mr ry (by lia),ND (ry.1 j hj)]at e;exact⟨Option.some.inj e,hj⟩
   generalize hpath:rayL wi sq u.ax dy n=path at look fin step pl sqj;refine⟨λm σ' H'=>∃(j:Nat)(l:List (Int×Int)),m=8 - j/\j<=n/\(u.so="leap"->j=0)/\σ'=[oR g,oT row,oJ sq,oR r,oJ sd,oJ u.ax,oJ dy,some (oI path[j]?),oR q,none]/\bA H H' q l/\l.length<=2*j/\l++de row sd u.ai ((if u.so="leap"then path.take 1 else path).drop j)=de row sd u.ai (if u.so="leap"then path.take 1 else path)/\ak H H',
    ⟨8,0,[],rfl,Tl _,λ_=>rfl,rfl,bA.nil.from q1,Tl _,rfl,q2⟩,?_⟩
   rintro m _ H2 ⟨j,l,rfl,hjn,hlp,rfl,⟨ps,p1,p2,p3⟩,ll,el,s2⟩;cases hx:path[j]? with
   |none=>
    have hj:n<=j:=by rw[List.getElem?_eq_none_iff,pl]at hx;exact hx
    refine(bb (gt (aa rfl) ar)) _ (iB ?_);dsimp only;refine aO (v:=.ref q) (aa rfl) (fin _ ?_ s2);have:(if u.so="leap"then path.take 1 else path).drop j=[]:=by
     rw[Th];split
     .rw[RV];lia
     .lia
    rw[this]at el;rw[<-el];show bA H H2 q (l++[]);rw[RP];exact⟨ps,p1,p2,p3⟩
   |some x=>
    obtain⟨ex,hj1⟩:=sqj j x hx;have hmem:=RT hx;obtain⟨c,c1,c2,c3,c4⟩:=look x hmem;have hdrop:(if u.so="leap"then path.take 1 else path).drop j=x::(if u.so="leap"then path.take 1 else path).drop (j+1):=by
     have hd:path.drop j=x::path.drop (j+1):=by have hj:=(RO.mp hx);rw[SB hj.1,hj.2]
     by_cases lp:u.so="leap"
     .have:=hlp lp;subst this;rw[ND lp];cases path with
      |nil=>simp at hx
      |cons a b=>simp at hx;subst hx;rfl
     .rw[NC lp];exact hd
    rw[hdrop,AH sd2,<-Sl]at el;have al:=Ed row sd u.ai x;refine(bb (io (aa rfl) ar)) _ (iR ⟨_,λ_ _ h=>h,?_⟩);show bp _ _ _ [oR g,oT row,oJ sq,oR r,oJ sd,oJ u.ax,oJ dy,oJ x,oR q,none] H2;refine eW (λσ' H'=>σ'=[oR g,oT row,oJ sq,oR r,oJ sd,oJ u.ax,oJ dy,oJ x,oR q,none]/\bA H H' q (l++nQ row u.ai x)/\ak H H') ?_ (λgo=>?_)
    rotate_left
    .refine bh (b:=decide (one c=".")&& !decide (u.ai="hit")) (ic (bb (eC (cT (aa rfl) (aa rfl) (by rw[NR];lia) c1) ar)) (λ_=>bb (kW (aQ (x:=.str u.ai) (aa rfl) ar (.inr (T1 s2)) rfl) ar))) (λh2=>?_) (λh2=>?_)
     .rw[T6]at h2;refine lv (aa rfl) ⟨_,p2⟩ (ig (x:=.int x) (y:=.int (-1)) (aa rfl) (jw ar) λt ht=>?_);have nt:q≠t:=λz=>by rw[<-z,p2]at ht;cases ht
      have z1:=congrArg List.length p1;rw[Rz,Rz]at z1;refine⟨_,by rw[av nt];exact p2,by rw[Rz,NR];lia,go _ _ ⟨rfl,?_,(s2.upd ht).put hqH⟩⟩;unfold nQ;rw[ND ⟨c4.mp (NE h2.1),by simpa using h2.2⟩];exact bA.add p1 p2 p3 s2 ht
     .refine go _ _ ⟨rfl,?_,s2⟩;unfold nQ;rw[NC (λz=>by rw[NA (c4.mpr z.1),NB z.2]at h2;cases h2),RP];exact⟨ps,p1,p2,p3⟩
    rintro _ H3 ⟨rfl,⟨ps3,p13,p23,p33⟩,s3⟩;refine eW (λσ' H'=>σ'=[oR g,oT row,oJ sq,oR r,oJ sd,oJ u.ax,oJ dy,oJ x,oR q,none]/\bA H H' q (l++nQ row u.ai x++qL row sd u.ai x)/\ak H H') ?_ (λgo=>?_)
    rotate_left
    .refine bh (b:=decide (bP c=.int (1 - sd))&& !decide (u.ai="go")) (ic (bb (sG (ae (cT (aa rfl) (aa rfl) (by rw[NR];lia) c1) aw) c2 (eT ar (aa rfl)))) (λ_=>bb (kW (aQ (x:=.str u.ai) (aa rfl) ar (.inr (T1 s3)) rfl) ar))) (λh2=>?_) (λh2=>?_)
     .rw[T6]at h2;refine lv (aa rfl) ⟨_,p23⟩ (ig (x:=.int x) (y:=.int x) (aa rfl) (aa rfl) λt ht=>?_);have nt:q≠t:=λz=>by rw[<-z,p23]at ht;cases ht
      have z1:=congrArg List.length p13;rw[Rz,Rz,RI]at z1;refine⟨_,by rw[av nt];exact p23,by rw[Rz,NR];lia,go _ _ ⟨rfl,?_,(s3.upd ht).put hqH⟩⟩;unfold qL;rw[ND ⟨c3.trans (NE h2.1),by simpa using h2.2⟩];exact bA.add p13 p23 p33 s3 ht
     .refine go _ _ ⟨rfl,?_,s3⟩;unfold qL;rw[NC (λz=>by rw[NA (c3.symm.trans z.1),NB z.2]at h2;cases h2),RP];exact⟨ps3,p13,p23,p33⟩
    rintro _ H4 ⟨rfl,hP4,s4⟩;rw[<-Sl]at el;refine bh (b:=decide (u.so="leap")|| !decide (one c=".")) (gy (bb (eC (aQ (x:=.str u.so) (aa rfl) ar (.inr (T1 s4)) rfl) ar)) (λ_=>bb (kW (cT (aa rfl) (aa rfl) (by rw[NR];lia) c1) ar))) (λh2=>?_) (λh2=>?_)
    .refine aO (v:=.ref q) (aa rfl) (fin _ ?_ s4);have:(if sdV row x=.non then de row sd u.ai ((if u.so="leap"then path.take 1 else path).drop (j+1))else [])=[]:=by
      by_cases z:sdV row x=.non
      .rw[ND z];rw[NA (c4.mpr z),Ud,Ub]at h2;have lp:=NE h2;have:(if u.so="leap"then path.take 1 else path).drop (j+1)=[]:=by rw[ND lp,Th,RV];lia
       rw[this];rfl
      .rw[NC z]
     rw[this,RP]at el;rw[<-el];exact hP4
    .rw[Uh]at h2;have lp:=NF h2.1;have z:sdV row x=.non:=c4.mp (by simpa using h2.2);rw[ND z]at el;refine ii (v:=oI path[j+1]?) (aK (ae (aa rfl) (ae (aa rfl) (ae (aa rfl) (ae (aa rfl) aw)))) (λQ' z'=>?_)) ?_
     .have w:=step _ s4 (j+1) hj1 Q' z';rw[ex]at w;exact w
     .refine⟨8 - (j+1),by lia,j+1,_,rfl,hj1,λw=>NG w lp,rfl,hP4,?_,el,s4⟩;rw[RI,RI];lia
end
section
variable{P:NP}{w:NT}{K:Frag}{mg:NH}{Ny:NZ}{aS aA aE aW:Addr}
theorem nH{f cB cG:Addr}{fd:NV}(F:bB K "_law_goals" "_law_goals" db f fd)(T:Txt mg aS aA aE aW)(D:vm K cG)(C:CLs P w K mg Ny cB cG):bg P w K mg Ny cV 3 f fd ["_law_game_here","_law_row_here","_law_square"] (l5 K cB cG):=by
 refine F.ok eZ (λvs H Q E h=>?_) (λcdv A Nz s H vs Q E hr h=>?_)
 .obtain⟨g,b,row,kd,sq,sd,wi,hi,hs,ks,ts,es,st,us,rfl,_⟩:=h;rfl
 .obtain⟨g,b,row,kd,sq,sd,wi,hi,hs,ks,ts,es,st,us,rfl,G,B,U,u12,un0,R,rl,s0,s1,hsd,sd2,hkd,few,k⟩:=h;have hu:=bS hr;have r64:=R.len;have w1:=B.w1;obtain⟨x1,x2⟩:=R.toRowS.at s0 (by lia);have ekd:=L6 hkd;obtain⟨rq,fl,hrq⟩:=G.rules D;refine⟨_,(af (aD (i:=3) eZ.nd rfl (Or.inr rfl) (bi pa_nil))
   (af (fJ N8 rfl (qQ K (ck K (cv 0))) (bN (i:=4) eZ.nd rfl (Or.inl rfl)) (am (bf (aT K hu (bR K (cv 4) ag) (jx PySem.F.slot_str_lower PySem.F.type_str_lower ux (bR K (cv 1) (cv 2)))) (am (aD (i:=3) eZ.nd rfl (Or.inr rfl) (au (cv 3) (gB (cC (N:=["_law_pair","_law_found"]) (src:=[none,some 3]) (ao db) ["_law_game_here","_law_row_here","_law_square","_law_found","_law_rule_here"]) (qQ K (aH C._law_by_rule hr (az (cv 0) (az (cv 1) (az (cv 2) (az (cv 4) pa_nil)))))) (λ_ _ _=>(bD (i:=0) ["_law_pair","_law_found"])) (λ_ _ _=>(jT (v5 K hu (cv 0) (cv 1)))) (λ_ _ _=>(cv 0)))))) aJ)))
   (am (aF (kB (Jy K) kY T.sorted (az (cv 3) pa_nil)))))),?_⟩
  show bp _ _ _ [oR g,oT row,oJ sq,none,none] H;refine gH λq0 hq0=>?_;have sm:ak H (upd H q0 (.lst [])):=(ak.refl H).upd hq0;refine cb (λσ' H'=>∃(o:Option V)(q:Addr)(l m:List (Int×Int)),σ'=[oR g,oT row,oJ sq,oR q,o]/\aX wi hi hs row sq sd (ofKind us kd) l/\m.Nodup/\(∀x,x∈m<->x∈l)/\bA H H' q m/\ak H H') (λK' hK=>?_) ?_
  .refine hZ (λv H'=>v=.ref rq/\H'=upd H q0 (.lst [])) (λQ z=>(ba (aa rfl) (fl.keepS sm)) _ (z _ _ ⟨rfl,rfl⟩)) ?_;rintro _ _ ⟨rfl,rfl⟩;refine⟨rq,cF us,rfl,aY.of (sm _ _ hrq),λi σ' H'=>∃(o:Option V)(q:Addr)(l m:List (Int×Int)),σ'=[oR g,oT row,oJ sq,oR q,o]/\aX wi hi hs row sq sd (ofKind (us.take i) kd) l/\m.Nodup/\(∀x,x∈m<->x∈l)/\bA H H' q m/\ak H H',⟨_,q0,[],[],rfl,.nil,Sx,λ_=>Iff.rfl,bA.nil,sm⟩,?_,?_,?_⟩
   .rintro i σ' H' _ ⟨_,_,_,_,_,_,_,_,_,s2⟩;exact aY.of (s2 _ _ hrq)
   .rintro i x _ H2 hx ⟨o,q,l,m,rfl,hl,nd,mem,⟨ps,p1,p2,p3⟩,s2⟩;have hi':i<us.length:=by
     have:=(RO.mp hx).1
     rwa[Rz]at this
    obtain rfl:x=.ref us[i].2:=by rw[RE,RC hi']at hx;exact(Option.some.inj hx).symm
    have tk:us.take (i+1)=us.take i++[us[i]]:=by rw[S5 hi']
    have hz:=RU hi';have ll:=hl.len;have ol:(ofKind (us.take i) kd).length<=12:=by refine Tn (Sf _ _) ?_;rw[RV];lia
    have ml:=jW nd λx hx=>(mem x).mp hx;have z1:=congrArg List.length p1;rw[Rz,Rz]at z1;generalize us[i]=zz at tk hz;show lU _ _ _ _ [oR g,oT row,oJ sq,oR q,oR zz.2] H2;refine jE (b:=decide (zz.1.kd=one (PyProof.Rows.lo1 (row.cps.toList.getD sq.toNat 0)))) (bb (eC (aQ (x:=.str zz.1.kd) (aa rfl) ar (.inr (.inl (.inl ((U.same s2) zz hz)))) rfl) (BK (cT (aa rfl) (aa rfl) (by rw[NR];lia) x1) x2))) (λh=>?_) (λh=>?_)
    .have h:zz.1.kd=kd:=(NE h).trans ekd.symm;refine kZ (oO ((aa rfl) _ (qz (ae (aa rfl) (ae (aa rfl) (ae (aa rfl) (ae (aa rfl) aw)))) ⟨g,b,zz.2,row,sq,sd,wi,hi,hs,zz.1,ks,cF us,ts,es,st,rfl,G.same s2,B.same s2,.inl (.inl ((U.same s2) zz hz)),R,rl,s0,s1,hsd,sd2,un0 zz hz,λl2 t H3 lr ht hP s3=>?_⟩)));obtain⟨ps2,g1,g2,g3⟩:=hP;have lr8:=lr.len;have z2:=congrArg List.length g1;rw[Rz,Rz]at z2;have p23:=s3 _ _ p2;have pp:∀p∈ps,H3 p.2=some (.tup (p.1.map V.int)):=λp hp=>s3 _ _ (p3 p hp).2;have gg:∀p∈ps2,H3 p.2=some (.tup (p.1.map V.int)):=λp hp=>(g3 p hp).2;refine⟨t,rfl,⟨_,aY.of g2⟩,j7 (xs:=ps2.map λz=>V.ref z.2) (rest:=[oR q]) (by rw[Rz,NR];lia) rfl (Du ps2 (ps.map (·.1))) (λv=>v) (λi hi=>⟨_,(ps2.map λz=>V.ref z.2)[i],aY.of g2,RC hi⟩) ⟨_,aY.of g2,Tj _⟩ (λi v H' _ y=>⟨y.1,y.2 _ (aY.of g2)⟩) (λx hx=>?_) (λx hx _=>aa rfl) (λd hd=>?_)⟩
     .obtain⟨z,hz2,rfl⟩:=RA.mp hx;rw[vX gg hz2];exact JJ (aa rfl) (aa rfl) (gg z hz2) (aY.of p23) pp
     .rw[rR gg,List.map_id'' (λ_=>rfl)];have fl2:=Sf (λz:List Int×Addr=> !decide (z.1∈ps.map (·.1))) ps2;have nq:q≠d:=aC p23 hd;refine⟨q,d,_,_,rfl,rfl,by rw[av nq];exact p23,ah,by rw[Rz,Rz,NR];lia,λp hp=>?_⟩;have sF:ak H3 (upd (upd H3 d (.lst ((ps2.filter λz=> !decide (z.1∈ps.map (·.1))).map λz=>V.ref z.2))) p (.lst ((ps.map λz=>V.ref z.2)++(ps2.filter λz=> !decide (z.1∈ps.map (·.1))).map λz=>V.ref z.2))):=((ak.refl H3).upd hd).upd hp;refine⟨_,p,l++l2,m++(l2.filter λx=> !decide (x∈m)),rfl,?_,Dw nd (lr.nd w1 (un0 zz hz)),Bb mem,⟨ps++ps2.filter λz=> !decide (z.1∈ps.map (·.1)),?_,?_,λy hy=>?_⟩,(s2.trans s3).trans sF⟩
      .rw[tk,mG,ND h];exact aX.add lr hl
      .rw[RQ,RQ,sy p1 g1,p1]
      .rw[ah,RQ]
      .rcases RM.mp hy with w|w
       .exact⟨(p3 y w).1,sF _ _ (pp y w)⟩
       .have w:=(R0.mp w).1;exact⟨s2.free (g3 y w).1,sF _ _ (gg y w)⟩
    .have h:¬zz.1.kd=kd:=λe=>NF h (e.trans ekd);refine⟨_,q,l,m,rfl,?_,nd,mem,⟨ps,p1,p2,p3⟩,s2⟩;rw[tk,mG,NC h,RP];exact hl
   .rintro σ' H' ⟨o,q,l,m,e,hl,r⟩;rw[Rz,SE]at hl;exact hK _ _ ⟨o,q,l,m,e,hl,r⟩
  .rintro _ H1 ⟨o,q,l,m,rfl,hl,nd,mem,⟨ps,p1,p2,p3⟩,s2⟩;have m64:=few l hl m nd λx hx=>(mem x).mp hx;have z1:=congrArg List.length p1;rw[Rz,Rz]at z1;have ne:∀p∈ps,p.1≠[]:=λp hp=>by
    have:p.1∈m.map pk:=by rw[<-p1];exact RA.mpr ⟨p,hp,rfl⟩
    obtain⟨x,_,e⟩:=RA.mp this;rw[<-e];exact λz=>nomatch z
   refine C4 (aa rfl) (aY.of p2) (λp hp=>⟨ne p hp,(p3 p hp).2⟩) ?_ (by lia) λps' q' pm pw hq'=>?_
   .rw[p1,R4,RX];exact(R4.mp nd).imp λz e=>z (pT e)
   .obtain⟨l',e,hm⟩:=CW (l:=m) (L:=ps'.map (·.1)) λk hk=>by rw[<-p1];exact(pm.map _).mem_iff.mp hk
    have sF:ak H1 (upd H1 q' (.lst (ps'.map λz=>V.ref z.2))):=(ak.refl H1).upd hq';exact k l l' q' _ hl (m7.of mem p1 pm pw e) (s2.free hq') ⟨ps',e,ah,λp hp=>⟨(p3 p (pm.mem_iff.mp hp)).1,sF _ _ (p3 p (pm.mem_iff.mp hp)).2⟩⟩ (s2.trans sF)
end
section
variable{P:NP}{w:NT}{K:Frag}{mg:NH}{Ny:NZ}{aS aA aE aW:Addr}
theorem nA{f:Addr}{fd:NV}(F:bB K "_law_whole" "_law_whole" dS f fd)(T:Txt mg aS aA aE aW):bg P w K mg Ny cV 1 f fd ["_law_thing"] qX:=by
 refine F.ok nv (λvs H Q E h=>?_) (λcdv A Nz s H vs Q E hr h=>?_)
 .obtain⟨v,rfl,_⟩:=h;rfl
 .obtain⟨v,rfl,q⟩:=h;refine⟨_,(am (aF (eH (Bj .int T.isinstance T.int qI (cv 0)) (dZ (B6 (Bj .bool T.isinstance T.bool wz (cv 0))))))),?_⟩;show cM _ _ [oJ v] H;exact aO (cJ (BL (aa rfl)) (λ_=>BJ (BL (aa rfl)))) q
theorem ny{f:Addr}{fd:NV}(F:bB K "squares_of" "squares_of" cX f fd)(T:Txt mg aS aA aE aW)(C:CP1 P w K mg Ny):bg P w K mg Ny cV 2 f fd ["row","side"] nX:=by
 refine F.ok nc (λvs H Q E h=>?_) (λcdv A Nz s H vs Q E hr h=>?_)
 .obtain⟨row,sd,rfl,_⟩:=h;rfl
 .obtain⟨row,sd,rfl,hz,ha,q⟩:=h;have hu:=bS hr;refine⟨_,(am (aF (gB (cC (N:=["square","sign","side"]) (src:=[none,none,some 1]) (ao cX) ["row","side"]) (Bk K T.enumerate (cv 0)) (λ_ _ _=>(L5 K (n:=2) (cH (bD (i:=0) ["square","sign","side"]) (cH (bD (i:=1) ["square","sign","side"]) jU)))) (λ_ _ _=>(jT (aT K hu (aH C.side_of hr (az (cv 1) pa_nil)) (cv 2)))) (λ_ _ _=>(cv 0))))),?_⟩;show tComp _ _ _ _ _ [oT row,oJ sd] H Q;refine B0 (z:=row) (rest:=[oJ sd]) (aa rfl) (by lia) rfl (λi c=>decide (bP c=.int sd)) (λi c=>.int (i:Int)) (λi c H' hc s R r=>?_) (λi c H' hc hp s=>aa rfl) (λH' d s hd=>?_)
  .refine BP (ae (aa rfl) aw) ⟨c,rfl,ha c (RT hc),λH2 s2=>uM (v:=.int sd) (aa rfl) ?_⟩;rw[pC];exact r H2 s2
  .have e:DZ row.cps.toList (λi c=>decide (bP c=.int sd)) (λi c=>.int (i:Int)) row.length=(sqsOf row sd).map V.int:=by unfold DZ sqsOf;rw[RN];rfl
   rw[e];exact q d _ (s.free hd) ah (s.upd hd)
theorem A3{f cB cG:Addr}{fd:NV}(F:bB K "moves" "moves" iZ f fd)(T:Txt mg aS aA aE aW)(C:CMv P w K mg Ny cB cG):bg P w K mg Ny cV 6 f fd ["game","place"] (jF K cB cG):=by
 refine F.ok jL (λvs H Q E h=>?_) (λcdv A Nz s H vs Q E hr h=>?_)
 .obtain⟨g,b,kq,p,row,sd,wi,hi,hs,ks,us,ts,es,st,rfl,_⟩:=h;rfl
 .obtain⟨g,b,kq,p,row,sd,wi,hi,hs,ks,us,ts,es,st,rfl,G,hp,R,rl,k⟩:=h;have hu:=bS hr;have r64:=R.len;refine⟨_,(af (aD (i:=2) jL.nd rfl (Or.inl rfl) (bR K (cv 1) ag))
   (af (aD (i:=3) jL.nd rfl (Or.inl rfl) (bi pa_nil))
   (af (fJ N8 rfl (qQ K (aH C.squares_of hr (az (cv 2) (az (bR K (cv 1) ag) pa_nil)))) (bN (i:=4) jL.nd rfl (Or.inr rfl)) (am (dt (B7 (cv 3) (gB (cC (N:=["pair","start"]) (src:=[none,some 4]) (ao iZ) ["game","place","row","found","start"]) (qQ K (aH C.goals hr (az (cv 0) (az (cv 2) (az (cv 4) pa_nil))))) (λ_ _ _=>(bD (i:=0) ["pair","start"])) (λ_ _ _=>bZ) (λ_ _ _=>(ce (az (cv 1) (az (bR K (cv 0) ag) (az (bR K (cv 0) ag) pa_nil))))))))))
   (am (aF (cv 3)))))),?_⟩
  show bp _ _ _ [oR g,oR p,none,none,none] H;refine aU (aQ (x:=.str row) (aa rfl) ar (.inr hp) rfl) ?_;refine gH λq hq=>?_;have sm:ak H (upd H q (.lst [])):=(ak.refl H).upd hq;show bp _ _ _ [oR g,oR p,oT row,oR q,none] _;refine cb (λσ' H'=>(∃o,σ'=[oR g,oR p,oT row,oR q,o])/\(∃m,jB wi hi hs row us sd (sqsOf row sd) m/\m.length<=4096/\oW H H' q m)/\ak H H') (λK' hK=>?_) ?_
  .refine hZ (λv H'=>∃d,v=.ref d/\H' d=some (.lst ((sqsOf row sd).map V.int))/\d≠q/\ak (upd H q (.lst [])) H') (λQ z=>?_) ?_
   .refine eI (ae (aa rfl) (ae (aQ (x:=.int sd) (aa rfl) ar (.inr (sm.tupY hp)) rfl) aw)) ⟨row,sd,rfl,by lia,R.asc,λd H' d1 d2 d3=>z _ _ ⟨d,rfl,d2,λe=>?_,d3⟩⟩;rw[e,ah]at d1;cases d1
   .rintro _ H1 ⟨d,rfl,hd,ndq,s1'⟩;refine⟨d,(sqsOf row sd).map V.int,rfl,aY.of hd,λi σ' H'=>(∃o,σ'=[oR g,oR p,oT row,oR q,o])/\(∃m,jB wi hi hs row us sd ((sqsOf row sd).take i) m/\m.length<=64*i/\oW H H' q m)/\ak H H'/\H' d=some (.lst ((sqsOf row sd).map V.int)),⟨⟨_,rfl⟩,⟨[],.nil,Tl _,[],rfl,s1' _ _ ah,λ_ z=>nomatch z⟩,sm.trans s1',hd⟩,?_,?_,?_⟩
    .rintro i σ' H' _ ⟨_,_,_,h⟩;exact aY.of h
    .rintro i x _ H2 hx ⟨⟨o,rfl⟩,⟨m,hm,ml,ps,p1,p2,p3⟩,s2,hd2⟩;have hi':i<(sqsOf row sd).length:=by
      have:=(RO.mp hx).1
      rwa[Rz]at this
     obtain rfl:x=.int (sqsOf row sd)[i]:=by rw[RE,RC hi']at hx;exact(Option.some.inj hx).symm
     have tk:(sqsOf row sd).take (i+1)=(sqsOf row sd).take i++[(sqsOf row sd)[i]]:=by rw[S5 hi']
     obtain⟨z0,z1,z2⟩:=kA (RU hi');have i64:i<64:=To hi' (Tn nV r64);generalize(sqsOf row sd)[i]=sq at tk z0 z1 z2;show jD _ _ [oR g,oR p,oT row,oR q,oJ sq] H2;refine Hq (aa rfl) p2 (qz (ae (aa rfl) (ae (aa rfl) (ae (aa rfl) aw))) (we (G.same s2) R rl z0 z1 z2 λl' t H3 hg l64 ht hP s3=>?_).1);obtain⟨ps2,g1,g2,g3⟩:=hP;refine⟨t,rfl,⟨_,aY.of g2⟩,vt s3 g1 g2 (λp hp=>(g3 p hp).2) l64 rfl (λa x y H' Q' ha q'=>lS (aa rfl) (aQ (x:=.int x) (aa rfl) ar (.inr (cr.of ha)) rfl) (aQ (x:=.int y) (aa rfl) ar (.inr (cr.of ha)) rfl) q') (λd' H4 ps3 s4 hd' e1 e2=>?_)⟩;have sF:ak H2 (upd H4 d' (.lst (kRefs ps3))):=(s3.trans s4).upd hd';have y1:=congrArg List.length p1;have y2:=congrArg List.length e1;rw[Rz]at y1;rw[Rz,Rz]at y2;refine⟨d',_,_,rfl,sF _ _ p2,ah,by rw[Rz,Rz,NR];lia,⟨_,rfl⟩,⟨_,?_,?_,vx p1 (λxs w=>by rw[sF _ _ p2]at w;cases w) (λp hp=>⟨(p3 p hp).1,sF _ _ (p3 p hp).2⟩) s2 e1 (λp hp=>⟨(e2 p hp).1,?_⟩)⟩,(s2.trans sF).put hq,?_⟩
     .rw[tk];exact jB.add hg hm
     .rw[RI,Rz];lia
     .rw[av (aC (e2 p hp).2 hd')];exact(e2 p hp).2
     .rw[av ndq];exact sF _ _ hd2
    .rintro σ' H' ⟨o,⟨m,hm,ml,hT⟩,s2,_⟩;rw[Rz,SE]at hm;rw[Rz]at ml;have:=nV (row:=row) (sd:=sd);exact hK _ _ ⟨o,⟨m,hm,by lia,hT⟩,s2⟩
  .rintro _ H1 ⟨⟨o,rfl⟩,⟨m,hm,ml,hT⟩,s2⟩;exact aO (aa rfl) (k m q H1 hm ml hq hT s2)
theorem nE{f cB cG:Addr}{fd:NV}(F:bB K "_law_moves" "_law_moves" cZ f fd)(T:Txt mg aS aA aE aW)(C:CLm P w K mg Ny cB cG):bg P w K mg Ny cV 4 f fd ["_law_game_here","_law_place"] (jF K cB cG):=by
 refine F.ok eY (λvs H Q E h=>?_) (λcdv A Nz s H vs Q E hr h=>?_)
 .obtain⟨g,b,kq,p,row,sd,wi,hi,hs,ks,us,ts,es,st,rfl,_⟩:=h;rfl
 .obtain⟨g,b,kq,p,row,sd,wi,hi,hs,ks,us,ts,es,st,rfl,G,hp,R,rl,k⟩:=h;have hu:=bS hr;have r64:=R.len;refine⟨_,(af (aD (i:=2) eY.nd rfl (Or.inl rfl) (bi pa_nil))
   (af (fJ N8 rfl (Cu T.range (az (kB (klen K) bT T.len (az (bR K (cv 1) ag) pa_nil)) pa_nil)) (bN (i:=3) eY.nd rfl (Or.inr rfl)) (am (bf (aT K hu (aH C._law_side hr (az (bR K (bR K (cv 1) ag) (cv 3)) pa_nil)) (bR K (cv 1) ag)) (am (aD (i:=2) eY.nd rfl (Or.inl rfl) (au (cv 2) (gB (cC (N:=["_law_pair","_law_start"]) (src:=[none,some 3]) (ao cZ) ["_law_game_here","_law_place","_law_found","_law_start"]) (qQ K (aH C._law_goals hr (az (cv 0) (az (bR K (cv 1) ag) (az (cv 3) pa_nil))))) (λ_ _ _=>(bD (i:=0) ["_law_pair","_law_start"])) (λ_ _ _=>bZ) (λ_ _ _=>(ce (az (cv 1) (az (bR K (cv 0) ag) (az (bR K (cv 0) ag) pa_nil))))))))) aJ)))
   (am (aF (cv 2))))),?_⟩
  show bp _ _ _ [oR g,oR p,none,none] H;refine gH λq0 hq0=>?_;have sm:ak H (upd H q0 (.lst [])):=(ak.refl H).upd hq0;show bp _ _ _ [oR g,oR p,oR q0,none] _;have row0:∀{σ:St}{H':Hp}{te:TE},ak H H'->Ev te σ H' (.ref p)->Ev (Cd K te (tC (.int 0))) σ H' (.str row):=λs e=>aQ (x:=.str row) e ar (.inr (s.tupY hp)) rfl;refine cb (λσ' H'=>∃o q m,σ'=[oR g,oR p,oR q,o]/\jB wi hi hs row us sd (sqsOf row sd) m/\m.length<=4096/\H q=none/\oW H H' q m/\ak H H') (λK' hK=>?_) ?_
  .refine BF (row.length:Int) (ae (qw (row0 sm (aa rfl)) (by rw[NR];lia)) aw) (by lia) (by lia) (λi σ' H'=>∃o q m,σ'=[oR g,oR p,oR q,o]/\jB wi hi hs row us sd (vA row sd i) m/\m.length<=64*i/\H q=none/\oW H H' q m/\ak H H') ⟨_,q0,[],rfl,.nil,Tl _,hq0,⟨[],rfl,ah,λ_ z=>nomatch z⟩,sm⟩ ?_ ?_
   .rintro i _ H2 hi' ⟨o,q,m,rfl,hm,ml,hq,⟨ps,p1,p2,p3⟩,s2⟩;have z1:(0+(i:Int))<row.length:=by lia
    have z0:0<=(0+(i:Int)):=by lia
    obtain⟨x1,x2⟩:=R.toRowS.at z0 z1;have xs:Sg (row.cps.toList.getD (0+(i:Int)).toNat 0):=by obtain⟨j,_,e,_⟩:=jd x1;exact R.sg _ (RT e)
    have ei:(0+(i:Int))=(i:Int):=TU _;have su:=tM (row:=row) (sd:=sd) (n:=i);rw[<-ei]at su;have i64:i<64:=by lia
    generalize(0+(i:Int))=sq at z1 z0 x1 x2 xs su;show lU _ _ _ _ [oR g,oR p,oR q,oJ sq] H2;refine jE (bb (xJ (ae (cT (row0 s2 (aa rfl)) (aa rfl) (by rw[NR];lia) x1) aw) xs (aQ (x:=.int sd) (aa rfl) ar (.inr (s2.tupY hp)) rfl))) (λh=>?_) (λh=>?_)
    .have hsd:sdV row sq=.int sd:=NE h;rw[ND hsd]at su;refine kZ (oO ((aa rfl) _ (qz (ae (aa rfl) (ae (row0 s2 (aa rfl)) (ae (aa rfl) aw))) (we (G.same s2) R rl z0 z1 hsd λl' t H3 hg l64 ht hP s3=>?_).2)));obtain⟨ps2,g1,g2,g3⟩:=hP;refine⟨t,rfl,⟨_,aY.of g2⟩,vt s3 g1 g2 (λp hp=>(g3 p hp).2) l64 rfl (λa x y H' Q' ha q'=>lS (aa rfl) (aQ (x:=.int x) (aa rfl) ar (.inr (cr.of ha)) rfl) (aQ (x:=.int y) (aa rfl) ar (.inr (cr.of ha)) rfl) q') (λd' H4 ps3 s4 hd' e1 e2=>?_)⟩;have sF:ak H2 (upd H4 d' (.lst (kRefs ps3))):=(s3.trans s4).upd hd';have y1:=congrArg List.length p1;have y2:=congrArg List.length e1;rw[Rz]at y1;rw[Rz,Rz]at y2;refine⟨q,d',_,_,rfl,rfl,sF _ _ p2,ah,by rw[Rz,Rz,NR];lia,λr hr'=>?_⟩;refine⟨_,r,m++l'.map (tk3 sq),rfl,?_,?_,(s2.trans sF).free hr',vx p1 (λxs w=>by rw[hr']at w;cases w) (λp hp=>⟨(p3 p hp).1,sF _ _ (p3 p hp).2⟩) s2 e1 (λp hp=>⟨(e2 p hp).1,?_⟩),(s2.trans sF).upd hr'⟩
     .rw[su];exact jB.add hg hm
     .rw[RI,Rz];lia
     .rw[av (aC (e2 p hp).2 hd')];exact(e2 p hp).2
    .have hsd:¬sdV row sq=.int sd:=NF h;rw[NC hsd,RP]at su;refine⟨_,q,m,rfl,?_,by lia,hq,⟨ps,p1,p2,p3⟩,s2⟩;rw[su];exact hm
   .rintro σ' H' ⟨o,q,m,e,hm,ml,r⟩;rw[show((row.length:Int)).toNat=row.length by lia]at hm ml;exact hK _ _ ⟨o,q,m,e,hm,by lia,r⟩
  .rintro _ H1 ⟨o,q,m,rfl,hm,ml,hq,hT,s2⟩;exact aO (aa rfl) (k m q H1 hm ml hq hT s2)
end
section
variable{P:NP}{w:NT}{K:Frag}{mg:NH}{Ny:NZ}{aS aA aE aW:Addr}
theorem uh{f:Addr}{fd:NV}(F:bB K "sign_of" "sign_of" gT f fd)(T:Txt mg aS aA aE aW):bg P w K mg Ny cV 1 f fd ["kind","side"] AA:=by
 refine F.ok tU (λvs H Q E h=>?_) (λcdv A Nz s H vs Q E hr h=>?_)
 .obtain⟨c,sd,rfl,_⟩:=h;rfl
 .obtain⟨c,sd,rfl,hc,q⟩:=h;have hu:=bS hr;refine⟨_,(am (aF (dn (aT K hu (cv 1) ag) (jx PySem.F.slot_str_upper PySem.F.type_str_upper uw (cv 0)) (cv 0)))),?_⟩;show cM _ _ [oT (one c),oJ sd] H;refine aO (sI (bb (gC (aa rfl) ar)) (λ_=>BI (aa rfl) hc) (λ_=>aa rfl)) ?_
  by_cases h:sd=0
  .rw[NA h];rw[ND h]at q;exact q
  .rw[NB h];rw[NC h]at q;exact q
theorem kO{f cB:Addr}{fd:NV}(F:bB K "far_row" "Board.far_row" cE f fd)(T:Txt mg aS aA aE aW)(B:kj K cB):bg P w K mg Ny cV 1 f fd ["self","side"] (GK K cB):=by
 refine F.ok kI (λvs H Q E h=>?_) (λcdv A Nz s H vs Q E hr h=>?_)
 .obtain⟨p,wi,hi,hs,sd,rfl,_⟩:=h;rfl
 .obtain⟨p,wi,hi,hs,sd,rfl,O,q⟩:=h;have hu:=bS hr;refine⟨_,(am (aF (dn (aT K hu (cv 1) ag) (au (ck K (cv 0)) ag) ag))),?_⟩;show cM _ _ [oR p,oJ sd] H;refine aO (sI (bb (gC (aa rfl) ar)) (λ_=>eT (ba (aa rfl) (O.high B)) ar) (λ_=>ar)) ?_;unfold farI at q
  by_cases h:sd=0
  .rw[NA h];rw[ND h]at q;exact q
  .rw[NB h];rw[NC h]at q;exact q
theorem Jq{f:Addr}{fd:NV}(F:bB K "put" "put" rD f fd)(T:Txt mg aS aA aE aW):bg P w K mg Ny cV 1 f fd ["row","square","sign"] GI:=by
 refine F.ok IS (λvs H Q E h=>?_) (λcdv A Nz s H vs Q E hr h=>?_)
 .obtain⟨row,sq,c,rfl,_⟩:=h;rfl
 .obtain⟨row,sq,c,rfl,s0,hz,q⟩:=h;have hu:=bS hr;have z1:row.length<=sizeLine:=Tn hz (by decide);have l1:=mU row none (some sq);have l2:=mU row (some (sq+1)) none;have l3:(j5 row none (some sq)++one c).length=(j5 row none (some sq)).length+1:=by rw[dN,pd,RI,<-dN];rfl
  refine⟨_,(am (aF (au (au (Bi K (cv 0) du (cK (cv 1))) (cv 2)) (Bi K (cv 0) (cK (au (cv 1) ag)) du)))),?_⟩;show cM _ _ [oT row,oJ sq,oT (one c)] H;refine aO (wl (wl (Hr (aa rfl) jj (iz (aa rfl)) z1) (aa rfl) ?_) (Hr (aa rfl) (iz (bK (aa rfl) ar)) jj z1) ?_) q
  .show _+1<=sizeLine;rw[NR];lia
  .rw[l3,NR];lia
theorem mD{f cG:Addr}{fd:NV}(F:bB K "turned" "Game.turned" dj f fd)(T:Txt mg aS aA aE aW)(D:vm K cG):bg P w K mg Ny cV 1 f fd ["self","kind"] (qZ cG):=by
 refine F.ok mj (λvs H Q E h=>?_) (λcdv A Nz s H vs Q E hr h=>?_)
 .obtain⟨g,b,kd,ks,rs,es,ts,st,rfl,_⟩:=h;rfl
 .obtain⟨g,b,kd,ks,rs,es,ts,st,rfl,G,hp,h6,k⟩:=h;have hu:=bS hr;obtain⟨qt,ft,ht⟩:=G.turns D;refine⟨_,(am (aF (Hh K (xA (Bl K hr) wy T.dict (az (ck K (cv 0)) pa_nil)) (az (cv 1) (az (cv 1) pa_nil))))),?_⟩;show cM _ _ [oR g,oT kd] H;exact gM (BW (ba (aa rfl) ft) (aY.of ht) hp (by lia) (λH' s=>ae (aa rfl) (ae (aa rfl) aw)) k)
theorem ut{f cB cG:Addr}{fd:NV}(F:bB K "arrived" "arrived" g9 f fd)(T:Txt mg aS aA aE aW)(B:kj K cB)(D:vm K cG)(C:CD1 P w K mg Ny cB cG):bg P w K mg Ny cV 2 f fd ["game","sign","side","goal"] (GM K cB cG):=by
 refine F.ok t6 (λvs H Q E h=>?_) (λcdv A Nz s H vs Q E hr h=>?_)
 .obtain⟨g,b,kq,c,sd,gl,wi,hi,hs,ks,us,ts,es,st,rfl,_⟩:=h;rfl
 .obtain⟨g,b,kq,c,sd,gl,wi,hi,hs,ks,us,ts,es,st,rfl,G,hc,k⟩:=h;have hu:=bS hr;have w1:=G.bd.w1;have w8:=G.bd.w8;obtain⟨lk,c128,cn⟩:=oA G.ltr hc;refine⟨_,(af (bf (aT K hu (aH C.row_of hr (az (ck K (ck K (cv 0))) (az (cv 3) pa_nil))) (sx C.Board_far_row hr (ck K (cv 0)) (az (cv 2) pa_nil))) (am (aF (cv 1))) aJ)
   (am (aF (aH C.sign_of hr (az (sx C.Game_turned hr (cv 0) (az (aH C.kind_of hr (az (cv 1) pa_nil)) pa_nil)) (az (cv 2) pa_nil)))))),?_⟩
  show bp _ _ _ [oR g,oT (one c),oJ sd,oJ gl] H;have fb:=G.gm.board D;unfold nP at k;refine bh (bb (mQ (aK (x:=.int (gl / wi)) (ae (ba (ba (aa rfl) fb) (G.bd.wide B)) (ae (aa rfl) aw)) (λQ q=>⟨wi,gl,rfl,by lia,by lia,q⟩)) (qv (x:=.int (farI hi sd)) (ba (aa rfl) fb) G.bd.no (ae (aa rfl) aw) (λQ q=>⟨b,wi,hi,hs,sd,rfl,G.bd,q⟩)))) (λh=>?_) (λh=>?_)
  .have h:¬gl / wi=farI hi sd:=NF (by rw[<-T9];exact h);rw[NC h]at k;exact aO (aa rfl) (k _ (ak.refl H))
  .have h:gl / wi=farI hi sd:=NE (by rw[Uj]at h;exact h);rw[ND h]at k;obtain⟨c',hc',et⟩:=oZ G.tg lk;rw[et]at k;have ek:jm c=.str (one (PyProof.Rows.lo1 c)):=by unfold jm;rw[NC cn]
   refine gM (Ca (gE (Dz (aa rfl) G.gm.no (gE (eI (ae (aa rfl) aw) ⟨c,rfl,c128,λH1 s1=>?_⟩)))));rw[ek];refine jk ⟨g,b,one (PyProof.Rows.lo1 c),ks.map strV,cF us,bQ es,ts,st,rfl,(G.same s1).gm,(G.same s1).tt,G.tg.len,λH2 s2=>?_⟩;rw[et];exact fL (aa rfl) (jk ⟨c',sd,rfl,G.ltr c' hc',k _ (s1.trans s2)⟩)
theorem xn{f cB cG:Addr}{fd:NV}(F:bB K "behind" "behind" iM f fd)(T:Txt mg aS aA aE aW)(C:CD2 P w K mg Ny cB cG):bg P w K mg Ny cV 3 f fd ["game","place","move"] (jI K cB cG):=by
 refine F.ok dA (λvs H Q E h=>?_) (λcdv A Nz s H vs Q E hr h=>?_)
 .obtain⟨g,b,kq,p,mv,row,sd,s,gl,t,wi,hi,hs,ks,us,ts,es,st,rfl,_⟩:=h;rfl
 .obtain⟨g,b,kq,p,mv,row,sd,s,gl,t,wi,hi,hs,ks,us,ts,es,st,rfl,G,hp,hm,R,s0,s1,hsd,g0,g1,ht,k⟩:=h;have hu:=bS hr;have mm:=G.bd.many;have rl:=R.len;have RG:=R.g G.ltr mm.2;have r64:=RG.len;obtain⟨x1,x2⟩:=RG.toRowS.at s0 s1;have cc:row.cps.toList.getD s.toNat 0∈ks\/row.cps.toList.getD s.toNat 0∈ks.map (· - 32):=by
   have hlt:s.toNat<row.cps.toList.length:=by have:row.length=row.cps.toList.length:=rfl;lia
   have e:row.cps.toList[s.toNat]? =some (row.cps.toList.getD s.toNat 0):=by rw[RH,RC hlt];rfl
   have n:=R.at_ _ _ e;have hsd:bP (row.cps.toList.getD s.toNat 0)=.int sd:=hsd
   rcases iq n with⟨_,h⟩|⟨_,h|h⟩
   .rw[h]at hsd;cases hsd
   .rw[h]at hsd;cases hsd
   .exact h
  refine⟨_,(af (aD (i:=3) dA.nd rfl (Or.inl rfl) (bR K (cv 1) ag))
   (af (aD (i:=4) dA.nd rfl (Or.inl rfl) (bR K (cv 2) ag))
   (af (aD (i:=5) dA.nd rfl (Or.inl rfl) (bR K (cv 2) ag))
   (af (aD (i:=6) dA.nd rfl (Or.inl rfl) (bR K (cv 2) ag))
   (af (aD (i:=7) dA.nd rfl (Or.inl rfl) (aH C.arrived hr (az (cv 0) (az (bR K (bR K (cv 1) ag) (cv 4)) (az (cv 3) (az (cv 5) pa_nil))))))
   (af (aD (i:=8) dA.nd rfl (Or.inl rfl) (aH C.put hr (az (bR K (cv 1) ag) (az (cv 4) (az (kg T.EMPTY) pa_nil)))))
   (af (bf (aT K hu (cv 6) (kg T.NOTHING)) (am (aD (i:=8) dA.nd rfl (Or.inl rfl) (aH C.put hr (az (cv 8) (az (cv 6) (az (kg T.EMPTY) pa_nil)))))) aJ)
   (am (aF (ce (az (aH C.put hr (az (cv 8) (az (cv 5) (az (cv 7) pa_nil)))) (az (au ag (cv 3)) pa_nil)))))))))))),?_⟩
  show bp _ _ _ [oR g,oR p,oR mv,none,none,none,none,none,none] H;refine aU (aQ (x:=.int sd) (aa rfl) ar (.inr hp) rfl) ?_;refine aU (aQ (x:=.int s) (aa rfl) ar (.inr hm) rfl) ?_;refine aU (aQ (x:=.int gl) (aa rfl) ar (.inr hm) rfl) ?_;refine aU (aQ (x:=.int t) (aa rfl) ar (.inr hm) rfl) ?_;refine bI (λv H'=>v=.str (one (nP ts wi hi (row.cps.toList.getD s.toNat 0) sd gl))/\ak H H') (λQ q=>?_) ?_
  .exact eI (ae (aa rfl) (ae (cT (aQ (x:=.str row) (aa rfl) ar (.inr hp) rfl) (aa rfl) (by rw[NR];lia) x1) (ae (aa rfl) (ae (aa rfl) aw)))) ⟨g,b,kq,_,sd,gl,wi,hi,hs,ks,us,ts,es,st,rfl,G,cc,λH' s=>q _ _ ⟨rfl,s⟩⟩
  rintro _ H1 ⟨rfl,s1'⟩;refine aU (aK (x:=.str (gN row s (one 46))) (ae (aQ (x:=.str row) (aa rfl) ar (.inr (s1'.tupY hp)) rfl) (ae (aa rfl) (ae (qx ar) aw))) (λQ q=>⟨row,s,46,rfl,s0,by lia,q⟩)) ?_;have l1:=jR (c:=46) s0 s1;refine eW (λσ' H'=>H'=H1/\σ'=[oR g,oR p,oR mv,oJ sd,oJ s,oJ gl,oJ t,oT (one (nP ts wi hi (row.cps.toList.getD s.toNat 0) sd gl)),oT (if t= -1 then gN row s (one 46)else gN (gN row s (one 46)) t (one 46))]) ?_ (λgo=>?_)
  rotate_left
  .refine bh (bb (mQ (aa rfl) ar)) (λh=>?_) (λh=>?_)
   .have h:¬t= -1:=NF (by rw[<-T9];exact h);refine ii (aK (x:=.str (gN (gN row s (one 46)) t (one 46))) (ae (aa rfl) (ae (aa rfl) (ae (qx ar) aw))) (λQ q=>⟨_,t,46,rfl,by lia,by rw[l1];lia,q⟩)) ?_;refine go [oR g,oR p,oR mv,oJ sd,oJ s,oJ gl,oJ t,oT (one (nP ts wi hi (row.cps.toList.getD s.toNat 0) sd gl)),oT (gN (gN row s (one 46)) t (one 46))] H1 ⟨rfl,?_⟩;rw[NC h]
   .have h:t= -1:=NE (by rw[Uj]at h;exact h);refine go [oR g,oR p,oR mv,oJ sd,oJ s,oJ gl,oJ t,oT (one (nP ts wi hi (row.cps.toList.getD s.toNat 0) sd gl)),oT (gN row s (one 46))] H1 ⟨rfl,?_⟩;rw[ND h]
  rintro _ _ ⟨rfl,rfl⟩;have l2:(if t= -1 then gN row s (one 46)else gN (gN row s (one 46)) t (one 46)).length=row.length:=by
   split
   .exact l1
   .rw[jR (by lia) (by rw[l1];lia),l1]
  refine gM (ig (aK (x:=.str (vf ts wi hi row sd s gl t)) (ae (aa rfl) (ae (aa rfl) (ae (aa rfl) aw))) (λQ q=>⟨_,gl,_,rfl,g0,by rw[l2];lia,q⟩)) (eT ar (aa rfl)) λq hq=>k q _ (s1'.free hq) ah (s1'.upd hq))
end
section
variable{P:NP}{w:NT}{K:Frag}{mg:NH}{Ny:NZ}{aS aA aE aW:Addr}
theorem mB{f cB cG:Addr}{fd:NV}(F:bB K "_law_behind" "_law_behind" di f fd)(T:Txt mg aS aA aE aW)(B:kj K cB)(D:vm K cG):bg P w K mg Ny cV 1 f fd ["_law_game_here","_law_place","_law_move"] (jI K cB cG):=by
 refine F.ok bY (λvs H Q E h=>?_) (λcdv A Nz s H vs Q E hr h=>?_)
 .obtain⟨g,b,kq,p,mv,row,sd,s,gl,t,wi,hi,hs,ks,us,ts,es,st,rfl,_⟩:=h;rfl
 .obtain⟨g,b,kq,p,mv,row,sd,s,gl,t,wi,hi,hs,ks,us,ts,es,st,rfl,G,hp,hm,R,s0,s1,hsd,g0,g1,ht,k⟩:=h;have hu:=bS hr;have mm:=G.bd.many;have w1:=G.bd.w1;have w8:=G.bd.w8;have rlen:=R.len;have RG:=R.g G.ltr mm.2;have r64:=RG.len;have rl:(row.length:Int)=wi*hi:=by rw[rlen];lia
  obtain⟨x1,x2⟩:=RG.toRowS.at s0 s1;have hsd':bP (row.cps.toList.getD s.toNat 0)=.int sd:=hsd;have sd2:=(n5 hsd').2;have cc:row.cps.toList.getD s.toNat 0∈ks\/row.cps.toList.getD s.toNat 0∈ks.map (· - 32):=by
   have hlt:s.toNat<row.cps.toList.length:=by have:row.length=row.cps.toList.length:=rfl;lia
   have e:row.cps.toList[s.toNat]? =some (row.cps.toList.getD s.toNat 0):=by rw[RH,RC hlt];rfl
   rcases iq (R.at_ _ _ e)with⟨_,h⟩|⟨_,h|h⟩
   .rw[h]at hsd';cases hsd'
   .rw[h]at hsd';cases hsd'
   .exact h
  have bl:=xV (ks:=ks) (ts:=ts) (hs:=hs) (sd:=sd) rl s0 s1 g0 g1 ht;have arr:nP ts wi hi (row.cps.toList.getD s.toNat 0) sd gl=GT (if gl / wi=farI hi sd then chrV (turnV ts (one (PyProof.Rows.lo1 (row.cps.toList.getD s.toNat 0))))else PyProof.Rows.lo1 (row.cps.toList.getD s.toNat 0)) sd:=by
   unfold nP;split
   .rfl
   .exact(IP G.ltr cc hsd').symm
  obtain⟨lk,c128,cn⟩:=oA G.ltr cc;generalize hC:row.cps.toList.getD s.toNat 0=c at x1 x2 hsd' cc bl arr lk c128 cn;refine⟨_,(af (kL (cv 2) (L5 K (n:=3) (cH (bN (i:=3) bY.nd rfl (Or.inl rfl)) (cH (bN (i:=4) bY.nd rfl (Or.inl rfl)) (cH (bN (i:=5) bY.nd rfl (Or.inl rfl)) jU)))))
   (af (aD (i:=6) bY.nd rfl (Or.inl rfl) (jx PySem.F.slot_str_lower PySem.F.type_str_lower ux (bR K (bR K (cv 1) ag) (cv 3))))
   (af (bf (aT K hu (au (cv 4) (ck K (ck K (cv 0)))) (bR K (bi (az (au (ck K (ck K (cv 0))) ag) (az ag pa_nil))) (bR K (cv 1) ag))) (am (aD (i:=6) bY.nd rfl (Or.inl rfl) (Hh K (xA (Bl K hr) wy T.dict (az (ck K (cv 0)) pa_nil)) (az (cv 6) (az (cv 6) pa_nil))))) aJ)
   (af (aD (i:=7) bY.nd rfl (Or.inl rfl) (xA (u9 rfl) ir T.list (az (bR K (cv 1) ag) pa_nil)))
   (af (kL bz (pV (cv 7) (cv 3) jK))
   (af (bf (aT K hu (cv 5) ag) (am (kL bz (pV (cv 7) (cv 5) jK))) aJ)
   (af (kL (bR K (bi (az (jx PySem.F.slot_str_upper PySem.F.type_str_upper uw (cv 6)) (az (cv 6) pa_nil))) (bR K (cv 1) ag)) (pV (cv 7) (cv 4) jK))
   (am (aF (ce (az (ksm PySem.F.slot_str_join PySem.F.type_str_join (Hg K) bz (az (cv 7) pa_nil)) (az (au ag (bR K (cv 1) ag)) pa_nil)))))))))))),?_⟩
  show bp _ _ _ [oR g,oR p,oR mv,none,none,none,none,none] H;have p0:∀{H':Hp}{σ:St}{te:TE},ak H H'->Ev te σ H' (.ref p)->Ev (Cd K te (tC (.int 0))) σ H' (.str row):=λs e=>aQ (x:=.str row) e ar (.inr (s.tupY hp)) rfl;have p1:∀{H':Hp}{σ:St}{te:TE},ak H H'->Ev te σ H' (.ref p)->Ev (Cd K te (tC (.int 1))) σ H' (.int sd):=λs e=>aQ (x:=.int sd) e ar (.inr (s.tupY hp)) rfl;refine cb (λσ' H'=>H=H'/\σ'=[oR g,oR p,oR mv,oJ s,oJ gl,oJ t,none,none]) (λK' hK=>(aa rfl) _ (JN hm (hK _ _ ⟨rfl,rfl⟩))) ?_;rintro _ _ ⟨rfl,rfl⟩;refine aU (BK (cT (p0 (ak.refl H) (aa rfl)) (aa rfl) (by rw[NR];lia) x1) c128) ?_;obtain⟨kc,hkc,ekc⟩:∃kc∈ks,(if gl / wi=farI hi sd then chrV (turnV ts (one (PyProof.Rows.lo1 c)))else PyProof.Rows.lo1 c)=kc:=by
   split
   .obtain⟨c',hc',et⟩:=oZ G.tg lk;exact⟨c',hc',by rw[et];rfl⟩
   .exact⟨_,lk,rfl⟩
  rw[ekc]at arr;refine eW (λσ' H'=>ak H H'/\σ'=[oR g,oR p,oR mv,oJ s,oJ gl,oJ t,oT (one kc),none]) ?_ (λgo=>?_)
  rotate_left
  .show bp _ _ _ [oR g,oR p,oR mv,oJ s,oJ gl,oJ t,oT (one (PyProof.Rows.lo1 c)),none] H;refine dP (λz H'=>z=decide (gl / wi=farI hi sd)/\ak H H') (λR' z=>B5 ((bw (aa rfl) (ba (ba (aa rfl) (G.gm.board D)) (G.bd.wide B)) ⟨by lia,by lia⟩) _ (Bd (vs:=[.int (hi - 1),.int 0]) (i:=sd) (v:=.int (farI hi sd)) (ae (eT (ba (ba (aa rfl) (G.gm.board D)) (G.bd.high B)) ar) (ae ar aw)) (by show 2<=1000;decide) (λH' s'=>p1 s' (aa rfl)) ?_ (λH' s'=>z _ _ ⟨rfl,s'⟩)))) (λH' h=>?_) (λH' h=>?_)
   .unfold farI
    rcases sd2 with rfl|rfl<;>rfl
   .rw[ND (NE h.1.symm)]at ekc;obtain⟨qt,ft,hqt⟩:=(G.same h.2).gm.turns D;refine kZ (BW (ba (aa rfl) ft) (aY.of hqt) (G.same h.2).tt (by have:=G.tg.len;lia) (λH2 s2=>ae (aa rfl) (ae (aa rfl) aw)) (λH2 s2=>?_));obtain⟨c',hc',et⟩:=oZ G.tg lk;rw[et]at ekc ⊢;refine go [oR g,oR p,oR mv,oJ s,oJ gl,oJ t,oT (one c'),none] H2 ⟨h.2.trans s2,?_⟩;have:c'=kc:=ekc;rw[this]
   .rw[NC (NF h.1.symm)]at ekc;refine go [oR g,oR p,oR mv,oJ s,oJ gl,oJ t,oT (one (PyProof.Rows.lo1 c)),none] H' ⟨h.2,?_⟩;rw[ekc]
  rintro _ H1 ⟨sh,rfl⟩;refine bI (λv H'=>∃q,v=.ref q/\H1 q=none/\H' q=some (.lst (row.cps.toList.map strV))/\ak H1 H') (λQ q=>(ae (p0 sh (aa rfl)) aw) _ ⟨by lia,λl hl=>q _ _ ⟨l,rfl,hl,ah,(ak.refl H1).upd hl⟩⟩) ?_;rintro _ H2 ⟨q,rfl,nq,eq,s2⟩;have rll:row.cps.toList.length=row.length:=rfl;refine cb (λσ' H'=>σ'=[oR g,oR p,oR mv,oJ s,oJ gl,oJ t,oT (one kc),oR q]/\H' q=some (.lst ((row.cps.toList.set s.toNat 46).map strV))/\ak H1 H') (λK' hK=>?_) ?_
  .refine vR (l:=q) (i:=s) (P:=λv H'=>v=strV 46/\H2=H') (λQ z=>(qx ar) _ (z _ _ ⟨rfl,rfl⟩)) ?_;rintro _ _ ⟨rfl,rfl⟩;refine⟨aa rfl,aa rfl,_,eq,s0,by rw[Rz,rll];exact s1,hK _ _ ⟨rfl,by rw[ah,me],s2.put nq⟩⟩
  rintro _ H3 ⟨rfl,e3,s3⟩;refine eW (λσ' H'=>σ'=[oR g,oR p,oR mv,oJ s,oJ gl,oJ t,oT (one kc),oR q]/\H' q=some (.lst ((if 0<=t then(row.cps.toList.set s.toNat 46).set t.toNat 46 else row.cps.toList.set s.toNat 46).map strV))/\ak H1 H') ?_ (λgo=>?_)
  rotate_left
  .refine bh (bb (Hs (aa rfl) ar)) (λh=>?_) (λh=>?_)
   .have h:=NE h;refine vR (l:=q) (i:=t) (P:=λv H'=>v=strV 46/\H3=H') (λQ z=>(qx ar) _ (z _ _ ⟨rfl,rfl⟩)) ?_;rintro _ _ ⟨rfl,rfl⟩;refine⟨aa rfl,aa rfl,_,e3,h,by rw[Rz,Sk,rll];lia,?_⟩;refine go _ _ ⟨rfl,?_,s3.put nq⟩;rw[ah,me,ND h]
   .have h:=NF h;refine go _ _ ⟨rfl,?_,s3⟩;rw[NC h];exact e3
  rintro _ H4 ⟨rfl,e4,s4⟩;have l4:(if 0<=t then(row.cps.toList.set s.toNat 46).set t.toNat 46 else row.cps.toList.set s.toNat 46).length=row.length:=by
   split
   .rw[Sk,Sk,rll]
   .rw[Sk,rll]
  have s04:=sh.trans s4;refine cb (λσ' H'=>σ'=[oR g,oR p,oR mv,oJ s,oJ gl,oJ t,oT (one kc),oR q]/\H' q=some (.lst ((vf ts wi hi row sd s gl t).cps.toList.map strV))/\ak H1 H') (λK' hK=>?_) ?_
  .refine vR (l:=q) (i:=gl) (P:=λv H'=>v=strV (GT kc sd)/\ak H4 H') (λQ z=>?_) ?_
   .refine Bd (vs:=[.str (one (kc - 32)),.str (one kc)]) (i:=sd) (v:=strV (GT kc sd)) (ae (BI (aa rfl) (G.ltr kc hkc)) (ae (aa rfl) aw)) (by show 2<=1000;decide) (λH' s'=>p1 (s04.trans s') (aa rfl)) ?_ (λH' s'=>z _ _ ⟨rfl,s'⟩);unfold GT
    rcases sd2 with rfl|rfl<;>rfl
   .rintro _ H5 ⟨rfl,s5⟩;refine⟨aa rfl,aa rfl,_,s5 _ _ e4,g0,by rw[Rz,l4];exact g1,hK _ _ ⟨rfl,?_,(s4.trans s5).put nq⟩⟩;rw[ah,me,bl,arr]
  rintro _ H5 ⟨rfl,e5,s5⟩;have s05:=sh.trans s5;have lB:(vf ts wi hi row sd s gl t).cps.toList.length<=1000:=by rw[bl,Sk,l4];lia
  refine gM (tupY (gE (GO ar ((aa rfl) _ (Bn e5 lB ?_)))));rw[IH rfl];exact eF (eT ar (p1 s05 (aa rfl))) (rS ⟨by show 2<=sizeLine;decide,λr hr'=>k r _ (s05.free hr') ah (s05.upd hr')⟩)
end
section
variable{P:NP}{w:NT}{K:Frag}{mg:NH}{Ny:NZ}{aS aA aE aW:Addr}
structure Nx(P:NP)(w:NT)(K:Frag)(mg:NH)(Ny:NZ)(cB cG:Addr):Prop where
 moves:dg P w K mg Ny "moves" ["game","place"] 6 (jF K cB cG)
 behind:dg P w K mg Ny "behind" ["game","place","move"] 3 (jI K cB cG)
theorem Dr{f cB cG:Addr}{fd:NV}(F:bB K "done" "done" kJ f fd)(T:Txt mg aS aA aE aW)(C:Nx P w K mg Ny cB cG):bg P w K mg Ny cV 7 f fd ["game","place","move"] (AF K cB cG):=by
 refine F.ok vN (λvs H Q E h=>?_) (λcdv A Nz s H vs Q E hr h=>?_)
 .obtain⟨g,b,kq,p,mv,row,sd,wi,hi,hs,ks,us,ts,es,st,x,m,rfl,_⟩:=h;rfl
 .obtain⟨g,b,kq,p,mv,row,sd,wi,hi,hs,ks,us,ts,es,st,x,m,rfl,M,hx,k⟩:=h;have hu:=bS hr;have mm:=M.gs.bd.many;have rlen:=M.rk.len;have rl:(row.length:Int)=wi*hi:=by rw[rlen];lia
  refine⟨_,(af (bf (v5 K hu (cv 2) (aH C.moves hr (az (cv 0) (az (cv 1) pa_nil)))) (am fF) aJ)
   (am (aF (aH C.behind hr (az (cv 0) (az (cv 1) (az (cv 2) pa_nil))))))),?_⟩
  show bp _ _ _ [oR g,oR p,oR mv] H;refine dP (λb H'=>b=false/\ak H H') (λR z=>tI ((show Ev (fM 2) _ _ (.ref mv)from aa rfl) _ (eI (ae (aa rfl) (ae (aa rfl) aw)) ⟨g,b,kq,p,row,sd,wi,hi,hs,ks,us,ts,es,st,rfl,M.gs,M.pl,M.rk.g M.gs.ltr mm.2,rl,λm' q H' h1 h2 h3 h4 h5=>?_⟩))) (λH' w=>nomatch w.1) (λH1 w=>?_)
  .obtain⟨ps,p1,p2,p3⟩:=h4;have e:=M.mvs.uniq h1;subst e;exact⟨x,ps,h5 _ _ M.tv,aY.of p2,λp hp=>(p3 p hp).2,z _ _ ⟨by rw[p1,NA hx];rfl,h5⟩⟩
  obtain⟨s,gl,t,rfl,O⟩:=M.mvs.ok M.gs.bd.w1 (λ_ hy=>kA hy) x hx;have M1:=M.same w.2;refine gM (eI (ae (aa rfl) (ae (aa rfl) (ae (aa rfl) aw))) ⟨g,b,kq,p,mv,row,sd,s,gl,t,wi,hi,hs,ks,us,ts,es,st,rfl,M1.gs,M1.pl,cr.of M1.tv,M.rk,O.s0,O.s1,O.sd,O.g0,by rw[rl];exact O.g1,?_,λq H' h1 h2 h3=>k q H' (w.2.free h1) h2 (w.2.trans h3)⟩)
  rcases O.tk with e|⟨a,b,_⟩
  .exact .inl e
  .exact .inr ⟨a,by rw[rl];exact b⟩
theorem A5{f cB cG cN:Addr}{fd:NV}(F:bB K "done" "done" kJ f fd)(T:Txt mg aS aA aE aW)(m_NoMove:mg "NoMove"=some (.ref cN))(q_NoMove:UP K cN [.type "ValueError",.type "Exception",.type "BaseException",.type "object"] "ValueError.__new__"=true)(C:Nx P w K mg Ny cB cG):bg P w K mg Ny (HB P w) 7 f fd ["game","place","move"] (vK K cB cG cN):=by
 refine F.okX vN (λvs H Q E h=>?_) (λcdv A Nz s H vs Q E hr h=>?_)
 .obtain⟨g,b,kq,p,mv,row,sd,wi,hi,hs,ks,us,ts,es,st,x,m,rfl,_⟩:=h;rfl
 .obtain⟨g,b,kq,p,mv,row,sd,wi,hi,hs,ks,us,ts,es,st,x,m,rfl,M,hx,k⟩:=h;have hu:=bS hr;have mm:=M.gs.bd.many;have rlen:=M.rk.len;have rl:(row.length:Int)=wi*hi:=by rw[rlen];lia
  refine⟨_,(af (bf (v5 K hu (cv 2) (aH C.moves hr (az (cv 0) (az (cv 1) pa_nil)))) (am (AS PySem.F.excBase_ValueError rfl rfl m_NoMove q_NoMove (az bz pa_nil) sj)) aJ) w6),?_⟩;show bp _ _ _ [oR g,oR p,oR mv] H;refine dP (λb H'=>b=true/\ak H H') (λR z=>tI ((show Ev (fM 2) _ _ (.ref mv)from aa rfl) _ (eI (ae (aa rfl) (ae (aa rfl) aw)) ⟨g,b,kq,p,row,sd,wi,hi,hs,ks,us,ts,es,st,rfl,M.gs,M.pl,M.rk.g M.gs.ltr mm.2,rl,λm' q H' h1 h2 h3 h4 h5=>?_⟩))) (λH1 w=>?_) (λH' w=>nomatch w.1)
  .obtain⟨ps,p1,p2,p3⟩:=h4;have e:=M.mvs.uniq h1;subst e;exact⟨x,ps,h5 _ _ M.tv,aY.of p2,λp hp=>(p3 p hp).2,z _ _ ⟨by rw[p1,NB hx];rfl,h5⟩⟩
  .exact⟨by show 1<=sizeLine;decide,k _ w.2⟩
end
section
variable{P:NP}{w:NT}{K:Frag}{mg:NH}{Ny:NZ}{aS aA aE aW:Addr}
theorem nJ{f D:Addr}{fd:NV}{b1 b2 b3 b4 b5 b6 b7 b8 b9:Bool}(F:bB K "_law_alone" "_law_alone" dX f fd)(T:Txt mg aS aA aE aW)(L:AlC mg K D b1 b2 b3 b4 b5 b6 b7 b8 b9):Nw P w K mg Ny 1 f fd ["_law_e"] (vL D):=by
 refine F.okN fc (λvs H Q E h=>?_) (λcdv A Nz s H vs Q hr h=>?_)
 .obtain⟨a,rfl,_⟩:=h;rfl
 .obtain⟨a,rfl,ha,k⟩:=h;have hu:=hr.hu;obtain⟨c1,m_BadBoard,i1⟩:=L.f1;obtain⟨c2,m_BadGame,i2⟩:=L.f2;obtain⟨c3,m_BadLine,i3⟩:=L.f3;obtain⟨c4,m_BadPlace,i4⟩:=L.f4;obtain⟨c5,m_NoMove,i5⟩:=L.f5;obtain⟨c6,m_TooWide,i6⟩:=L.f6;obtain⟨c7,m_NoWord,i7⟩:=L.f7;obtain⟨c8,m_Over,i8⟩:=L.f8;obtain⟨c9,m_NothingBack,i9⟩:=L.f9;refine⟨_,(af (aD (i:=1) fc.nd rfl (Or.inl rfl) (bi (az (kB (cU K) bq T.isinstance (az (cv 0) (az (kg (v:=.ref _) ⟨_,m_BadBoard,rfl⟩) pa_nil))) (az (kB (cU K) bq T.isinstance (az (cv 0) (az (kg (v:=.ref _) ⟨_,m_BadGame,rfl⟩) pa_nil))) (az (kB (cU K) bq T.isinstance (az (cv 0) (az (kg (v:=.ref _) ⟨_,m_BadLine,rfl⟩) pa_nil))) (az (kB (cU K) bq T.isinstance (az (cv 0) (az (kg (v:=.ref _) ⟨_,m_BadPlace,rfl⟩) pa_nil))) pa_nil))))))
   (af (aD (i:=1) fc.nd rfl (Or.inl rfl) (au (cv 1) (bi (az (kB (cU K) bq T.isinstance (az (cv 0) (az (kg (v:=.ref _) ⟨_,m_NoMove,rfl⟩) pa_nil))) (az (kB (cU K) bq T.isinstance (az (cv 0) (az (kg (v:=.ref _) ⟨_,m_TooWide,rfl⟩) pa_nil))) (az (kB (cU K) bq T.isinstance (az (cv 0) (az (kg (v:=.ref _) ⟨_,m_NoWord,rfl⟩) pa_nil))) (az (kB (cU K) bq T.isinstance (az (cv 0) (az (kg (v:=.ref _) ⟨_,m_Over,rfl⟩) pa_nil))) pa_nil)))))))
   (af (aD (i:=1) fc.nd rfl (Or.inl rfl) (au (cv 1) (bi (az (kB (cU K) bq T.isinstance (az (cv 0) (az (kg (v:=.ref _) ⟨_,m_NothingBack,rfl⟩) pa_nil))) pa_nil))))
   (am (aF (eH (jv K hu (J4 (cv 1) gq) ag) (dZ (kB (cU K) bq T.isinstance (az (cv 0) (az (vW (v:=.ty "ValueError") rfl T.ValueError nO rfl) pa_nil)))))))))),?_⟩
  show bp _ _ _ [oR a,none] H;have is:∀{σ:St}{H':Hp}{te:TE}{c:Addr}{b:Bool},ak H H'->Ev te σ H' (.ref a)->UB K (.ref D) (.ref c)=some b->Ev (cB (Nf K) (bx te (bx (tC (.ref c)) df))) σ H' (.bl b):=λs e i=>uO (ae e (ae ar aw)) vQ (s _ _ ha) L.x i;have s0:=ak.refl H;refine bI (λv H'=>∃q,v=.ref q/\H' q=some (.lst [.bl b1,.bl b2,.bl b3,.bl b4])/\ak H H') (λQ z=>lq (fL (is s0 (aa rfl) i1) (fL (is s0 (aa rfl) i2) (fL (is s0 (aa rfl) i3) (fL (is s0 (aa rfl) i4) (jk ⟨by show 4<=sizeLine;decide,λp hp=>z _ _ ⟨p,rfl,ah,s0.upd hp⟩⟩)))))) ?_;rintro _ H1 ⟨q1,rfl,e1,s1⟩;show bp _ _ _ [oR a,oR q1] H1;refine bI (λv H'=>∃q,v=.ref q/\H' q=some (.lst [.bl b1,.bl b2,.bl b3,.bl b4,.bl b5,.bl b6,.bl b7,.bl b8])/\ak H H') (λQ z=>oO ((show Ev (fM 1) _ _ (.ref q1)from aa rfl) _ (lq (fL (is s1 (aa rfl) i5) (fL (is s1 (aa rfl) i6) (fL (is s1 (aa rfl) i7) (fL (is s1 (aa rfl) i8) (jk ⟨by show 4<=sizeLine;decide,λp hp=>?_⟩)))))))) ?_
  .have sa:=(ak.refl H1).upd (o:=.lst [.bl b5,.bl b6,.bl b7,.bl b8]) hp;exact⟨q1,p,_,_,rfl,rfl,sa _ _ e1,ah,by show 8<=sizeLine;decide,λr hr'=>z _ _ ⟨r,rfl,ah,(s1.trans sa).upd hr'⟩⟩
  rintro _ H2 ⟨q2,rfl,e2,s2⟩;show bp _ _ _ [oR a,oR q2] H2;refine bI (λv H'=>∃q,v=.ref q/\H' q=some (.lst [.bl b1,.bl b2,.bl b3,.bl b4,.bl b5,.bl b6,.bl b7,.bl b8,.bl b9])/\ak H H') (λQ z=>oO ((show Ev (fM 1) _ _ (.ref q2)from aa rfl) _ (lq (fL (is s2 (aa rfl) i9) (jk ⟨by show 1<=sizeLine;decide,λp hp=>?_⟩))))) ?_
  .have sa:=(ak.refl H2).upd (o:=.lst [.bl b9]) hp;exact⟨q2,p,_,_,rfl,rfl,sa _ _ e2,ah,by show 9<=sizeLine;decide,λr hr'=>z _ _ ⟨r,rfl,ah,(s2.trans sa).upd hr'⟩⟩
  rintro _ H3 ⟨q3,rfl,e3,s3⟩;show cM _ _ [oR a,oR q3] H3;have cnt:Ev (MB (fM 1) (tC (.bl true))) [some (.ref a),some (.ref q3)] H3 (.int 1):=λQ z=>(show Ev (fM 1) _ _ (.ref q3)from aa rfl) _ ⟨⟨_,e3⟩,⟨_,e3,rfl,rfl,by rw[L.one];exact z⟩⟩;refine aO (v:=.bl true) (cJ (a:=true) (b:=true) (gC (i:=1) (j:=1) cnt ar) (λ_=>uO (ae (aa rfl) (ae ar aw)) IU (s3 _ _ ha) L.x L.v)) (k _ s3)
structure CRf(P:NP)(w:NT)(K:Frag)(mg:NH)(Ny:NZ)(cB cG cN:Addr):Prop where
 done:Eg P w K mg Ny "done" ["game","place","move"] 7 (vK K cB cG cN)
 _law_alone:Ku P w K mg Ny "_law_alone" ["_law_e"] 1 (vL cN)
theorem lA{f cB cG cN cP:Addr}{fd:NV}(F:bB K "_law_refused" "_law_refused" cO f fd)(T:Txt mg aS aA aE aW)(m_PlayError:mg "PlayError"=some (.ref cP))(m_NoMove:mg "NoMove"=some (.ref cN))(x1:UQ K (.ref cN) (.ref cP)=some true)(x2:UB K (.ref cN) (.ref cN)=some true)(x3:PySem.W.ExcC K cN)(C:CRf P w K mg Ny cB cG cN):bg P w K mg Ny cV 8 f fd ["_law_game_here","_law_place","_law_move"] (AC K cB cG):=by
 refine F.ok iw (λvs H Q E h=>?_) (λcdv A Nz s H vs Q E hr h=>?_)
 .obtain⟨g,b,kq,p,mv,row,sd,wi,hi,hs,ks,us,ts,es,st,x,m,rfl,_⟩:=h;rfl
 .obtain⟨g,b,kq,p,mv,row,sd,wi,hi,hs,ks,us,ts,es,st,x,m,rfl,M,hx,k⟩:=h;have hu:=bS hr;refine⟨_,(af (Db (i:=3) C.done hr (λ_ _ z=>z) (az (cv 0) (az (cv 1) (az (cv 2) pa_nil))) m_PlayError iw.nd rfl (λ_=>(am (aF (eH (kB (cU K) bq T.isinstance (az (cv 3) (az (kg (v:=.ref _) ⟨_,m_NoMove,rfl⟩) pa_nil))) (dZ (JE C._law_alone (hr.n _) (az (cv 3) pa_nil))))))))
   (am (aF gq))),?_⟩
  show bp _ _ _ [oR g,oR p,oR mv,none] H;refine Lp (ae (aa rfl) (ae (aa rfl) (ae (aa rfl) aw))) ⟨g,b,kq,p,mv,row,sd,wi,hi,hs,ks,us,ts,es,st,x,m,rfl,M,hx,λH' s=>⟨x1,λa ha=>?_⟩⟩;have ea:(upd H' a (Cv (.ref cN) a)) a=some (Cv (.ref cN) a):=ah;have sa:=s.upd (o:=Cv (.ref cN) a) ha;show cM _ _ [oR g,oR p,oR mv,oR a] _;refine gM (Kk ((uO (ae (aa rfl) (ae ar aw)) vQ ea x3 x2) _ (Kj (eI (ae (aa rfl) aw) ⟨a,rfl,ea,λH2 s2=>k _ (sa.trans s2)⟩))))
end
section
variable{P:NP}{w:NT}{K:Frag}{mg:NH}{Ny:NZ}{aS aA aE aW:Addr}
structure CLn(P:NP)(w:NT)(K:Frag)(mg:NH)(Ny:NZ)(cB cG:Addr):Prop where
 done:dg P w K mg Ny "done" ["game","place","move"] 7 (AF K cB cG)
 _law_whole:dg P w K mg Ny "_law_whole" ["_law_thing"] 1 qX
 _law_behind:dg P w K mg Ny "_law_behind" ["_law_game_here","_law_place","_law_move"] 1 (jI K cB cG)
theorem qk{f cB cG:Addr}{fd:NV}(F:bB K "_law_done" "_law_done" fE f fd)(T:Txt mg aS aA aE aW)(C:CLn P w K mg Ny cB cG):bg P w K mg Ny cV 8 f fd ["_law_game_here","_law_place","_law_move"] (pr K cB cG):=by
 refine F.ok jM (λvs H Q E h=>?_) (λcdv A Nz s H vs Q E hr h=>?_)
 .obtain⟨g,b,kq,p,mv,row,sd,wi,hi,hs,ks,us,ts,es,st,x,m,rfl,_⟩:=h;rfl
 .obtain⟨g,b,kq,p,mv,row,sd,wi,hi,hs,ks,us,ts,es,st,x,m,rfl,M,hx,k⟩:=h;have hu:=bS hr;have mm:=M.gs.bd.many;have rlen:=M.rk.len;have rl:(row.length:Int)=wi*hi:=by rw[rlen];lia
  refine⟨_,(af (aD (i:=3) jM.nd rfl (Or.inl rfl) (aH C.done hr (az (cv 0) (az (cv 1) (az (cv 2) pa_nil)))))
   (af (bf (PW.pt (fP (bJ (bL (Bj .tuple T.isinstance T.tuple sU (cv 3)))) (fP (aT K hu (kB (klen K) bT T.len (az (cv 3) pa_nil)) ag) (fP (bJ (bL (Bj .str T.isinstance T.str vd (bR K (cv 3) ag)))) (eQ (bJ (bL (aH C._law_whole hr (az (bR K (cv 3) ag) pa_nil))))))))) (am (aF gq)) aJ)
   (am (aF (jv K hu (cv 3) (aH C._law_behind hr (az (cv 0) (az (cv 1) (az (cv 2) pa_nil))))))))),?_⟩
  show bp _ _ _ [oR g,oR p,oR mv,none] H;refine bI (λv H'=>∃q,v=.ref q/\H' q=some (.tup [.str (Kg ts wi hi row sd x).1,.int (1 - sd)])/\ak H H') (λQ z=>eI (ae (aa rfl) (ae (aa rfl) (ae (aa rfl) aw))) ⟨g,b,kq,p,mv,row,sd,wi,hi,hs,ks,us,ts,es,st,x,m,rfl,M,hx,λq H' _ h2 h3=>z _ _ ⟨q,rfl,h2,h3⟩⟩) ?_;rintro _ H1 ⟨q,rfl,eq,s1⟩;show bp _ _ _ [oR g,oR p,oR mv,oR q] H1;refine bh (b:=false) (gy (a:=false) (b:=false) (ci (b:=true) (bb (JV (aa rfl) eq))) (λ_=>gy (a:=false) (b:=false) (bb (mQ (i:=2) (j:=2) (cS (aa rfl) (.inr (cr.of eq))) ar)) (λ_=>gy (a:=false) (b:=false) (ci (b:=true) (bb (JT (aQ (x:=.str (Kg ts wi hi row sd x).1) (aa rfl) ar (.inr (cr.of eq)) rfl)))) (λ_=>ci (b:=true) (bb (aK (x:=.bl true) (ae (aQ (x:=.int (1 - sd)) (aa rfl) ar (.inr (cr.of eq)) rfl) aw) (λQ z=>⟨_,rfl,z⟩))))))) (λh=>nomatch h) (λ_=>?_);obtain⟨s,gl,t,rfl,O⟩:=M.mvs.ok M.gs.bd.w1 (λ_ hy=>kA hy) x hx;have M1:=M.same s1;refine gM (B3 ((show Ev (fM 3) _ _ (.ref q)from aa rfl) _ (eI (ae (aa rfl) (ae (aa rfl) (ae (aa rfl) aw))) ⟨g,b,kq,p,mv,row,sd,s,gl,t,wi,hi,hs,ks,us,ts,es,st,rfl,M1.gs,M1.pl,cr.of M1.tv,M.rk,O.s0,O.s1,O.sd,O.g0,by rw[rl];exact O.g1,?_,λq2 H' h1 h2 h3=>⟨true,JX (n:=19) (h3 _ _ eq) h2,k _ (s1.trans h3)⟩⟩)))
  rcases O.tk with e|⟨a,b,_⟩
  .exact .inl e
  .exact .inr ⟨a,by rw[rl];exact b⟩
theorem rP{f:Addr}{fd:NV}(F:bB K "_law_odd" "_law_odd" gc f fd)(T:Txt mg aS aA aE aW):bg P w K mg Ny cV 1 f fd ["_law_found","_law_cell","_law_size"] GJ:=by
 refine F.ok fj (λvs H Q E h=>?_) (λcdv A Nz s H vs Q E hr h=>?_)
 .obtain⟨f0,c,z,ps,rfl,_⟩:=h;rfl
 .obtain⟨f0,c,z,ps,rfl,hf,kp,l3,z0,k⟩:=h;have hu:=bS hr;refine⟨_,(af (aD (i:=3) fj.nd rfl (Or.inl rfl) (ce (az (au (au (cv 1) ag) (cv 2)) (az (au (au (cv 1) ag) (cv 2)) (az (bR K (bi (az (jy ag) (az (au (au (cv 1) ag) (cv 2)) pa_nil))) (au (au (cv 1) ag) ag)) pa_nil)))))
   (af (bf (PW.pt (gk (aT K hu (cv 0) (bi pa_nil)) (fg (aT K hu (au (cv 1) ag) ag)))) (am (aD (i:=3) fj.nd rfl (Or.inl rfl) (bR K (cv 0) (au (au (cv 1) ag) (kB (klen K) bT T.len (az (cv 0) pa_nil)))))) aJ)
   (af (aD (i:=4) fj.nd rfl (Or.inl rfl) (au (au (cv 1) ag) ag))
   (af (aD (i:=5) fj.nd rfl (Or.inl rfl) (bR K (bi (az (au (bR K (cv 3) (cv 4)) ag) (az (au (bR K (cv 3) (cv 4)) ag) (az (au (au (cv 1) ag) (cv 2)) (az (jy ag) (az (cv 2) (az (au ag ag) pa_nil))))))) (au (au (cv 1) ag) ag)))
   (af (bf (aT K hu (au (cv 1) ag) ag) (am (aF (ce (az (bR K (cv 3) ag) (az (bR K (cv 3) ag) (az (bR K (cv 3) ag) pa_nil)))))) aJ)
   (am (aF (Hi (Hi (LZ K (cv 3) du (cK (cv 4))) (ce (az (cv 5) pa_nil))) (LZ K (cv 3) (cK (au (cv 4) ag)) du))))))))),?_⟩
  show bp _ _ _ [oR f0,oJ c,oJ z,none,none,none] H;refine bI (λv H'=>∃(t:Addr)(x y u:Int),v=.ref t/\H' t=some (.tup [.int x,.int y,.int u])/\ak H H') (λQ q=>?_) ?_
  .obtain⟨v,ev,hv⟩:=ms (xs:=[-1,c / 262144 % z].map V.int) (i:=c / 8 % 2) (by lia) (by show _<(2:Int);lia);obtain⟨n,rfl⟩:=uI hv;exact tupY (eF (aR (bw (aa rfl) ar ⟨by decide,by decide⟩) (aa rfl) (z0)) (eF (aR (bw (aa rfl) ar ⟨by decide,by decide⟩) (aa rfl) (z0)) (gE (iQ (vs:=[-1,c / 262144 % z].map V.int) (ae (jw ar) (ae (aR (bw (aa rfl) ar ⟨by decide,by decide⟩) (aa rfl) (z0)) aw)) (by show 2<=1000;decide) (λH'=>(aR (bw (aa rfl) ar ⟨by decide,by decide⟩) ar (by decide))) ev (λH' s=>rS ⟨by show 3<=sizeLine;decide,λp hp=>q _ _ ⟨p,_,_,_,rfl,ah,s.upd hp⟩⟩)))))
  rintro _ H1 ⟨t1,x1,y1,w1,rfl,e1,s1⟩;show bp _ _ _ [oR f0,oJ c,oJ z,oR t1,none,none] H1;refine cb (λσ' H'=>∃(t:Addr)(x y u:Int),σ'=[oR f0,oJ c,oJ z,oR t,none,none]/\H' t=some (.tup [.int x,.int y,.int u])/\ak H H') (λK' hK=>?_) ?_
  .refine tK (λb H'=>(b=true->kRefs ps≠[])/\ak H1 H') (λR z'=>?_) (λH2 w=>?_) (λH2 w=>hK _ _ ⟨t1,x1,y1,w1,rfl,w.2 _ _ e1,s1.trans w.2⟩)
   .refine Aq (B5 ((show Ev (fM 0) _ _ (.ref f0)from aa rfl) _ (lq (jk ⟨Tl _,λr hr'=>?_⟩))));have sb:=(ak.refl H1).upd (o:=.lst []) hr';refine⟨_,wm (n:=19) (sb _ _ (s1 _ _ hf)) ah,?_⟩
    by_cases hp:kRefs ps=[]
    .rw[NA hp];exact Ck (z' _ _ ⟨(λh=>nomatch h),sb⟩)
    .rw[NB hp];exact Cj ((bb (sH (aR (aa rfl) ar (by decide)) ar)) _ (z' _ _ ⟨λ_=>hp,sb⟩))
   .have hne:=w.1 rfl;have s2:=s1.trans w.2;have lpos:(0:Int)<((kRefs ps).length:Int):=by have:0<(kRefs ps).length:=Ti.mpr hne;lia
    obtain⟨v,ev,hv⟩:=ms (xs:=kRefs ps) (i:=c / 64 % ((kRefs ps).length:Int)) (TN _ (by lia)) (TQ _ lpos);obtain⟨p,hp,rfl⟩:=RA.mp hv;have l3:=l3 p hp;have kp:=s2 _ _ (kp p hp);obtain⟨pk,pa⟩:=p
    match pk,l3,kp with
    | [a1,a2,a3],_,kp=>
      exact ii (aQ (x:=.ref pa) (aa rfl) (aR (bw (aa rfl) ar ⟨by decide,by decide⟩) (cS (aa rfl) (.inl (aY.of (s2 _ _ hf)))) lpos) (.inl (aY.of (s2 _ _ hf))) ev) (hK _ _ ⟨pa,a1,a2,a3,rfl,kp,s2⟩)
  rintro _ H2 ⟨t2,x2,y2,w2,rfl,e2,s2⟩;refine aU (aR (bw (aa rfl) ar ⟨by decide,by decide⟩) ar (by decide)) ?_;have a0:0<=c / 8 % 3:=by lia
  have a1:c / 8 % 3<3:=by lia
  generalize c / 8 % 3=ix at a0 a1;show bp _ _ _ [oR f0,oJ c,oJ z,oR t2,oJ ix,none] H2;obtain⟨u,eu,hu'⟩:=ms (xs:=[x2,y2,w2].map V.int) (i:=ix) a0 (by show _<(3:Int);lia);obtain⟨nu,rfl⟩:=uI hu';obtain⟨v,ev,hv⟩:=ms (xs:=[nu+1,nu - 1,c / 4096 % z, -1,z,10 ^ (30:Int).toNat].map V.int) (i:=c % 8 % 6) (by lia) (by show _<(6:Int);lia);obtain⟨nn,rfl⟩:=uI hv;have ixE:Ev (Cd K (fM 3) (fM 4)) [some (.ref f0),some (.int c),some (.int z),some (.ref t2),some (.int ix),none] H2 (.int nu):=aQ (aa rfl) (aa rfl) (.inr (cr.of e2)) eu;refine bI (λv H'=>v=.int nn/\ak H2 H') (λQ q=>iQ (vs:=[nu+1,nu - 1,c / 4096 % z, -1,z,10 ^ (30:Int).toNat].map V.int) (ae (bK ixE ar) (ae (eT ixE ar) (ae (aR (bw (aa rfl) ar ⟨by decide,by decide⟩) (aa rfl) (z0)) (ae (jw ar) (ae (aa rfl) (ae (JR ar ar ⟨by decide,by decide,by decide⟩) aw)))))) (by show 6<=1000;decide) (λH'=>(aR (aR (aa rfl) ar (by decide)) ar (by decide))) ev (λH' s=>q _ _ ⟨rfl,s⟩)) ?_;rintro _ H3 ⟨rfl,s3⟩;have e3:=s3 _ _ e2;have s03:=s2.trans s3;show bp _ _ _ [oR f0,oJ c,oJ z,oR t2,oJ ix,oJ nn] H3;refine bh (bb (gC (aR (aa rfl) ar (by decide)) ar)) (λh=>?_) (λh=>?_)
  .exact gM (lS (aQ (x:=.int y2) (aa rfl) ar (.inr (cr.of e3)) rfl) (aQ (x:=.int x2) (aa rfl) ar (.inr (cr.of e3)) rfl) (aQ (x:=.int w2) (aa rfl) ar (.inr (cr.of e3)) rfl) λp hp=>k p [y2,x2,w2] _ ah (s03.upd hp))
  .obtain⟨l1,el,n1⟩:=J2 [x2,y2,w2] none (some ix);obtain⟨l2,er,n2⟩:=J2 [x2,y2,w2] (some (ix+1)) none;have el:cutV [V.int x2,.int y2,.int w2] none (some ix)=l1.map V.int:=el;have er:cutV [V.int x2,.int y2,.int w2] (some (ix+1)) none=l2.map V.int:=er;have n1:l1.length<=3:=n1;have n2:l2.length<=3:=n2;refine gM (G0 (G0 (GR (aa rfl) jj (iz (aa rfl)) (cr.of e3) ?_ λp1 h1=>?_)))
   .rintro⟨_,h⟩;have h:(if ix<0 then(ix+3).toNat else min ix.toNat 3)=3:=h;rw[NC (by lia)]at h;lia
   rw[el];have sa:=(ak.refl H3).upd (o:=.tup (l1.map V.int)) h1;have ea:(upd H3 p1 (.tup (l1.map V.int))) p1=some (.tup (l1.map V.int)):=ah;generalize upd H3 p1 (.tup (l1.map V.int))=H4 at sa ea ⊢;refine tupY (eF (aa rfl) (rS ⟨by show 1<=sizeLine;decide,λp2 h2=>?_⟩));have sb:=(ak.refl H4).upd (o:=.tup [.int nn]) h2;refine⟨p1,p2,_,_,rfl,rfl,sb _ _ ea,ah,by rw[Rz,NR];show _+1<=_;lia,λp3 H5 s5 e5=>?_⟩;have s35:=(sa.trans sb).trans s5;refine GR (aa rfl) (iz (bK (aa rfl) ar)) jj (cr.of (s35 _ _ e3)) ?_ λp4 h4=>?_
   .rintro⟨h,_⟩;have h:(if ix+1<0 then(ix+1+3).toNat else min (ix+1).toNat 3)=0:=h;rw[NC (by lia)]at h;lia
   rw[er];have sd:=(ak.refl H5).upd (o:=.tup (l2.map V.int)) h4;refine⟨p3,p4,_,_,rfl,rfl,sd _ _ e5,ah,by rw[RI,Rz,Rz,NR];show _+1+_<=_;lia,λp5 H7 s7 e7=>k p5 (l1++[nn]++l2) H7 (by rw[e7];simp) (((s03.trans s35).trans sd).trans s7)⟩
end
def vF(K:Frag):Sp:=λvs H Q _=>∃(a:Addr)(ns:List Int),vs=[.ref a]/\aY K H a (ns.map V.int)/\ns.length<=63/\∀H',Q (.bl true) H'
structure CL(P:NP)(w:NT)(K:Frag)(mg:NH)(Ny:NZ)(cB cG:Addr):Prop extends LG1 P w K mg Ny where
 _law_game:dg P w K mg Ny "_law_game" ["_law_script"] 8 (vH K cB cG)
 _law_row:dg P w K mg Ny "_law_row" ["_law_script","_law_game_here","_law_start"] 2 (AD K cB cG)
 _law_moves:dg P w K mg Ny "_law_moves" ["_law_game_here","_law_place"] 4 (jF K cB cG)
 _law_done:dg P w K mg Ny "_law_done" ["_law_game_here","_law_place","_law_move"] 8 (pr K cB cG)
 _law_odd:dg P w K mg Ny "_law_odd" ["_law_found","_law_cell","_law_size"] 1 GJ
 _law_refused:dg P w K mg Ny "_law_refused" ["_law_game_here","_law_place","_law_move"] 8 (AC K cB cG)
section
variable{P:NP}{w:NT}{K:Frag}{mg:NH}{Ny:NZ}{aS aA aE aW:Addr}
theorem Jr{f cB cG:Addr}{fd:NV}(F:bB K "law" "law" jf f fd)(T:Txt mg aS aA aE aW)(B:kj K cB)(D:vm K cG)(C:CL P w K mg Ny cB cG):bg P w K mg Ny cV 9 f fd ["_law_script"] (vF K):=by
 refine F.ok gJ (λvs H Q E h=>?_) (λcdv A Nz s H vs Q E hr h=>?_)
 .obtain⟨a,ns,rfl,_⟩:=h;rfl
 .obtain⟨a,ns,rfl,hS,hlen,k⟩:=h;have hu:=bS hr;refine⟨_,(af (aD (i:=1) gJ.nd rfl (Or.inl rfl) (aH C._law_game hr (az (cv 0) pa_nil)))
   (af (aD (i:=2) gJ.nd rfl (Or.inl rfl) (ce (az (aH C._law_row hr (az (cv 0) (az (cv 1) (az ag pa_nil)))) (az (au (aH C._law_cell_at hr (az (cv 0) (az ag pa_nil))) ag) pa_nil))))
   (af (aD (i:=3) gJ.nd rfl (Or.inl rfl) (aH C._law_moves hr (az (cv 1) (az (cv 2) pa_nil))))
   (af (aD (i:=4) gJ.nd rfl (Or.inl rfl) (au (au (aH C._law_cell_at hr (az (cv 0) (az ag pa_nil))) ag) (kB (xP rfl) Kc T.max (az ag (az (kB (klen K) bT T.len (az (cv 3) pa_nil)) pa_nil)))))
   (af (fJ N8 rfl (qQ K (Bi K (au (Bi K (cv 3) (cK (cv 4)) du) (Bi K (cv 3) du (cK (cv 4)))) du (cK ag))) (bN (i:=5) gJ.nd rfl (Or.inl rfl)) (am (bf (bJ (bL (aH C._law_done hr (az (cv 1) (az (cv 2) (az (cv 5) pa_nil)))))) (am (aF gq)) aJ)))
   (af (jS (i:=6) rfl (cC (N:=["_law_move"]) (src:=[none]) (ao jf) ["_law_script","_law_game_here","_law_place","_law_found","_law_at","_law_move","_law_odd_here","_law_k","_law_cell"]) (qQ K (Bi K (aH C._law_moves hr (az (cv 1) (az (ce (az (bR K (cv 2) ag) (az (au ag (bR K (cv 2) ag)) pa_nil))) pa_nil))) du (cK ag))) (λ_ _ _=>(bD (i:=0) ["_law_move"])) (λ_ _ _=>bZ) (λ_ _ _=>(ce (az (bR K (cv 0) ag) (az (bR K (cv 0) ag) (az (bR K (cv 0) ag) pa_nil))))) gJ.nd rfl (Or.inl rfl) rfl (Or.inl rfl))
   (af (fJ N8 rfl (Bk K T.enumerate (au (bi (az (aH C._law_cell_at hr (az (cv 0) (az ag pa_nil))) pa_nil)) (Bi K (cv 0) (cK ag) (cK ag)))) (L5 K (n:=2) (cH (bN (i:=7) gJ.nd rfl (Or.inl rfl)) (cH (bN (i:=8) gJ.nd rfl (Or.inl rfl)) jU))) (am (dt (gQ (cv 6) (aH C._law_odd hr (az (cv 3) (az (aH C._law_mixed hr (az (cv 8) (az (cv 7) pa_nil))) (az (kB (klen K) bT T.len (az (bR K (cv 2) ag) pa_nil)) pa_nil))))))))
   (af (fJ N8 rfl (qQ K (cv 6)) (bN (i:=5) gJ.nd rfl (Or.inl rfl)) (am (bf (PW.pt (gk (v5 K hu (cv 5) (cv 3)) (fg (bJ (bL (aH C._law_refused hr (az (cv 1) (az (cv 2) (az (cv 5) pa_nil))))))))) (am (aF gq)) aJ)))
   (am (aF (Hv (jv K hu (cv 3) (bi pa_nil)) (dZ (aH C._law_done hr (az (cv 1) (az (cv 2) (az (bR K (cv 3) (cv 4)) pa_nil)))))))))))))))),?_⟩
  show bp _ _ _ [oR a,none,none,none,none,none,none,none,none] H;refine bI (λv H'=>∃(g b kq:Addr)(wi hi:Int)(hs:List Int)(ks:List Nat)(us:List (aP×Addr))(ts es:List ((Str×Str)×Addr))(st:Str),v=.ref g/\jq K cB cG H' g b kq wi hi hs ks us ts es st/\(hs.length:Int)<wi*hi/\ak H H') (λQ q=>?_) ?_
  .exact eI (ae (aa rfl) aw) ⟨a,ns,rfl,hS,λg b kq wi hi hs ks us ts es st H' h1 h2 h3 h4=>q _ _ ⟨g,b,kq,wi,hi,hs,ks,us,ts,es,st,rfl,h1,h3,h4⟩⟩
  rintro _ H1 ⟨g,b,kq,wi,hi,hs,ks,us,ts,es,st,rfl,G,ln,s1⟩;have hS1:=s1.seq hS;have mm:=G.bd.many;refine bI (λv H'=>∃(pl:Addr)(z:Str)(sd:Int),v=.ref pl/\H' pl=some (.tup [.str z,.int sd])/\Cp wi hi hs ks z/\ak H1 H') (λQ q=>?_) ?_
  .refine tupY (gE (eI (ae (aa rfl) (ae (aa rfl) (ae ar aw))) ⟨a,g,b,ns,10,wi,hi,hs,ks,cF us,bQ ts,bQ es,st,rfl,hS1,by decide,by decide,G.gm,G.bd,G.ltr,G.k1,G.k6,ln,λz H' e1 e2 s=>?_⟩));exact eF (aR (aK (x:=.int (cellAt ns 17)) (ae (aa rfl) (ae ar aw)) (λQ q=>⟨a,ns,17,rfl,s.seq hS1,by decide,q⟩)) ar (by decide)) (rS ⟨by show 2<=sizeLine;decide,λt ht=>q _ _ ⟨t,z,_,rfl,ah,⟨e1,e2⟩,s.upd ht⟩⟩)
  rintro _ H2 ⟨pl,z,sd,rfl,epl,R,s2⟩;have hS2:=s2.seq hS1;have G2:=G.same s2;have rlen:=R.len;have rl:(z.length:Int)=wi*hi:=by rw[rlen];lia
  have RG:=R.g G.ltr mm.2;have z64:=RG.len;have mvY:∀(H':Hp)(t:Addr)(v:Int)(Q:VK),ak H2 H'->H' t=some (.tup [.str z,.int v])->(∀(m:List (List Int))(d:Addr)(ps:List (List Int×Addr))(H'':Hp),jB wi hi hs z us v (sqsOf z v) m->ps.map (·.1)=m->H'' d=some (.lst (kRefs ps))->Cr H'' ps->(∀p∈ps,p.1.length=3)->ps.length<=4096->ak H' H''->Q (.ref d) H'')->jF K cB cG [.ref g,.ref t] H' Q E0:=λH' t v Q s ht q=>
   ⟨g,b,kq,t,z,v,wi,hi,hs,ks,us,ts,es,st,rfl,G2.same s,cr.of ht,RG,rl,λm d H'' h1 h2 _ h4 h5=>by
    obtain⟨ps,p1,p2,p3⟩:=h4;refine q m d ps H'' h1 p1 p2 (λp hp=>(p3 p hp).2) (λp hp=>h1.len3 _ (by rw[<-p1];exact RA.mpr ⟨p,hp,rfl⟩)) ?_ h5;have:=congrArg List.length p1;rw[Rz]at this;lia⟩
  refine bI (λv H'=>∃(d:Addr)(m:List (List Int))(ps:List (List Int×Addr)),v=.ref d/\jB wi hi hs z us sd (sqsOf z sd) m/\ps.map (·.1)=m/\H' d=some (.lst (kRefs ps))/\Cr H' ps/\(∀p∈ps,p.1.length=3)/\ps.length<=4096/\ak H2 H') (λQ q=>eI (ae (aa rfl) (ae (aa rfl) aw)) (mvY H2 pl sd _ (ak.refl _) epl λm d ps H' h1 h2 h3 h4 h5 h6 h7=>q _ _ ⟨d,m,ps,rfl,h1,h2,h3,h4,h5,h6,h7⟩)) ?_;rintro _ H3 ⟨d,m,ps,rfl,hm,p1,ed,kp,l3,pl4,s3⟩;have hS3:=s3.seq hS2;have MC:∀{H':Hp}{t:Addr}{x:List Int},ak H2 H'->H' t=some (.tup (x.map V.int))->HA K cB cG H' g b kq pl t z sd wi hi hs ks us ts es st x m:=λs e=>⟨G2.same s,cr.of (s _ _ epl),e,R,hm⟩;have doneY:∀(H':Hp)(p:List Int×Addr)(Q:VK),p∈ps->ak H3 H'->(∀H'',ak H' H''->Q (.bl true) H'')->pr K cB cG [.ref g,.ref pl,.ref p.2] H' Q E0:=λH' p Q hp s q=>
   ⟨g,b,kq,pl,p.2,z,sd,wi,hi,hs,ks,us,ts,es,st,p.1,m,rfl,MC (s3.trans s) (s _ _ (kp p hp)),by rw[<-p1];exact RA.mpr ⟨p,hp,rfl⟩,q⟩
  have klen:(kRefs ps).length=ps.length:=Rz ..;have jpos:(0:Int)<(if((kRefs ps).length:Int) > 1 then((kRefs ps).length:Int)else 1):=by split<;>lia
  refine aU (aR (bw (aK (x:=.int (cellAt ns 17)) (ae (aa rfl) (ae ar aw)) (λQ q=>⟨a,ns,17,rfl,hS3,by decide,q⟩)) ar ⟨by decide,by decide⟩) (JS ar (cS (aa rfl) (.inl (aY.of ed)))) jpos) ?_;have x0:=TN (cellAt ns 17 / 2) (Int.ne_of_gt jpos);have x1:=TQ (cellAt ns 17 / 2) jpos;generalize(cellAt ns 17 / 2) % (if((kRefs ps).length:Int) > 1 then((kRefs ps).length:Int)else 1)=ix at x0 x1;show bp _ _ _ [oR a,oR g,oR pl,oR d,oJ ix,none,none,none,none] H3;refine cb (λσ' H'=>(∃o5,σ'=[oR a,oR g,oR pl,oR d,oJ ix,o5,none,none,none])/\ak H3 H') (λK' hK=>?_) ?_
  .refine hZ (λv H'=>∃(q:Addr)(xs:List V),v=.ref q/\H' q=some (.lst xs)/\(∀x∈xs,x∈kRefs ps)/\ak H3 H') (λQ q=>?_) ?_
   .refine GQ (oO (l9 (aa rfl) (iz (aa rfl)) jj (aY.of ed) λq1 h1=>?_));have sa:=(ak.refl H3).upd (o:=.lst (cutV (kRefs ps) (some ix) none)) h1;have ea:(upd H3 q1 (.lst (cutV (kRefs ps) (some ix) none))) q1=some (.lst (cutV (kRefs ps) (some ix) none)):=ah;generalize upd H3 q1 (.lst (cutV (kRefs ps) (some ix) none))=H4 at sa ea ⊢;refine l9 (aa rfl) jj (iz (aa rfl)) (aY.of (sa _ _ ed)) λq2 h2=>?_;have sb:=(ak.refl H4).upd (o:=.lst (cutV (kRefs ps) none (some ix))) h2;have c1:=dG (kRefs ps) (some ix) none;have c2:=dG (kRefs ps) none (some ix);refine⟨q1,q2,_,_,rfl,rfl,sb _ _ ea,ah,by rw[NR];lia,λq3 h3=>jj _ (iz ar _ ⟨_,aY.of ah,λq4 h4=>q _ _ ⟨q4,_,rfl,ah,λx hx=>?_,((sa.trans sb).upd h3).upd h4⟩⟩)⟩
    rcases RM.mp (j4 hx)with w|w
    .exact j4 w
    .exact j4 w
   .rintro _ H4 ⟨q,xs,rfl,eq,gx,s4⟩;refine⟨q,xs,rfl,aY.of eq,λi σ' H'=>(∃o5,σ'=[oR a,oR g,oR pl,oR d,oJ ix,o5,none,none,none])/\ak H4 H',⟨⟨_,rfl⟩,ak.refl _⟩,?_,?_,λσ' H' h=>hK _ _ ⟨h.1,s4.trans h.2⟩⟩
    .rintro i σ' H' _ ⟨_,s5⟩;exact aY.of (s5 _ _ eq)
    .rintro i x _ H5 hx ⟨⟨o5,rfl⟩,s5⟩;obtain⟨p,hp,rfl⟩:=RA.mp (gx _ (RT hx));show lU _ _ _ _ [oR a,oR g,oR pl,oR d,oJ ix,oR p.2,none,none,none] H5;exact tK (λb H'=>b=false/\ak H5 H') (λR' y=>Cb (ae (aa rfl) (ae (aa rfl) (ae (aa rfl) aw))) (doneY H5 p _ hp (s4.trans s5) λH' s=>y _ _ ⟨rfl,s⟩)) (λH' w=>nomatch w.1) (λH' w=>⟨⟨_,rfl⟩,s5.trans w.2⟩)
  rintro _ H4 ⟨⟨o5,rfl⟩,s4⟩;have s24:=s3.trans s4;have epl4:=s24 _ _ epl;refine bI (λv H'=>∃(q:Addr)(ys:List V),v=.ref q/\H4 q=none/\H' q=some (.lst ys)/\ys.length<=4096/\xY H' ys/\ak H4 H') (λQ q=>?_) ?_
  .refine D1 (GQ (Ca (fL (aa rfl) (gE (ig (aQ (x:=.str z) (aa rfl) ar (.inr (cr.of epl4)) rfl) (eT ar (aQ (x:=.int sd) (aa rfl) ar (.inr (cr.of epl4)) rfl)) λt1 h1=>jk ?_)))));have sa:=(ak.refl H4).upd (o:=.tup [.str z,.int (1 - sd)]) h1;refine mvY _ t1 (1 - sd) _ (s24.trans sa) ah λm2 d2 ps2 H5 _ _ e2 kp2 l32 pl2 s5=>?_;have s45:=sa.trans s5;refine jj _ (iz ar _ ⟨_,aY.of e2,λq1 h1=>⟨q1,rfl,⟨_,aY.of ah⟩,?_⟩⟩);have sb:=(ak.refl H5).upd (o:=.lst (cutV (kRefs ps2) none (some 3))) h1;have c1:=dG (kRefs ps2) none (some 3);have k2:(kRefs ps2).length=ps2.length:=Rz ..;refine qS (rest:=[]) ah (by rw[NR];lia) rfl (λ_ H' v=>∃(t:Addr)(x:List Int),v=.ref t/\H' t=some (.tup (x.map V.int))) (λi H H' v h s=>?_) (λi x H' hx s' Q' q'=>?_) (λd' H' ys s' hd hl hy=>?_)
   .obtain⟨t,x,e,h⟩:=h;exact⟨t,x,e,s _ _ h⟩
   .obtain⟨p,hp,rfl⟩:=RA.mp (j4 (RT hx));have l3:=l32 p hp;have kp:=s' _ _ (sb _ _ (kp2 p hp));obtain⟨pk,pa⟩:=p
    match pk,l3,kp with
    | [a1,a2,a3],_,kp=>
      exact lS (aQ (x:=.int a1) (aa rfl) ar (.inr (cr.of kp)) rfl) (aQ (x:=.int a2) (aa rfl) ar (.inr (cr.of kp)) rfl) (aQ (x:=.int a3) (aa rfl) ar (.inr (cr.of kp)) rfl) λt ht=>q' _ _ ⟨t,[a1,a2,a3],rfl,ah⟩ ((ak.refl H').upd ht)
   .have s4':=(s45.trans sb).trans s';refine q _ _ ⟨d',ys,rfl,s4'.free hd,ah,by lia,λy hy'=>?_,s4'.upd hd⟩;obtain⟨i,hi',rfl⟩:=Sh hy';obtain⟨t,x,e,h⟩:=hy i _ (RC hi');exact⟨t,x,e,((ak.refl H').upd hd) _ _ h⟩
  rintro _ H5 ⟨oq,ys0,rfl,noq,eo5,yl0,od0,s5⟩;have hS5:=(s4.trans s5).seq hS3;show bp _ _ _ [oR a,oR g,oR pl,oR d,oJ ix,o5,oR oq,none,none] H5;refine cb (λσ' H'=>(∃o7 o8 ys,σ'=[oR a,oR g,oR pl,oR d,oJ ix,o5,oR oq,o7,o8]/\H' oq=some (.lst ys)/\xY H' ys)/\ak H4 H') (λK' hK=>?_) ?_
  .refine sE (λq' H'=>(∃cs:List Int,H' q'=some (.lst (cs.map V.int))/\cs.length<=64)/\q'≠oq/\ak H5 H') (λQ q=>?_) ?_
   .refine oO (lq (fL (aK (x:=.int (cellAt ns 18)) (ae (aa rfl) (ae ar aw)) (λQ q=>⟨a,ns,18,rfl,hS5,by decide,q⟩)) (jk ⟨by show 1<=sizeLine;decide,λp hp=>?_⟩)));have sa:=(ak.refl H5).upd (o:=.lst [.int (cellAt ns 18)]) hp;have ea:(upd H5 p (.lst [.int (cellAt ns 18)])) p=some (.lst [.int (cellAt ns 18)]):=ah;generalize upd H5 p (.lst [.int (cellAt ns 18)])=H6 at sa ea ⊢;refine l9 (aa rfl) (iz ar) (iz ar) (sa.seq hS5) λp2 hp2=>?_;have sb:=(ak.refl H6).upd (o:=.lst (cutV (ns.map V.int) (some 19) (some 27))) hp2;obtain⟨ss,es1,es3⟩:=J2 ns (some 19) (some 27);refine⟨p,p2,_,_,rfl,rfl,sb _ _ ea,ah,by rw[es1,Rz,NR];show 1+_<=_;lia,λr hr'=>q _ _ ⟨⟨cellAt ns 18::ss,by rw[ah,es1];rfl,by rw[RR];lia⟩,λe=>?_,(sa.trans sb).upd hr'⟩⟩;rw[e,sb _ _ (sa _ _ eo5)]at hr';cases hr'
   rintro q' H6 ⟨⟨cs,eq',cl⟩,nq,s6⟩;refine⟨_,aY.of eq',λi σ' H'=>(∃o7 o8 ys,σ'=[oR a,oR g,oR pl,oR d,oJ ix,o5,oR oq,o7,o8]/\H' oq=some (.lst ys)/\ys.length<=4096+i/\xY H' ys)/\SameBut oq H6 H',
    ⟨⟨_,_,ys0,rfl,s6 _ _ eo5,by lia,od0.same λt xs h=>s6 _ _ h⟩,SameBut.refl _⟩,?_,?_,?_⟩
   .rintro i σ' H' ⟨_,sb⟩;exact aY.of (sb _ _ eq' nq)
   .rintro i x _ H7 t hx ⟨⟨o7,o8,ys,rfl,eo7,yl,od⟩,sb⟩ nt;obtain⟨c,hc,rfl⟩:=RA.mp (RT hx);have hi':i<64:=by have:=(RO.mp hx).1;rw[Rz]at this;lia
    refine Hl ah ?_;have s8:=(ak.refl H7).upd (o:=.tup [.int (i:Int),.int c]) nt;generalize upd H7 t (HO.tup [V.int (i:Int),V.int c])=H8 at s8;have eo8:=s8 _ _ eo7;have s48:ak H4 H8:=λb o e=>s8 _ _ (sb _ _ (s6 _ _ (s5 _ _ e)) (aC e noq));have epl8:=(s24.trans s48) _ _ epl;show jD _ _ [oR a,oR g,oR pl,oR d,oJ ix,o5,oR oq,oJ (i:Int),oJ c] H8;refine lv (aa rfl) ⟨_,eo8⟩ (eI (ae (aa rfl) (ae (aK (x:=.int (mixed c (i:Int))) (ae (aa rfl) (ae (aa rfl) aw)) (λQ q=>⟨_,_,rfl,q⟩)) (ae (qw (aQ (x:=.str z) (aa rfl) ar (.inr (cr.of epl8)) rfl) (by rw[NR];lia)) aw))) ⟨d,mixed c (i:Int),z.length,ps,rfl,(s4.trans s48) _ _ ed,λp hp=>(s4.trans s48) _ _ (kp p hp),l3,by lia,λu ku H9 eu s9=>?_⟩);have eo9:=s9 _ _ eo8;have nu:u≠oq:=λe=>by rw[e,eo9]at eu;cases eu
    refine⟨ys,eo9,by rw[NR];lia,⟨_,_,ys++[.ref u],rfl,ah,by rw[RI];show _+1<=_;lia,λy hy=>?_⟩,λb o e ne=>?_⟩
    .rcases RM.mp hy with w|w
     .obtain⟨t',k',e,h⟩:=od y w;have h9:=s9 _ _ (s8 _ _ h);exact⟨t',k',e,by rw[av (λz=>by rw[z,eo9]at h9;cases h9)];exact h9⟩
     .exact⟨u,ku,RL.mp w,by rw[av nu];exact eu⟩
    .rw[av ne];exact s9 _ _ (s8 _ _ (sb _ _ e ne))
   .rintro σ' H' ⟨⟨o7,o8,ys,e,eo,_,od⟩,sb⟩;exact hK _ _ ⟨⟨o7,o8,ys,e,eo,od⟩,λb o e=>sb _ _ (s6 _ _ (s5 _ _ e)) (aC e noq)⟩
  rintro _ H6 ⟨⟨o7,o8,ys,rfl,eo6,od6⟩,s6⟩;have s36:=s4.trans s6;refine cb (λσ' H'=>(∃o,σ'=[oR a,oR g,oR pl,oR d,oJ ix,o,oR oq,o7,o8])/\ak H6 H') (λK' hK=>?_) ?_
  .refine hZ (λv H'=>v=.ref oq/\H6=H') (λQ z=>(aa rfl) _ (z _ _ ⟨rfl,rfl⟩)) ?_;rintro _ _ ⟨rfl,rfl⟩;refine⟨oq,ys,rfl,aY.of eo6,λi σ' H'=>(∃o,σ'=[oR a,oR g,oR pl,oR d,oJ ix,o,oR oq,o7,o8])/\ak H6 H',⟨⟨_,rfl⟩,ak.refl _⟩,?_,?_,λσ' H' h=>hK _ _ h⟩
   .rintro i σ' H' _ ⟨_,s7⟩;exact aY.of (s7 _ _ eo6)
   .rintro i x _ H7 hx ⟨⟨o,rfl⟩,s7⟩;obtain⟨t,x,rfl,ht⟩:=od6 _ (RT hx);have ht7:=s7 _ _ ht;have s37:=s36.trans s7;show lU _ _ _ _ [oR a,oR g,oR pl,oR d,oJ ix,oR t,oR oq,o7,o8] H7;refine tK (λb H'=>b=false/\ak H7 H') (λR' y=>Aq (tI ((show Ev (fM 5) _ _ (.ref t)from aa rfl) _ ((show Ev (fM 3) _ _ (.ref d)from aa rfl) _ ⟨x,ps,ht7,aY.of (s37 _ _ ed),λp hp=>s37 _ _ (kp p hp),?_⟩)))) (λH' w=>nomatch w.1) (λH' w=>⟨⟨_,rfl⟩,s7.trans w.2⟩)
    by_cases hx:x∈ps.map (·.1)
    .rw[NA hx];exact Ck (y _ _ ⟨rfl,ak.refl _⟩)
    .rw[NB hx];refine Cj (Cb (ae (aa rfl) (ae (aa rfl) (ae (aa rfl) aw))) ⟨g,b,kq,pl,t,z,sd,wi,hi,hs,ks,us,ts,es,st,x,m,rfl,MC (s3.trans s37) ht7,by rw[<-p1];exact hx,λH' s=>y _ _ ⟨rfl,s⟩⟩)
  rintro _ H7 ⟨⟨o,rfl⟩,s7⟩;have s37:=s36.trans s7;refine gM (LJ (B3 ((show Ev (fM 3) _ _ (.ref d)from aa rfl) _ (lq (jk ⟨Tl _,λr hr'=>?_⟩)))));have sb:=(ak.refl H7).upd (o:=.lst []) hr';have s38:=s37.trans sb;refine⟨_,wm (n:=19) (s38 _ _ ed) ah,?_⟩
  by_cases hp:kRefs ps=[]
  .rw[NA hp];exact LK (k _)
  .rw[NB hp];have lpos:0<(kRefs ps).length:=Ti.mpr hp;obtain⟨v,ev,hv⟩:=ms (xs:=kRefs ps) (i:=ix) x0 (by split at x1<;>lia);obtain⟨p,hpp,rfl⟩:=RA.mp hv;exact LL (eI (ae (aa rfl) (ae (aa rfl) (ae (aQ (x:=.ref p.2) (aa rfl) (aa rfl) (.inl (aY.of (s38 _ _ ed))) ev) aw))) (doneY _ p _ hpp s38 λH' _=>k H'))
end
end K14
namespace L2
open PySem PySem.W PyProof.Rows
theorem Ak{q:NP}{loose:List Str}{XP:(NH)->NZ->Prop}{YP:NT->NZ->Prop}{α:Type}{Yf:NN->α}{Ya:NT->α}{r:RowW}{d:DefRec}{kwd:List (Str×N5)}{run:Value->List Value->Sem Value}
  (hY:∀(w:NT)(s₀ s₁:NN),Yf s₀=Ya w->(∀b o,s₀.heap.get? b=some o->s₁.heap.get? b=some o)->YP w s₁.heap) (h:WalkO q loose XP YP r d kwd run):PySem.W.WalkX q loose XP Yf Ya r d kwd run:=
 λw s₀ s₁ mg mb G y a o pm cd doc dV kV ho hd hcd hD hmg hg args vals as L hpre hlay hrd hwl hlo=>h w s₀ s₁ mg mb G (hY w s₀ s₁ y L.keeps) a o pm cd doc dV kV ho hd hcd hD hmg hg args vals as hpre hlay hrd hwl hlo
theorem x8{P:List Value->Prop}(h:∀a0:Value,P [a0]):∀us:List Value,us.length=1->P us
 | [a0],_=>h a0
theorem ou{P:List Value->Prop}(h:∀a0 a1:Value,P [a0,a1]):∀us:List Value,us.length=2->P us
 | [a0,a1],_=>h a0 a1
theorem rX{P:List Value->Prop}(h:∀a0 a1 a2:Value,P [a0,a1,a2]):∀us:List Value,us.length=3->P us
 | [a0,a1,a2],_=>h a0 a1 a2
theorem Ha{P:List Value->Prop}(h:∀a0 a1 a2 a3:Value,P [a0,a1,a2,a3]):∀us:List Value,us.length=4->P us
 | [a0,a1,a2,a3],_=>h a0 a1 a2 a3
theorem ln7{P:List Value->Prop}(h:∀a0 a1 a2 a3 a4 a5 a6:Value,P [a0,a1,a2,a3,a4,a5,a6]):∀us:List Value,us.length=7->P us
 | [a0,a1,a2,a3,a4,a5,a6],_=>h a0 a1 a2 a3 a4 a5 a6
noncomputable def tH:Nat->List Obj->Nat->Nat->PySem.W.BT
 |0,_,_,_=>.nil
 |f+1,l,a,b=>(l[b]?).elim .nil λo=>.node o (tH f l (2*a) (a+b)) (tH f l (2*a) (2*a+b))
def toT(s:NN):SharedT:=⟨tH 12 s.heap.objs.toList 1 0,s.heap.objs.size,s.heap.life,s.gens,s.drawn,s.toks,s.os⟩
theorem LX{p q:NP}{loose:List Str}{Xt:NN->Bool}{α:Type}{Yf:NN->α}{Ya:NT->α}{N:Nat}{g0:Bool}{H₀:Pw->NZ}{gs₀:Array P4}{d₀:Drawn}{k₀ m₀:Nat}{ann:Option Value}{n0 nb n nf:Nat}
  {b:List N6} {env:QK} {qp p0 p1 p2:Px} {sa:NT->OS->NN} {sb sc:NT->OS->SharedT} {sf:NT->OS->NN}
  (open_:∀w:NT,(fencedOpening N3 p w N).map (λs=>(s.heap,s.gens,s.drawn,s.toks))=some (H₀ w.params,gs₀,d₀,k₀))
  (size:∀w:NT,((H₀ w.params).isNs NM&&gs₀.size == 0,(H₀ w.params).objs.size,(H₀ w.params).nsMap NM "__annotations__")=(true,m₀,ann))
  (pre:∀w os,topGo N3 p w m₀ ann n0 ⟨H₀ w.params,gs₀,d₀,k₀,os⟩ (topStub p)=some (sa w os,⟨denote N3 (.body b env),.body b env,p0,[Qp qp]⟩))
  (block:∀w os,segRun N3 p w m₀ ann 1 nb (sa w os) (blockOf b env (.body b env) p0 [Qp qp])=some (.next,(sb w os).abs,.body b env,p1))
  (main:∀w os,segRunT N3 p w m₀ ann 1 n (sb w os) (piecesOf b env (.body b env) p1 [Qp qp])=some (.next,sc w os,.body b env,p2))
  (fin:∀w os,topRun N3 p w m₀ ann nf (sc w os).abs ⟨doneF .next,.body b env,p2,[Qp qp]⟩=some (sf w os))
  (le:Nat.ble (n0+(nb+(n+nf))) N=true)
  (looks:∀w os,((Rq (OD p.main.body) (H₀ w.params) (sf w os).heap&&Q5 p (sf w os).heap&&gensDone (sf w os)&&laidKept (H₀ w.params) (sf w os).heap),
    openSeen q loose (OD p.main.body) Xt g0 (sf w os),Yf (sf w os))=(true,openGood q loose,Ya w)):LeftO p q loose Xt Yf Ya N g0:=λw=>by
 obtain⟨⟨h,gs,d,k,os⟩,e,e'⟩:=Uv.mp (open_ w);obtain⟨rfl,rfl,rfl,rfl⟩:h=H₀ w.params/\gs=gs₀/\d=d₀/\k=k₀:=by simpa using e'
 obtain⟨z1,z2,z3⟩:_/\_/\_:=by simpa only[Prod.mk.injEq]using size w
 obtain⟨l1,l2,l3⟩:_/\_/\_:=by simpa only[Prod.mk.injEq]using looks w os
 have r1:=piece_app (rest:=[]) (segRun_of (main w os)) (piece_nil (fin w os));rw[RP]at r1;have r3:=go_top (pre w os) (piece_block (block w os) r1);have r:=topRun_mono (N - (n0+(nb+(n+nf)))) _ _ _ _ r3;rw[show n0+(nb+(n+nf))+(N - (n0+(nb+(n+nf))))=N by have:=TM le;lia]at r;have t:Rc N3 p w N ⟨H₀ w.params,gs,d,k,os⟩=some (sf w os):=by
  unfold Rc;dsimp only;rw[z1,z2,z3,r];show(match Rq (OD p.main.body) (H₀ w.params) (sf w os).heap&&Q5 p (sf w os).heap&&gensDone (sf w os)&&laidKept (H₀ w.params) (sf w os).heap with|true=>_|false=>_)=_
  rw[l1]
 unfold openEnds;rw[e];show(Rc N3 p w N _).map _=_;rw[t];exact congrArg some (Prod.ext l2 l3)
abbrev Mj(name qual:Str)(params:Arguments)(body:List N6)(scope:O0)(globals:Addr)(closure:List (Str×Addr))(dV kV doc pm:Value)(an:Option Addr)(cdv ct:Value)(bl:Addr):NV:=
 {name,qualname:=qual,params,body:=.stmts body,scope,globals,closure,defaults:=dV,kwdefaults:=kV,doc,pyModule:=pm,annotations:=an,code:=cdv,closureTuple:=ct,builtins:=bl}
noncomputable def M2(t:PySem.W.BT)(n k:Nat)(P:Pw)(os:OS):SharedT:=⟨t,n,(boot_heap P).life,Array.mk [],boot_drawn,k,os⟩
theorem xt{p q:NP}{loose:List Str}{Xt:NN->Bool}{α:Type}{Yf:NN->α}{Ya:NT->α}{N:Nat}{g0:Bool}{H₀:Pw->NZ}{gs₀:Array P4}{d₀:Drawn}{k₀ m₀:Nat}{ann:Option Value}{n0 nb n:Nat}
  {b:List N6} {env:QK} {qp p0 p1:Px} {sa:NT->OS->NN} {sb:NT->OS->SharedT} {sf:NT->OS->NN}
  (open_:∀w:NT,(fencedOpening N3 p w N).map (λs=>(s.heap,s.gens,s.drawn,s.toks))=some (H₀ w.params,gs₀,d₀,k₀))
  (size:∀w:NT,((H₀ w.params).isNs NM&&gs₀.size == 0,(H₀ w.params).objs.size,(H₀ w.params).nsMap NM "__annotations__")=(true,m₀,ann))
  (pre:∀w os,topGo N3 p w m₀ ann n0 ⟨H₀ w.params,gs₀,d₀,k₀,os⟩ (topStub p)=some (sa w os,⟨denote N3 (.body b env),.body b env,p0,[Qp qp]⟩))
  (block:∀w os,segRun N3 p w m₀ ann 1 nb (sa w os) (blockOf b env (.body b env) p0 [Qp qp])=some (.next,(sb w os).abs,.body b env,p1))
  (main:∀w os,topRun N3 p w m₀ ann n (sb w os).abs (restOf b env (.body b env) p1 [Qp qp])=some (sf w os))
  (le:Nat.ble (n0+(nb+n)) N=true)
  (looks:∀w os,((Rq (OD p.main.body) (H₀ w.params) (sf w os).heap&&Q5 p (sf w os).heap&&gensDone (sf w os)&&laidKept (H₀ w.params) (sf w os).heap),
    openSeen q loose (OD p.main.body) Xt g0 (sf w os),Yf (sf w os))=(true,openGood q loose,Ya w)):LeftO p q loose Xt Yf Ya N g0:=λw=>by
 obtain⟨⟨h,gs,d,k,os⟩,e,e'⟩:=Uv.mp (open_ w);obtain⟨rfl,rfl,rfl,rfl⟩:h=H₀ w.params/\gs=gs₀/\d=d₀/\k=k₀:=by simpa using e'
 obtain⟨z1,z2,z3⟩:_/\_/\_:=by simpa only[Prod.mk.injEq]using size w
 obtain⟨l1,l2,l3⟩:_/\_/\_:=by simpa only[Prod.mk.injEq]using looks w os
 have r3:=go_top (pre w os) (piece_block (block w os) (main w os));have r:=topRun_mono (N - (n0+(nb+n))) _ _ _ _ r3;rw[show n0+(nb+n)+(N - (n0+(nb+n)))=N by have:=TM le;lia]at r;have t:Rc N3 p w N ⟨H₀ w.params,gs,d,k,os⟩=some (sf w os):=by
  unfold Rc;dsimp only;rw[z1,z2,z3,r];show(match Rq (OD p.main.body) (H₀ w.params) (sf w os).heap&&Q5 p (sf w os).heap&&gensDone (sf w os)&&laidKept (H₀ w.params) (sf w os).heap with|true=>_|false=>_)=_
  rw[l1]
 unfold openEnds;rw[e];show(Rc N3 p w N _).map _=_;rw[t];exact congrArg some (Prod.ext l2 l3)
def wd(as:List Addr)(s:NN):List (Option Obj):=as.map s.heap.get?
def wc(K:Pw->Frag)(w:NT):List (Option Obj):=(K w.params).map λp=>some p.2
theorem Mb{K:Pw->Frag}{as:List Addr}(e:∀P,as=(K P).map (·.1))(w:NT)(s₀ s₁:NN)(y:wd as s₀=wc K w)(k:∀b o,s₀.heap.get? b=some o->s₁.heap.get? b=some o):(K w.params).In s₁.heap:=
 InK.keeps w s₀.heap s₁.heap (InK.of e w s₀ y) k
end L2
namespace K14
open PySem L2
noncomputable abbrev eP(x:Array Value)(n:Nat):Obj:=⟨.type "tuple",none,.seq x n,#[]⟩
noncomputable abbrev dH(a b:Str)(s:N6):Obj:=⟨.none,none,.func (L2.Mj a b (gD s) (eE s) (ao s) 0 [] .none .none .none .none none .none .none 0),#[]⟩
noncomputable abbrev gu(a b:Str)(n m l:Nat)(i j k o:Int)(r:Nat)(f:Bool)(p:Int)(q x y z:Nat)(u v:Int)(e:Nat):Obj:=⟨.type "code",none,.fields #[.str a n,.str b m,.str "/claim/cut.py" l,.int i 0,.int j 0,.int 0 0,.int k 0,.int o 0,.ref r,.bool f,.int p 0,.ref q,.none,.ref x,.ref y,.ref z,.int u 0,.int v 0,.str "/claim/cut.py" e],#[]⟩
noncomputable abbrev wF(a b:Str)(n m l:Nat)(i j k o:Int)(r:Nat)(f:Bool)(p:Int)(q:Nat)(u v:Int)(e:Nat):Obj:=⟨.type "code",none,.fields #[.str a n,.str b m,.str "/claim/cut.py" l,.int i 0,.int j 0,.int 0 0,.int k 0,.int o 0,.ref r,.bool f,.int p 0,.ref q,.none,.none,.none,.none,.int u 0,.int v 0,.str "/claim/cut.py" e],#[]⟩
noncomputable abbrev dI(a b:Str)(s:N6)(m:Str)(n c:Nat):Obj:=⟨.type "function",none,.func (UI a b (gD s) (eE s) (ao s) .none .none .none (.str m n) none (.ref c) .none),#[]⟩
noncomputable abbrev HC(x:Array Value):Obj:=⟨.none,none,.fields x,#[]⟩
noncomputable abbrev tw(x:Array Value):Obj:=⟨.type "code",none,.fields x,#[]⟩
noncomputable abbrev aI(P:Pw)(x:Str)(n:Nat)(v:Value):DictEntry:=⟨PyData.keyHash P x,.str x n,v⟩
noncomputable abbrev ay(x:Obj):PySem.W.BT:=.node x .nil .nil
noncomputable abbrev aq(x:Obj)(a b:PySem.W.BT):PySem.W.BT:=.node x a b
noncomputable abbrev bo:Value:=.int 0 0
noncomputable abbrev iF(n:Nat):Value:=.str "/claim/cut.py" n
noncomputable abbrev aN(n:Int):Value:=.int n 0
abbrev hP:NP:=PySem.Challenge.pw_playboard_k14_moves_done
noncomputable def hQ:NP:={hP with main:={hP.main with body:=bu 1::bu 2::bu 3::bu 4::bu 5::bu 6::bu 7::bu 8::bu 9::bu 10::bu 12::bu 13::bu 14::bu 16::bu 17::bu 18::bu 19::bu 20::bu 21::bu 22::bu 23::bu 24::bu 25::bu 26::bu 27::bu 28::bu 29::bu 30::bu 31::bu 32::bu 33::bu 35::bu 36::bu 37::bu 38::bu 39::bu 40::bu 41::bu 43::bu 45::bu 46::bu 47::bu 48::bu 49::bu 51::bu 52::bu 53::bu 55::bu 56::bu 57::bu 58::bu 60::bu 61::bu 62::bu 64::bu 66::bu 67::bu 68::bu 69::bu 70::bu 71::bu 72::bu 73::bu 74::bu 75::bu 76::bu 77::bu 78::bu 79::bu 80::bu 81::bu 82::bu 83::bu 84::bu 85::[]}}
noncomputable section
variable(P:Pw)
def zo3:Obj:=⟨(.type "dict"),none,(.dict #[aI P "__name__" 165 (.str "playboard.errors" 187),aI P "__doc__" 166 .none,aI P "__package__" 167 .none,aI P "__loader__" 168 (.builtin "__main__.__loader__#opaque"),aI P "__spec__" 169 .none,aI P "__annotations__" 170 (.ref 6),aI P "__builtins__" 171 (.ref 4),aI P "__file__" 173 (iF 172),aI P "__cached__" 174 .none,aI P "PlayError" 206 (.ref 24),aI P "BadBoard" 222 (.ref 37),aI P "BadGame" 238 (.ref 49),aI P "BadLine" 263 (.ref 68),aI P "BadPlace" 279 (.ref 80),aI P "NoMove" 295 (.ref 92),aI P "TooWide" 311 (.ref 104),aI P "NoWord" 327 (.ref 116)] 17),#[]⟩
def aj:Obj:=eP #[] 0
def MX:Obj:=HC #[(aN 2),bo,(.ref 20),(aN 4),bo,(.ref 33),(aN 6),bo,(.ref 45),(aN 8),bo,(.ref 57),(aN 13),bo,(.ref 76),(aN 15),bo,(.ref 88),(aN 17),bo,(.ref 100),(aN 19),bo,(.ref 112)]
def Iq:Obj:=wF "<module>" "<module>" 182 183 184 1 0 0 0 11 false 181 12 185 1 186
noncomputable def Ip:Obj:=⟨(.type "frame"),none,.plain,#[(some (.ref 13)),(some (.ref 3)),(some (.ref 3)),none,(some (.str "__main__" 164)),none,(some (.ref 0))]⟩
def CT:Obj:=eP #[(.type "ValueError")] 0
def dJ:Obj:=⟨(.type "builtin_function_or_method"),none,(.fields #[(.builtin "type.__prepare__"),(.type "type")]),#[]⟩
def Io:Obj:=⟨(.type "dict"),none,(.dict #[aI P "__module__" 196 (.str "playboard.errors" 187),aI P "__qualname__" 198 (.str "PlayError" 197),aI P "__firstlineno__" 200 (.int 2 199),aI P "__static_attributes__" 201 (.ref 22)] 4),#[]⟩
def aL:Obj:=HC #[]
def Im:Obj:=wF "PlayError" "PlayError" 191 192 193 2 0 0 0 18 false 181 19 194 2 195
noncomputable def Il:Obj:=⟨(.type "frame"),none,.plain,#[(some (.ref 20)),(some (.ref 3)),(some (.ref 17)),none,(some (.str "playboard.errors" 187)),none,(some (.ref 0))]⟩
def CS:Obj:=⟨(.type "dict"),none,(.dict #[aI P "__module__" 196 (.str "playboard.errors" 187),aI P "__firstlineno__" 200 (.int 2 199),aI P "__static_attributes__" 201 (.ref 22),aI P "__weakref__" 203 (.ref 25),aI P "__doc__" 204 .none] 3),#[]⟩
noncomputable def MW:Obj:=⟨(.type "type"),none,(.cls ⟨"PlayError",[(.type "ValueError")],[(.ref 24),(.type "ValueError"),(.type "Exception"),(.type "BaseException"),(.type "object")],23,"PlayError",true,[],[(.ref 37),(.ref 49),(.ref 68),(.ref 80),(.ref 92),(.ref 104),(.ref 116)],false,none,false⟩),#[(some (.ref 15)),none,(some (.str "PlayError" 189)),(some (.str "PlayError" 197)),(some (.builtin "ValueError.__new__")),(some (.bool true))]⟩
noncomputable def CQ:Obj:=⟨(.type "getset_descriptor"),none,(.fields #[(.str "__weakref__" 202),(.ref 24),(.builtin "ExceptionGroup.__weakref__"),.none]),#[]⟩
def Ik:Obj:=⟨(.type "super"),none,(.fields #[(.ref 24),(.ref 24),(.ref 24)]),#[]⟩
def Ij:Obj:=⟨(.type "builtin_function_or_method"),none,(.fields #[(.builtin "object.__init_subclass__"),(.ref 24)]),#[]⟩
def cW:Obj:=eP #[(.ref 24)] 0
def Ii:Obj:=⟨(.type "dict"),none,(.dict #[aI P "__module__" 214 (.str "playboard.errors" 187),aI P "__qualname__" 216 (.str "BadBoard" 215),aI P "__firstlineno__" 218 (.int 4 217),aI P "__static_attributes__" 219 (.ref 35)] 4),#[]⟩
def Ih:Obj:=wF "BadBoard" "BadBoard" 209 210 211 4 0 0 0 31 false 181 32 212 4 213
noncomputable def Ig:Obj:=⟨(.type "frame"),none,.plain,#[(some (.ref 33)),(some (.ref 3)),(some (.ref 30)),none,(some (.str "playboard.errors" 187)),none,(some (.ref 0))]⟩
def CP:Obj:=⟨(.type "dict"),none,(.dict #[aI P "__module__" 214 (.str "playboard.errors" 187),aI P "__firstlineno__" 218 (.int 4 217),aI P "__static_attributes__" 219 (.ref 35),aI P "__doc__" 220 .none] 2),#[]⟩
noncomputable def CO:Obj:=⟨(.type "type"),none,(.cls ⟨"BadBoard",[(.ref 24)],[(.ref 37),(.ref 24),(.type "ValueError"),(.type "Exception"),(.type "BaseException"),(.type "object")],36,"BadBoard",true,[],[],false,none,false⟩),#[(some (.ref 28)),none,(some (.str "BadBoard" 207)),(some (.str "BadBoard" 215)),(some (.builtin "ValueError.__new__")),(some (.bool true))]⟩
def Ie:Obj:=⟨(.type "super"),none,(.fields #[(.ref 37),(.ref 37),(.ref 37)]),#[]⟩
def Ic:Obj:=⟨(.type "builtin_function_or_method"),none,(.fields #[(.builtin "object.__init_subclass__"),(.ref 37)]),#[]⟩
def Ib:Obj:=⟨(.type "dict"),none,(.dict #[aI P "__module__" 230 (.str "playboard.errors" 187),aI P "__qualname__" 232 (.str "BadGame" 231),aI P "__firstlineno__" 234 (.int 6 233),aI P "__static_attributes__" 235 (.ref 47)] 4),#[]⟩
def Ia:Obj:=wF "BadGame" "BadGame" 225 226 227 6 0 0 0 43 false 181 44 228 6 229
noncomputable def HZ:Obj:=⟨(.type "frame"),none,.plain,#[(some (.ref 45)),(some (.ref 3)),(some (.ref 42)),none,(some (.str "playboard.errors" 187)),none,(some (.ref 0))]⟩
def CN:Obj:=⟨(.type "dict"),none,(.dict #[aI P "__module__" 230 (.str "playboard.errors" 187),aI P "__firstlineno__" 234 (.int 6 233),aI P "__static_attributes__" 235 (.ref 47),aI P "__doc__" 236 .none] 2),#[]⟩
noncomputable def CM:Obj:=⟨(.type "type"),none,(.cls ⟨"BadGame",[(.ref 24)],[(.ref 49),(.ref 24),(.type "ValueError"),(.type "Exception"),(.type "BaseException"),(.type "object")],48,"BadGame",true,[],[],false,none,false⟩),#[(some (.ref 40)),none,(some (.str "BadGame" 223)),(some (.str "BadGame" 231)),(some (.builtin "ValueError.__new__")),(some (.bool true))]⟩
def HY:Obj:=⟨(.type "super"),none,(.fields #[(.ref 49),(.ref 49),(.ref 49)]),#[]⟩
def HX:Obj:=⟨(.type "builtin_function_or_method"),none,(.fields #[(.builtin "object.__init_subclass__"),(.ref 49)]),#[]⟩
def HW:Obj:=⟨(.type "dict"),none,(.dict #[aI P "__module__" 246 (.str "playboard.errors" 187),aI P "__qualname__" 248 (.str "BadLine" 247),aI P "__firstlineno__" 250 (.int 8 249),aI P "__init__" 258 (.ref 65),aI P "__static_attributes__" 260 (.ref 66)] 5),#[]⟩
def HV:Obj:=HC #[(aN 10),(aN 4),(.ref 64)]
def HU:Obj:=wF "BadLine" "BadLine" 241 242 243 8 0 0 0 55 false 181 56 244 8 245
noncomputable def HS:Obj:=⟨(.type "frame"),none,.plain,#[(some (.ref 57)),(some (.ref 3)),(some (.ref 54)),none,(some (.str "playboard.errors" 187)),none,(some (.ref 0))]⟩
def CK:Obj:=eP #[(.str "self" 254),(.str "at" 255)] 0
def HR:Obj:=dH "__init__" "BadLine.__init__" gf
def CJ:Obj:=gu "__init__" "BadLine.__init__" 251 252 253 10 2 0 3 59 true 181 60 61 62 63 256 10 257
def CI:Obj:=dI "__init__" "BadLine.__init__" gf "playboard.errors" 187 64
def CH:Obj:=eP #[(.str "at" 259)] 0
def CG:Obj:=⟨(.type "dict"),none,(.dict #[aI P "__module__" 246 (.str "playboard.errors" 187),aI P "__firstlineno__" 250 (.int 8 249),aI P "__init__" 258 (.ref 65),aI P "__static_attributes__" 260 (.ref 66),aI P "__doc__" 261 .none] 2),#[]⟩
noncomputable def CF:Obj:=⟨(.type "type"),none,(.cls ⟨"BadLine",[(.ref 24)],[(.ref 68),(.ref 24),(.type "ValueError"),(.type "Exception"),(.type "BaseException"),(.type "object")],67,"BadLine",true,[],[],false,none,false⟩),#[(some (.ref 52)),none,(some (.str "BadLine" 239)),(some (.str "BadLine" 247)),(some (.builtin "ValueError.__new__")),(some (.bool true))]⟩
def HQ:Obj:=⟨(.type "super"),none,(.fields #[(.ref 68),(.ref 68),(.ref 68)]),#[]⟩
def HP:Obj:=⟨(.type "builtin_function_or_method"),none,(.fields #[(.builtin "object.__init_subclass__"),(.ref 68)]),#[]⟩
def HN:Obj:=⟨(.type "dict"),none,(.dict #[aI P "__module__" 271 (.str "playboard.errors" 187),aI P "__qualname__" 273 (.str "BadPlace" 272),aI P "__firstlineno__" 275 (.int 13 274),aI P "__static_attributes__" 276 (.ref 78)] 4),#[]⟩
def HM:Obj:=wF "BadPlace" "BadPlace" 266 267 268 13 0 0 0 74 false 181 75 269 13 270
noncomputable def HL:Obj:=⟨(.type "frame"),none,.plain,#[(some (.ref 76)),(some (.ref 3)),(some (.ref 73)),none,(some (.str "playboard.errors" 187)),none,(some (.ref 0))]⟩
def CD:Obj:=⟨(.type "dict"),none,(.dict #[aI P "__module__" 271 (.str "playboard.errors" 187),aI P "__firstlineno__" 275 (.int 13 274),aI P "__static_attributes__" 276 (.ref 78),aI P "__doc__" 277 .none] 2),#[]⟩
noncomputable def CC:Obj:=⟨(.type "type"),none,(.cls ⟨"BadPlace",[(.ref 24)],[(.ref 80),(.ref 24),(.type "ValueError"),(.type "Exception"),(.type "BaseException"),(.type "object")],79,"BadPlace",true,[],[],false,none,false⟩),#[(some (.ref 71)),none,(some (.str "BadPlace" 264)),(some (.str "BadPlace" 272)),(some (.builtin "ValueError.__new__")),(some (.bool true))]⟩
def HK:Obj:=⟨(.type "super"),none,(.fields #[(.ref 80),(.ref 80),(.ref 80)]),#[]⟩
def HJ:Obj:=⟨(.type "builtin_function_or_method"),none,(.fields #[(.builtin "object.__init_subclass__"),(.ref 80)]),#[]⟩
def HI:Obj:=⟨(.type "dict"),none,(.dict #[aI P "__module__" 287 (.str "playboard.errors" 187),aI P "__qualname__" 289 (.str "NoMove" 288),aI P "__firstlineno__" 291 (.int 15 290),aI P "__static_attributes__" 292 (.ref 90)] 4),#[]⟩
def HH:Obj:=wF "NoMove" "NoMove" 282 283 284 15 0 0 0 86 false 181 87 285 15 286
noncomputable def HG:Obj:=⟨(.type "frame"),none,.plain,#[(some (.ref 88)),(some (.ref 3)),(some (.ref 85)),none,(some (.str "playboard.errors" 187)),none,(some (.ref 0))]⟩
def Cz:Obj:=⟨(.type "dict"),none,(.dict #[aI P "__module__" 287 (.str "playboard.errors" 187),aI P "__firstlineno__" 291 (.int 15 290),aI P "__static_attributes__" 292 (.ref 90),aI P "__doc__" 293 .none] 2),#[]⟩
noncomputable def Cy:Obj:=⟨(.type "type"),none,(.cls ⟨"NoMove",[(.ref 24)],[(.ref 92),(.ref 24),(.type "ValueError"),(.type "Exception"),(.type "BaseException"),(.type "object")],91,"NoMove",true,[],[],false,none,false⟩),#[(some (.ref 83)),none,(some (.str "NoMove" 280)),(some (.str "NoMove" 288)),(some (.builtin "ValueError.__new__")),(some (.bool true))]⟩
def HF:Obj:=⟨(.type "super"),none,(.fields #[(.ref 92),(.ref 92),(.ref 92)]),#[]⟩
def HE:Obj:=⟨(.type "builtin_function_or_method"),none,(.fields #[(.builtin "object.__init_subclass__"),(.ref 92)]),#[]⟩
def HD:Obj:=⟨(.type "dict"),none,(.dict #[aI P "__module__" 303 (.str "playboard.errors" 187),aI P "__qualname__" 305 (.str "TooWide" 304),aI P "__firstlineno__" 307 (.int 17 306),aI P "__static_attributes__" 308 (.ref 102)] 4),#[]⟩
def Ah:Obj:=wF "TooWide" "TooWide" 298 299 300 17 0 0 0 98 false 181 99 301 17 302
noncomputable def Ag:Obj:=⟨(.type "frame"),none,.plain,#[(some (.ref 100)),(some (.ref 3)),(some (.ref 97)),none,(some (.str "playboard.errors" 187)),none,(some (.ref 0))]⟩
def vq:Obj:=⟨(.type "dict"),none,(.dict #[aI P "__module__" 303 (.str "playboard.errors" 187),aI P "__firstlineno__" 307 (.int 17 306),aI P "__static_attributes__" 308 (.ref 102),aI P "__doc__" 309 .none] 2),#[]⟩
noncomputable def vp:Obj:=⟨(.type "type"),none,(.cls ⟨"TooWide",[(.ref 24)],[(.ref 104),(.ref 24),(.type "ValueError"),(.type "Exception"),(.type "BaseException"),(.type "object")],103,"TooWide",true,[],[],false,none,false⟩),#[(some (.ref 95)),none,(some (.str "TooWide" 296)),(some (.str "TooWide" 304)),(some (.builtin "ValueError.__new__")),(some (.bool true))]⟩
def Af:Obj:=⟨(.type "super"),none,(.fields #[(.ref 104),(.ref 104),(.ref 104)]),#[]⟩
def Ae:Obj:=⟨(.type "builtin_function_or_method"),none,(.fields #[(.builtin "object.__init_subclass__"),(.ref 104)]),#[]⟩
def Ad:Obj:=⟨(.type "dict"),none,(.dict #[aI P "__module__" 319 (.str "playboard.errors" 187),aI P "__qualname__" 321 (.str "NoWord" 320),aI P "__firstlineno__" 323 (.int 19 322),aI P "__static_attributes__" 324 (.ref 114)] 4),#[]⟩
def Ac:Obj:=wF "NoWord" "NoWord" 314 315 316 19 0 0 0 110 false 181 111 317 19 318
noncomputable def Ab:Obj:=⟨(.type "frame"),none,.plain,#[(some (.ref 112)),(some (.ref 3)),(some (.ref 109)),none,(some (.str "playboard.errors" 187)),none,(some (.ref 0))]⟩
def vo:Obj:=⟨(.type "dict"),none,(.dict #[aI P "__module__" 319 (.str "playboard.errors" 187),aI P "__firstlineno__" 323 (.int 19 322),aI P "__static_attributes__" 324 (.ref 114),aI P "__doc__" 325 .none] 2),#[]⟩
noncomputable def vn:Obj:=⟨(.type "type"),none,(.cls ⟨"NoWord",[(.ref 24)],[(.ref 116),(.ref 24),(.type "ValueError"),(.type "Exception"),(.type "BaseException"),(.type "object")],115,"NoWord",true,[],[],false,none,false⟩),#[(some (.ref 107)),none,(some (.str "NoWord" 312)),(some (.str "NoWord" 320)),(some (.builtin "ValueError.__new__")),(some (.bool true))]⟩
def Aa:Obj:=⟨(.type "super"),none,(.fields #[(.ref 116),(.ref 116),(.ref 116)]),#[]⟩
def zZ:Obj:=⟨(.type "builtin_function_or_method"),none,(.fields #[(.builtin "object.__init_subclass__"),(.ref 116)]),#[]⟩
def Ld:Obj:=⟨(.type "dict"),none,(.dict #[aI P "__name__" 165 (.str "playboard.boards" 670),aI P "__doc__" 166 .none,aI P "__package__" 167 .none,aI P "__loader__" 168 (.builtin "__main__.__loader__#opaque"),aI P "__spec__" 169 .none,aI P "__annotations__" 170 (.ref 6),aI P "__builtins__" 171 (.ref 4),aI P "__file__" 173 (iF 172),aI P "__cached__" 174 .none,aI P "PlayError" 206 (.ref 24),aI P "BadBoard" 222 (.ref 37),aI P "BadGame" 238 (.ref 49),aI P "BadLine" 263 (.ref 68),aI P "BadPlace" 279 (.ref 80),aI P "NoMove" 295 (.ref 92),aI P "TooWide" 311 (.ref 104),aI P "NoWord" 327 (.ref 116),aI P "Over" 343 (.ref 128),aI P "NothingBack" 359 (.ref 140),aI P "is_whole" 368 (.ref 149),aI P "is_letter" 375 (.ref 156),aI P "is_among" 384 (.ref 163),aI P "SORTS" 390 (.ref 164),aI P "AIMS" 394 (.ref 165),aI P "END_WORDS" 397 (.ref 166),aI P "STUCK_WORDS" 401 (.ref 167),aI P "MOST_KINDS" 403 (.int 6 402),aI P "MOST_RULES" 405 (.int 24 404),aI P "MOST_PAIRS" 407 (.int 6 406),aI P "is_word" 415 (.ref 174),aI P "is_tuple_of" 423 (.ref 181),aI P "is_list_of" 432 (.ref 188),aI P "is_step" 442 (.ref 195),aI P "is_rule" 452 (.ref 202),aI P "is_pair" 461 (.ref 209),aI P "are_pairs" 467 (.ref 214),aI P "is_turns" 473 (.ref 219),aI P "is_ends" 481 (.ref 226),aI P "are_kinds" 487 (.ref 231),aI P "are_rules" 493 (.ref 236),aI P "EMPTY" 497 (.str "." 496),aI P "HOLE" 499 (.str "#" 498),aI P "sign_of" 507 (.ref 243),aI P "kind_of" 514 (.ref 250),aI P "side_of" 521 (.ref 257),aI P "put" 530 (.ref 264),aI P "squares_of" 536 (.ref 269),aI P "ray" 550 (.ref 276),aI P "NOTHING" 555 (.int (-1) 554),aI P "slid" 568 (.ref 283),aI P "jumped" 577 (.ref 290),aI P "by_rule" 589 (.ref 297),aI P "goals" 600 (.ref 304),aI P "column_of" 610 (.ref 311),aI P "row_of" 618 (.ref 318),aI P "square_at" 627 (.ref 325),aI P "moves" 635 (.ref 330),aI P "arrived" 645 (.ref 337),aI P "behind" 660 (.ref 344),aI P "done" 669 (.ref 351),aI P "LONGEST" 673 (.int 8 672),aI P "are_holes" 679 (.ref 356)] 62),#[]⟩
def Iu:Obj:=HC #[(aN 2),bo,(.ref 20),(aN 4),bo,(.ref 33),(aN 6),bo,(.ref 45),(aN 8),bo,(.ref 57),(aN 13),bo,(.ref 76),(aN 15),bo,(.ref 88),(aN 17),bo,(.ref 100),(aN 19),bo,(.ref 112),(aN 21),bo,(.ref 124),(aN 23),bo,(.ref 136),(aN 26),bo,(.ref 148),(aN 28),bo,(.ref 155),(aN 30),bo,(.ref 162),(aN 40),bo,(.ref 173),(aN 42),bo,(.ref 180),(aN 44),bo,(.ref 187),(aN 46),bo,(.ref 194),(aN 51),bo,(.ref 201),(aN 61),bo,(.ref 208),(aN 63),bo,(.ref 213),(aN 65),bo,(.ref 218),(aN 72),bo,(.ref 225),(aN 74),bo,(.ref 230),(aN 78),bo,(.ref 235),(aN 83),bo,(.ref 242),(aN 85),bo,(.ref 249),(aN 87),bo,(.ref 256),(aN 91),bo,(.ref 263),(aN 93),bo,(.ref 268),(aN 96),bo,(.ref 275),(aN 107),bo,(.ref 282),(aN 118),bo,(.ref 289),(aN 122),bo,(.ref 296),(aN 128),bo,(.ref 303),(aN 134),bo,(.ref 310),(aN 136),bo,(.ref 317),(aN 138),bo,(.ref 324),(aN 141),bo,(.ref 329),(aN 147),bo,(.ref 336),(aN 151),bo,(.ref 343),(aN 161),bo,(.ref 350),(aN 167),bo,(.ref 355)]
noncomputable def tD:Obj:=⟨(.type "type"),none,(.cls ⟨"PlayError",[(.type "ValueError")],[(.ref 24),(.type "ValueError"),(.type "Exception"),(.type "BaseException"),(.type "object")],23,"PlayError",true,[],[(.ref 37),(.ref 49),(.ref 68),(.ref 80),(.ref 92),(.ref 104),(.ref 116),(.ref 128),(.ref 140)],false,none,false⟩),#[(some (.ref 15)),none,(some (.str "PlayError" 189)),(some (.str "PlayError" 197)),(some (.builtin "ValueError.__new__")),(some (.bool true))]⟩
def GE:Obj:=⟨(.type "dict"),none,(.dict #[aI P "__module__" 335 (.str "playboard.errors" 187),aI P "__qualname__" 337 (.str "Over" 336),aI P "__firstlineno__" 339 (.int 21 338),aI P "__static_attributes__" 340 (.ref 126)] 4),#[]⟩
def GD:Obj:=wF "Over" "Over" 330 331 332 21 0 0 0 122 false 181 123 333 21 334
noncomputable def GB:Obj:=⟨(.type "frame"),none,.plain,#[(some (.ref 124)),(some (.ref 3)),(some (.ref 121)),none,(some (.str "playboard.errors" 187)),none,(some (.ref 0))]⟩
def zY:Obj:=⟨(.type "dict"),none,(.dict #[aI P "__module__" 335 (.str "playboard.errors" 187),aI P "__firstlineno__" 339 (.int 21 338),aI P "__static_attributes__" 340 (.ref 126),aI P "__doc__" 341 .none] 2),#[]⟩
noncomputable def zX:Obj:=⟨(.type "type"),none,(.cls ⟨"Over",[(.ref 24)],[(.ref 128),(.ref 24),(.type "ValueError"),(.type "Exception"),(.type "BaseException"),(.type "object")],127,"Over",true,[],[],false,none,false⟩),#[(some (.ref 119)),none,(some (.str "Over" 328)),(some (.str "Over" 336)),(some (.builtin "ValueError.__new__")),(some (.bool true))]⟩
def GA:Obj:=⟨(.type "super"),none,(.fields #[(.ref 128),(.ref 128),(.ref 128)]),#[]⟩
def Gz:Obj:=⟨(.type "builtin_function_or_method"),none,(.fields #[(.builtin "object.__init_subclass__"),(.ref 128)]),#[]⟩
def Gy:Obj:=⟨(.type "dict"),none,(.dict #[aI P "__module__" 351 (.str "playboard.errors" 187),aI P "__qualname__" 353 (.str "NothingBack" 352),aI P "__firstlineno__" 355 (.int 23 354),aI P "__static_attributes__" 356 (.ref 138)] 4),#[]⟩
def Gx:Obj:=wF "NothingBack" "NothingBack" 346 347 348 23 0 0 0 134 false 181 135 349 23 350
noncomputable def Gw:Obj:=⟨(.type "frame"),none,.plain,#[(some (.ref 136)),(some (.ref 3)),(some (.ref 133)),none,(some (.str "playboard.errors" 187)),none,(some (.ref 0))]⟩
def zW:Obj:=⟨(.type "dict"),none,(.dict #[aI P "__module__" 351 (.str "playboard.errors" 187),aI P "__firstlineno__" 355 (.int 23 354),aI P "__static_attributes__" 356 (.ref 138),aI P "__doc__" 357 .none] 2),#[]⟩
noncomputable def zV:Obj:=⟨(.type "type"),none,(.cls ⟨"NothingBack",[(.ref 24)],[(.ref 140),(.ref 24),(.type "ValueError"),(.type "Exception"),(.type "BaseException"),(.type "object")],139,"NothingBack",true,[],[],false,none,false⟩),#[(some (.ref 131)),none,(some (.str "NothingBack" 344)),(some (.str "NothingBack" 352)),(some (.builtin "ValueError.__new__")),(some (.bool true))]⟩
def Gv:Obj:=⟨(.type "super"),none,(.fields #[(.ref 140),(.ref 140),(.ref 140)]),#[]⟩
def Gu:Obj:=⟨(.type "builtin_function_or_method"),none,(.fields #[(.builtin "object.__init_subclass__"),(.ref 140)]),#[]⟩
def zU:Obj:=eP #[(.str "thing" 365)] 0
def Gs:Obj:=dH "is_whole" "is_whole" fZ
def zT:Obj:=gu "is_whole" "is_whole" 362 363 364 26 1 0 3 143 true 181 144 145 146 147 366 26 367
def zS:Obj:=dI "is_whole" "is_whole" fZ "playboard.words" 360 148
def zR:Obj:=eP #[(.str "thing" 372)] 0
def Gr:Obj:=dH "is_letter" "is_letter" fo
def zQ:Obj:=gu "is_letter" "is_letter" 369 370 371 28 1 0 3 150 true 181 151 152 153 154 373 28 374
def zP:Obj:=dI "is_letter" "is_letter" fo "playboard.words" 360 155
def zO:Obj:=eP #[(.str "thing" 379),(.str "least" 380),(.str "most" 381)] 0
def Gq:Obj:=dH "is_among" "is_among" gb
def zN:Obj:=gu "is_among" "is_among" 376 377 378 30 3 0 3 157 true 181 158 159 160 161 382 30 383
def zM:Obj:=dI "is_among" "is_among" gb "playboard.words" 360 162
def zL:Obj:=eP #[(.str "leap" 387),(.str "slide" 388),(.str "jump" 389)] 0
def zK:Obj:=eP #[(.str "go" 391),(.str "hit" 392),(.str "any" 393)] 0
def zJ:Obj:=eP #[(.str "without" 395),(.str "home" 396)] 0
def zI:Obj:=eP #[(.str "lost" 398),(.str "even" 399),(.str "won" 400)] 0
def zH:Obj:=eP #[(.str "thing" 411),(.str "words" 412)] 0
def Gp:Obj:=dH "is_word" "is_word" gX
def zG:Obj:=gu "is_word" "is_word" 408 409 410 40 2 0 3 168 true 181 169 170 171 172 413 40 414
def zF:Obj:=dI "is_word" "is_word" gX "playboard.rules" 385 173
def zE:Obj:=eP #[(.str "thing" 419),(.str "many" 420)] 0
def Go:Obj:=dH "is_tuple_of" "is_tuple_of" dh
def zD:Obj:=gu "is_tuple_of" "is_tuple_of" 416 417 418 42 2 0 3 175 true 181 176 177 178 179 421 42 422
def zC:Obj:=dI "is_tuple_of" "is_tuple_of" dh "playboard.rules" 385 180
def zB:Obj:=eP #[(.str "thing" 427),(.str "least" 428),(.str "most" 429)] 0
def Gn:Obj:=dH "is_list_of" "is_list_of" dR
def zA:Obj:=gu "is_list_of" "is_list_of" 424 425 426 44 3 0 3 182 true 181 183 184 185 186 430 44 431
def zy:Obj:=dI "is_list_of" "is_list_of" dR "playboard.rules" 385 187
def zx:Obj:=eP #[(.str "sort" 436),(.str "across" 437),(.str "up" 438),(.str "longest" 439)] 0
def Gm:Obj:=dH "is_step" "is_step" gY
def zw:Obj:=gu "is_step" "is_step" 433 434 435 46 3 0 3 189 true 181 190 191 192 193 440 46 441
def zv:Obj:=dI "is_step" "is_step" gY "playboard.rules" 385 194
def zu:Obj:=eP #[(.str "thing" 446),(.str "kinds" 447),(.str "sort" 448),(.str "aim" 449)] 0
def Gk:Obj:=dH "is_rule" "is_rule" gZ
def zt:Obj:=gu "is_rule" "is_rule" 443 444 445 51 2 0 3 196 true 181 197 198 199 200 450 51 451
def zr:Obj:=dI "is_rule" "is_rule" gZ "playboard.rules" 385 201
def zq:Obj:=eP #[(.str "thing" 456),(.str "firsts" 457),(.str "seconds" 458)] 0
def Gj:Obj:=dH "is_pair" "is_pair" g6
def zp:Obj:=gu "is_pair" "is_pair" 453 454 455 61 3 0 3 203 true 181 204 205 206 207 459 61 460
def zo:Obj:=dI "is_pair" "is_pair" g6 "playboard.rules" 385 208
def Gi:Obj:=dH "are_pairs" "are_pairs" dC
def zn:Obj:=tw #[(.str "are_pairs" 462),(.str "are_pairs" 463),(iF 464),(aN 63),(aN 3),bo,bo,(aN 3),(.ref 210),(.bool true),(aN 181),(.ref 211),.none,.none,.none,(.ref 212),(aN 465),(aN 63),(iF 466)]
def zm:Obj:=dI "are_pairs" "are_pairs" dC "playboard.rules" 385 213
def Gh:Obj:=dH "is_turns" "is_turns" dv
def zk:Obj:=tw #[(.str "is_turns" 468),(.str "is_turns" 469),(iF 470),(aN 65),(aN 2),bo,bo,(aN 3),(.ref 215),(.bool true),(aN 181),(.ref 216),.none,.none,.none,(.ref 217),(aN 471),(aN 65),(iF 472)]
def zj:Obj:=dI "is_turns" "is_turns" dv "playboard.rules" 385 218
def zi:Obj:=eP #[(.str "thing" 477),(.str "kinds" 478)] 0
def Gg:Obj:=dH "is_ends" "is_ends" g7
def zh:Obj:=gu "is_ends" "is_ends" 474 475 476 72 2 0 3 220 true 181 221 222 223 224 479 72 480
def zg:Obj:=dI "is_ends" "is_ends" g7 "playboard.rules" 385 225
def Gf:Obj:=dH "are_kinds" "are_kinds" dD
def zf:Obj:=tw #[(.str "are_kinds" 482),(.str "are_kinds" 483),(iF 484),(aN 74),(aN 1),bo,bo,(aN 3),(.ref 227),(.bool true),(aN 181),(.ref 228),.none,.none,.none,(.ref 229),(aN 485),(aN 74),(iF 486)]
def zd:Obj:=dI "are_kinds" "are_kinds" dD "playboard.rules" 385 230
def Ge:Obj:=dH "are_rules" "are_rules" dB
def zc:Obj:=tw #[(.str "are_rules" 488),(.str "are_rules" 489),(iF 490),(aN 78),(aN 2),bo,bo,(aN 3),(.ref 232),(.bool true),(aN 181),(.ref 233),.none,.none,.none,(.ref 234),(aN 491),(aN 78),(iF 492)]
def zb:Obj:=dI "are_rules" "are_rules" dB "playboard.rules" 385 235
def y9:Obj:=eP #[(.str "kind" 503),(.str "side" 504)] 0
def Gd:Obj:=dH "sign_of" "sign_of" gT
def y8:Obj:=gu "sign_of" "sign_of" 500 501 502 83 2 0 3 237 true 181 238 239 240 241 505 83 506
def y7:Obj:=dI "sign_of" "sign_of" gT "playboard.places" 494 242
def y6:Obj:=eP #[(.str "sign" 511)] 0
def Gc:Obj:=dH "kind_of" "kind_of" gW
def y4:Obj:=gu "kind_of" "kind_of" 508 509 510 85 1 0 3 244 true 181 245 246 247 248 512 85 513
def y3:Obj:=dI "kind_of" "kind_of" gW "playboard.places" 494 249
def y0:Obj:=eP #[(.str "sign" 518)] 0
def Gb:Obj:=dH "side_of" "side_of" gU
def yZ:Obj:=gu "side_of" "side_of" 515 516 517 87 1 0 3 251 true 181 252 253 254 255 519 87 520
def yY:Obj:=dI "side_of" "side_of" gU "playboard.places" 494 256
def yX:Obj:=eP #[(.str "row" 525),(.str "square" 526),(.str "sign" 527)] 0
def Ga:Obj:=dH "put" "put" rD
def yW:Obj:=gu "put" "put" 522 523 524 91 3 0 3 258 true 181 259 260 261 262 528 91 529
def yV:Obj:=dI "put" "put" rD "playboard.places" 494 263
def F0:Obj:=dH "squares_of" "squares_of" cX
def yU:Obj:=tw #[(.str "squares_of" 531),(.str "squares_of" 532),(iF 533),(aN 93),(aN 2),bo,bo,(aN 3),(.ref 265),(.bool true),(aN 181),(.ref 266),.none,.none,.none,(.ref 267),(aN 534),(aN 93),(iF 535)]
def yT:Obj:=dI "squares_of" "squares_of" cX "playboard.places" 494 268
def yS:Obj:=eP #[(.str "board" 542),(.str "square" 543),(.str "across" 544),(.str "up" 545),(.str "come_to" 546),(.str "here" 547)] 0
def FZ:Obj:=dH "ray" "ray" rC
def yR:Obj:=gu "ray" "ray" 539 540 541 96 4 0 3 270 true 181 271 272 273 274 548 96 549
def yQ:Obj:=dI "ray" "ray" rC "playboard.rays" 537 275
def yO:Obj:=eP #[(.str "row" 559),(.str "side" 560),(.str "aim" 561),(.str "path" 562),(.str "found" 563),(.str "goal" 564),(.str "owner" 565)] 0
def FY:Obj:=dH "slid" "slid" mn
def yN:Obj:=gu "slid" "slid" 556 557 558 107 4 0 3 277 true 181 278 279 280 281 566 107 567
def yM:Obj:=dI "slid" "slid" mn "playboard.reach" 551 282
def yL:Obj:=eP #[(.str "row" 572),(.str "side" 573),(.str "path" 574)] 0
def FX:Obj:=dH "jumped" "jumped" iL
def yJ:Obj:=gu "jumped" "jumped" 569 570 571 118 3 0 3 284 true 181 285 286 287 288 575 118 576
def yI:Obj:=dI "jumped" "jumped" iL "playboard.reach" 551 289
def yH:Obj:=eP #[(.str "board" 581),(.str "row" 582),(.str "square" 583),(.str "rule" 584),(.str "side" 585),(.str "path" 586)] 0
def FW:Obj:=dH "by_rule" "by_rule" g8
def yG:Obj:=gu "by_rule" "by_rule" 578 579 580 122 4 0 3 291 true 181 292 293 294 295 587 122 588
def yF:Obj:=dI "by_rule" "by_rule" g8 "playboard.reach" 551 296
def yE:Obj:=eP #[(.str "game" 593),(.str "row" 594),(.str "square" 595),(.str "found" 596),(.str "rule" 597)] 0
def FV:Obj:=dH "goals" "goals" jO
def yD:Obj:=gu "goals" "goals" 590 591 592 128 3 0 3 298 true 181 299 300 301 302 598 128 599
def yB:Obj:=dI "goals" "goals" jO "playboard.reach" 551 303
def yz:Obj:=eP #[(.str "wide" 606),(.str "square" 607)] 0
def FU:Obj:=dH "column_of" "column_of" fu
def yy:Obj:=gu "column_of" "column_of" 603 604 605 134 2 0 3 305 true 181 306 307 308 309 608 134 609
def yx:Obj:=dI "column_of" "column_of" fu "playboard.squares" 601 310
def yv:Obj:=eP #[(.str "wide" 614),(.str "square" 615)] 0
def FT:Obj:=dH "row_of" "row_of" iK
def yu:Obj:=gu "row_of" "row_of" 611 612 613 136 2 0 3 312 true 181 313 314 315 316 616 136 617
def yt:Obj:=dI "row_of" "row_of" iK "playboard.squares" 601 317
def yr:Obj:=eP #[(.str "wide" 622),(.str "column" 623),(.str "row" 624)] 0
def FS:Obj:=dH "square_at" "square_at" fm
def yq:Obj:=gu "square_at" "square_at" 619 620 621 138 3 0 3 319 true 181 320 321 322 323 625 138 626
def yp:Obj:=dI "square_at" "square_at" fm "playboard.squares" 601 324
def FR:Obj:=dH "moves" "moves" iZ
def yo:Obj:=tw #[(.str "moves" 630),(.str "moves" 631),(iF 632),(aN 141),(aN 2),bo,bo,(aN 3),(.ref 326),(.bool true),(aN 181),(.ref 327),.none,.none,.none,(.ref 328),(aN 633),(aN 141),(iF 634)]
def yn:Obj:=dI "moves" "moves" iZ "playboard.moves" 628 329
def ym:Obj:=eP #[(.str "game" 639),(.str "sign" 640),(.str "side" 641),(.str "goal" 642)] 0
def FQ:Obj:=dH "arrived" "arrived" g9
def yk:Obj:=gu "arrived" "arrived" 636 637 638 147 4 0 3 331 true 181 332 333 334 335 643 147 644
def yj:Obj:=dI "arrived" "arrived" g9 "playboard.moves" 628 336
def yi:Obj:=eP #[(.str "game" 649),(.str "place" 650),(.str "move" 651),(.str "side" 652),(.str "start" 653),(.str "goal" 654),(.str "taken" 655),(.str "sign" 656),(.str "row" 657)] 0
def FP:Obj:=dH "behind" "behind" iM
def yh:Obj:=gu "behind" "behind" 646 647 648 151 3 0 3 338 true 181 339 340 341 342 658 151 659
def yg:Obj:=dI "behind" "behind" iM "playboard.moves" 628 343
def yf:Obj:=eP #[(.str "game" 664),(.str "place" 665),(.str "move" 666)] 0
def FO:Obj:=dH "done" "done" kJ
def yd:Obj:=gu "done" "done" 661 662 663 161 3 0 3 345 true 181 346 347 348 349 667 161 668
def yb:Obj:=dI "done" "done" kJ "playboard.moves" 628 350
def FN:Obj:=dH "are_holes" "are_holes" dE
def ya:Obj:=tw #[(.str "are_holes" 674),(.str "are_holes" 675),(iF 676),(aN 167),(aN 2),bo,bo,(aN 3),(.ref 352),(.bool true),(aN 181),(.ref 353),.none,.none,.none,(.ref 354),(aN 677),(aN 167),(iF 678)]
def x9:Obj:=dI "are_holes" "are_holes" dE "playboard.boards" 670 355
def Ft:Obj:=⟨(.type "dict"),none,(.dict #[aI P "__name__" 165 (.str "law_playboard_k14_moves_done" 800),aI P "__doc__" 166 .none,aI P "__package__" 167 .none,aI P "__loader__" 168 (.builtin "__main__.__loader__#opaque"),aI P "__spec__" 169 .none,aI P "__annotations__" 170 (.ref 6),aI P "__builtins__" 171 (.ref 4),aI P "__file__" 173 (iF 172),aI P "__cached__" 174 .none,aI P "PlayError" 206 (.ref 24),aI P "BadBoard" 222 (.ref 37),aI P "BadGame" 238 (.ref 49),aI P "BadLine" 263 (.ref 68),aI P "BadPlace" 279 (.ref 80),aI P "NoMove" 295 (.ref 92),aI P "TooWide" 311 (.ref 104),aI P "NoWord" 327 (.ref 116),aI P "Over" 343 (.ref 128),aI P "NothingBack" 359 (.ref 140),aI P "is_whole" 368 (.ref 149),aI P "is_letter" 375 (.ref 156),aI P "is_among" 384 (.ref 163),aI P "SORTS" 390 (.ref 164),aI P "AIMS" 394 (.ref 165),aI P "END_WORDS" 397 (.ref 166),aI P "STUCK_WORDS" 401 (.ref 167),aI P "MOST_KINDS" 403 (.int 6 402),aI P "MOST_RULES" 405 (.int 24 404),aI P "MOST_PAIRS" 407 (.int 6 406),aI P "is_word" 415 (.ref 174),aI P "is_tuple_of" 423 (.ref 181),aI P "is_list_of" 432 (.ref 188),aI P "is_step" 442 (.ref 195),aI P "is_rule" 452 (.ref 202),aI P "is_pair" 461 (.ref 209),aI P "are_pairs" 467 (.ref 214),aI P "is_turns" 473 (.ref 219),aI P "is_ends" 481 (.ref 226),aI P "are_kinds" 487 (.ref 231),aI P "are_rules" 493 (.ref 236),aI P "EMPTY" 497 (.str "." 496),aI P "HOLE" 499 (.str "#" 498),aI P "sign_of" 507 (.ref 243),aI P "kind_of" 514 (.ref 250),aI P "side_of" 521 (.ref 257),aI P "put" 530 (.ref 264),aI P "squares_of" 536 (.ref 269),aI P "ray" 550 (.ref 276),aI P "NOTHING" 555 (.int (-1) 554),aI P "slid" 568 (.ref 283),aI P "jumped" 577 (.ref 290),aI P "by_rule" 589 (.ref 297),aI P "goals" 600 (.ref 304),aI P "column_of" 610 (.ref 311),aI P "row_of" 618 (.ref 318),aI P "square_at" 627 (.ref 325),aI P "moves" 635 (.ref 330),aI P "arrived" 645 (.ref 337),aI P "behind" 660 (.ref 344),aI P "done" 669 (.ref 351),aI P "LONGEST" 673 (.int 8 672),aI P "are_holes" 679 (.ref 356),aI P "Board" 744 (.ref 397),aI P "Game" 799 (.ref 430),aI P "_law_cell_at" 809 (.ref 441),aI P "_law_mixed" 817 (.ref 448),aI P "_law_whole" 824 (.ref 455),aI P "_law_board" 837 (.ref 462),aI P "_law_kinds" 843 (.ref 467),aI P "_law_rule" 857 (.ref 474),aI P "_law_turns" 863 (.ref 479),aI P "_law_game" 881 (.ref 486),aI P "_law_row" 887 (.ref 491),aI P "_law_side" 894 (.ref 498),aI P "_law_step" 907 (.ref 505),aI P "_law_by_rule" 923 (.ref 512),aI P "_law_goals" 929 (.ref 517),aI P "_law_moves" 935 (.ref 522),aI P "_law_behind" 949 (.ref 529),aI P "_law_odd" 961 (.ref 536),aI P "_law_alone" 969 (.ref 543),aI P "_law_refused" 979 (.ref 550),aI P "_law_done" 989 (.ref 557),aI P "law" 995 (.ref 562)] 84),#[]⟩
def Ir:Obj:=HC #[(aN 2),bo,(.ref 20),(aN 4),bo,(.ref 33),(aN 6),bo,(.ref 45),(aN 8),bo,(.ref 57),(aN 13),bo,(.ref 76),(aN 15),bo,(.ref 88),(aN 17),bo,(.ref 100),(aN 19),bo,(.ref 112),(aN 21),bo,(.ref 124),(aN 23),bo,(.ref 136),(aN 26),bo,(.ref 148),(aN 28),bo,(.ref 155),(aN 30),bo,(.ref 162),(aN 40),bo,(.ref 173),(aN 42),bo,(.ref 180),(aN 44),bo,(.ref 187),(aN 46),bo,(.ref 194),(aN 51),bo,(.ref 201),(aN 61),bo,(.ref 208),(aN 63),bo,(.ref 213),(aN 65),bo,(.ref 218),(aN 72),bo,(.ref 225),(aN 74),bo,(.ref 230),(aN 78),bo,(.ref 235),(aN 83),bo,(.ref 242),(aN 85),bo,(.ref 249),(aN 87),bo,(.ref 256),(aN 91),bo,(.ref 263),(aN 93),bo,(.ref 268),(aN 96),bo,(.ref 275),(aN 107),bo,(.ref 282),(aN 118),bo,(.ref 289),(aN 122),bo,(.ref 296),(aN 128),bo,(.ref 303),(aN 134),bo,(.ref 310),(aN 136),bo,(.ref 317),(aN 138),bo,(.ref 324),(aN 141),bo,(.ref 329),(aN 147),bo,(.ref 336),(aN 151),bo,(.ref 343),(aN 161),bo,(.ref 350),(aN 167),bo,(.ref 355),(aN 173),bo,(.ref 362),(aN 202),bo,(.ref 407),(aN 228),bo,(.ref 440),(aN 232),bo,(.ref 447),(aN 234),bo,(.ref 454),(aN 236),bo,(.ref 461),(aN 250),bo,(.ref 466),(aN 254),bo,(.ref 473),(aN 268),bo,(.ref 478),(aN 275),bo,(.ref 485),(aN 290),bo,(.ref 490),(aN 306),bo,(.ref 497),(aN 310),bo,(.ref 504),(aN 317),bo,(.ref 511),(aN 337),bo,(.ref 516),(aN 343),bo,(.ref 521),(aN 349),bo,(.ref 528),(aN 360),bo,(.ref 535),(aN 369),bo,(.ref 542),(aN 374),bo,(.ref 549),(aN 380),bo,(.ref 556),(aN 385),bo,(.ref 561)]
def Lm:Obj:=⟨(.type "dict"),none,(.dict #[aI P "__module__" 687 (.str "playboard.boards" 670),aI P "__qualname__" 689 (.str "Board" 688),aI P "__firstlineno__" 691 (.int 173 690),aI P "__init__" 697 (.ref 368),aI P "has" 705 (.ref 375),aI P "squares" 711 (.ref 380),aI P "moved" 724 (.ref 387),aI P "far_row" 732 (.ref 394),aI P "__static_attributes__" 737 (.ref 395)] 9),#[]⟩
def Ll:Obj:=HC #[(aN 175),(aN 4),(.ref 367),(aN 185),(aN 4),(.ref 374),(aN 188),(aN 4),(.ref 379),(aN 191),(aN 4),(.ref 386),(aN 199),(aN 4),(.ref 393)]
def Lk:Obj:=wF "Board" "Board" 682 683 684 173 0 0 0 360 false 181 361 685 173 686
noncomputable def Lj:Obj:=⟨(.type "frame"),none,.plain,#[(some (.ref 362)),(some (.ref 3)),(some (.ref 359)),none,(some (.str "playboard.boards" 670)),none,(some (.ref 0))]⟩
def Li:Obj:=dH "__init__" "Board.__init__" bW
def FM:Obj:=tw #[(.str "__init__" 692),(.str "Board.__init__" 693),(iF 694),(aN 175),(aN 4),bo,bo,(aN 3),(.ref 364),(.bool true),(aN 181),(.ref 365),.none,.none,.none,(.ref 366),(aN 695),(aN 175),(iF 696)]
def FL:Obj:=dI "__init__" "Board.__init__" bW "playboard.boards" 670 367
def FK:Obj:=eP #[(.str "self" 701),(.str "square" 702)] 0
def Lh:Obj:=dH "has" "Board.has" li
def FJ:Obj:=gu "has" "Board.has" 698 699 700 185 2 0 3 369 true 181 370 371 372 373 703 185 704
def FI:Obj:=dI "has" "Board.has" li "playboard.boards" 670 374
def Lg:Obj:=dH "squares" "Board.squares" iy
def FH:Obj:=tw #[(.str "squares" 706),(.str "Board.squares" 707),(iF 708),(aN 188),(aN 1),bo,bo,(aN 3),(.ref 376),(.bool true),(aN 181),(.ref 377),.none,.none,.none,(.ref 378),(aN 709),(aN 188),(iF 710)]
def FG:Obj:=dI "squares" "Board.squares" iy "playboard.boards" 670 379
def FF:Obj:=eP #[(.str "self" 715),(.str "square" 716),(.str "across" 717),(.str "up" 718),(.str "column" 719),(.str "row" 720),(.str "goal" 721)] 0
def Lf:Obj:=dH "moved" "Board.moved" dk
def FE:Obj:=gu "moved" "Board.moved" 712 713 714 191 4 0 3 381 true 181 382 383 384 385 722 191 723
def FD:Obj:=dI "moved" "Board.moved" dk "playboard.boards" 670 386
def FC:Obj:=eP #[(.str "self" 728),(.str "side" 729)] 0
def Le:Obj:=dH "far_row" "Board.far_row" cE
def FA:Obj:=gu "far_row" "Board.far_row" 725 726 727 199 2 0 3 388 true 181 389 390 391 392 730 199 731
def Fz:Obj:=dI "far_row" "Board.far_row" cE "playboard.boards" 670 393
def Fy:Obj:=eP #[(.str "firm" 733),(.str "high" 734),(.str "holes" 735),(.str "wide" 736)] 0
def Fx:Obj:=⟨(.type "dict"),none,(.dict #[aI P "__module__" 687 (.str "playboard.boards" 670),aI P "__firstlineno__" 691 (.int 173 690),aI P "__init__" 697 (.ref 368),aI P "has" 705 (.ref 375),aI P "squares" 711 (.ref 380),aI P "moved" 724 (.ref 387),aI P "far_row" 732 (.ref 394),aI P "__static_attributes__" 737 (.ref 395),aI P "__dict__" 739 (.ref 398),aI P "__weakref__" 741 (.ref 399),aI P "__doc__" 742 .none] 4),#[]⟩
noncomputable def Fw:Obj:=⟨(.type "type"),none,(.cls ⟨"Board",[(.type "object")],[(.ref 397),(.type "object")],396,"Board",true,[],[],false,none,false⟩),#[none,none,(some (.str "Board" 680)),(some (.str "Board" 688)),(some (.builtin "object.__new__")),(some (.bool true))]⟩
noncomputable def Fv:Obj:=⟨(.type "getset_descriptor"),none,(.fields #[(.str "__dict__" 738),(.ref 397),(.builtin "function.__dict__"),(.builtin "function.__dict__#set")]),#[]⟩
def Fu:Obj:=⟨(.type "getset_descriptor"),none,(.fields #[(.str "__weakref__" 740),(.ref 397),(.builtin "ExceptionGroup.__weakref__"),.none]),#[]⟩
def Lc:Obj:=⟨(.type "super"),none,(.fields #[(.ref 397),(.ref 397),(.ref 397)]),#[]⟩
def Lb:Obj:=⟨(.type "builtin_function_or_method"),none,(.fields #[(.builtin "object.__init_subclass__"),(.ref 397)]),#[]⟩
def La:Obj:=⟨(.type "dict"),none,(.dict #[aI P "__module__" 754 (.str "playboard.games" 745),aI P "__qualname__" 756 (.str "Game" 755),aI P "__firstlineno__" 758 (.int 202 757),aI P "__init__" 771 (.ref 415),aI P "rules_of" 777 (.ref 420),aI P "turned" 785 (.ref 427),aI P "__static_attributes__" 792 (.ref 428)] 7),#[]⟩
def K9:Obj:=HC #[(aN 204),(aN 4),(.ref 414),(aN 222),(aN 4),(.ref 419),(aN 225),(aN 4),(.ref 426)]
def K7:Obj:=wF "Game" "Game" 749 750 751 202 0 0 0 405 false 181 406 752 202 753
noncomputable def K6:Obj:=⟨(.type "frame"),none,.plain,#[(some (.ref 407)),(some (.ref 3)),(some (.ref 404)),none,(some (.str "playboard.games" 745)),none,(some (.ref 0))]⟩
def Fs:Obj:=eP #[(.str "self" 762),(.str "board" 763),(.str "kinds" 764),(.str "rules" 765),(.str "turns" 766),(.str "ends" 767),(.str "stuck" 768)] 0
def K5:Obj:=dH "__init__" "Game.__init__" cD
def Fq:Obj:=gu "__init__" "Game.__init__" 759 760 761 204 7 0 3 409 true 181 410 411 412 413 769 204 770
def Fp:Obj:=dI "__init__" "Game.__init__" cD "playboard.games" 745 414
def K4:Obj:=dH "rules_of" "Game.rules_of" cf
def Fo:Obj:=tw #[(.str "rules_of" 772),(.str "Game.rules_of" 773),(iF 774),(aN 222),(aN 2),bo,bo,(aN 3),(.ref 416),(.bool true),(aN 181),(.ref 417),.none,.none,.none,(.ref 418),(aN 775),(aN 222),(iF 776)]
def Fn:Obj:=dI "rules_of" "Game.rules_of" cf "playboard.games" 745 419
def Fm:Obj:=eP #[(.str "self" 781),(.str "kind" 782)] 0
def K3:Obj:=dH "turned" "Game.turned" dj
def Fk:Obj:=gu "turned" "Game.turned" 778 779 780 225 2 0 3 421 true 181 422 423 424 425 783 225 784
def Fj:Obj:=dI "turned" "Game.turned" dj "playboard.games" 745 426
def Fi:Obj:=eP #[(.str "board" 786),(.str "ends" 787),(.str "kinds" 788),(.str "rules" 789),(.str "stuck" 790),(.str "turns" 791)] 0
def Fh:Obj:=⟨(.type "dict"),none,(.dict #[aI P "__module__" 754 (.str "playboard.games" 745),aI P "__firstlineno__" 758 (.int 202 757),aI P "__init__" 771 (.ref 415),aI P "rules_of" 777 (.ref 420),aI P "turned" 785 (.ref 427),aI P "__static_attributes__" 792 (.ref 428),aI P "__dict__" 794 (.ref 431),aI P "__weakref__" 796 (.ref 432),aI P "__doc__" 797 .none] 4),#[]⟩
noncomputable def Fg:Obj:=⟨(.type "type"),none,(.cls ⟨"Game",[(.type "object")],[(.ref 430),(.type "object")],429,"Game",true,[],[],false,none,false⟩),#[none,none,(some (.str "Game" 747)),(some (.str "Game" 755)),(some (.builtin "object.__new__")),(some (.bool true))]⟩
noncomputable def Ff:Obj:=⟨(.type "getset_descriptor"),none,(.fields #[(.str "__dict__" 793),(.ref 430),(.builtin "function.__dict__"),(.builtin "function.__dict__#set")]),#[]⟩
noncomputable def Fe:Obj:=⟨(.type "getset_descriptor"),none,(.fields #[(.str "__weakref__" 795),(.ref 430),(.builtin "ExceptionGroup.__weakref__"),.none]),#[]⟩
def K2:Obj:=⟨(.type "super"),none,(.fields #[(.ref 430),(.ref 430),(.ref 430)]),#[]⟩
def K1:Obj:=⟨(.type "builtin_function_or_method"),none,(.fields #[(.builtin "object.__init_subclass__"),(.ref 430)]),#[]⟩
def Fd:Obj:=eP #[(.str "_law_script" 805),(.str "_law_k" 806)] 0
def K0:Obj:=dH "_law_cell_at" "_law_cell_at" cQ
def Fc:Obj:=gu "_law_cell_at" "_law_cell_at" 802 803 804 228 2 0 3 435 true 181 436 437 438 439 807 228 808
def Fb:Obj:=dI "_law_cell_at" "_law_cell_at" cQ "law_playboard_k14_moves_done" 800 440
def Fa:Obj:=eP #[(.str "_law_cell" 813),(.str "_law_k" 814)] 0
def KZ:Obj:=dH "_law_mixed" "_law_mixed" dU
def E9:Obj:=gu "_law_mixed" "_law_mixed" 810 811 812 232 2 0 3 442 true 181 443 444 445 446 815 232 816
def E8:Obj:=dI "_law_mixed" "_law_mixed" dU "law_playboard_k14_moves_done" 800 447
def E7:Obj:=eP #[(.str "_law_thing" 821)] 0
def KY:Obj:=dH "_law_whole" "_law_whole" dS
def E6:Obj:=gu "_law_whole" "_law_whole" 818 819 820 234 1 0 3 449 true 181 450 451 452 453 822 234 823
def E5:Obj:=dI "_law_whole" "_law_whole" dS "law_playboard_k14_moves_done" 800 454
def E4:Obj:=eP #[(.str "_law_script" 828),(.str "_law_cell" 829),(.str "_law_wide" 830),(.str "_law_high" 831),(.str "_law_holes" 832),(.str "_law_k" 833),(.str "_law_hole" 834)] 0
def KW:Obj:=dH "_law_board" "_law_board" dW
def E3:Obj:=gu "_law_board" "_law_board" 825 826 827 236 1 0 3 456 true 181 457 458 459 460 835 236 836
def E2:Obj:=dI "_law_board" "_law_board" dW "law_playboard_k14_moves_done" 800 461
def KU:Obj:=dH "_law_kinds" "_law_kinds" da
def E1:Obj:=tw #[(.str "_law_kinds" 838),(.str "_law_kinds" 839),(iF 840),(aN 250),(aN 1),bo,bo,(aN 3),(.ref 463),(.bool true),(aN 181),(.ref 464),.none,.none,.none,(.ref 465),(aN 841),(aN 250),(iF 842)]
def EZ:Obj:=dI "_law_kinds" "_law_kinds" da "law_playboard_k14_moves_done" 800 466
def EY:Obj:=eP #[(.str "_law_cell" 847),(.str "_law_kinds_here" 848),(.str "_law_more" 849),(.str "_law_sort" 850),(.str "_law_aim" 851),(.str "_law_reach" 852),(.str "_law_across" 853),(.str "_law_up" 854)] 0
def KT:Obj:=dH "_law_rule" "_law_rule" fB
def EX:Obj:=gu "_law_rule" "_law_rule" 844 845 846 254 2 0 3 468 true 181 469 470 471 472 855 254 856
def EW:Obj:=dI "_law_rule" "_law_rule" fB "law_playboard_k14_moves_done" 800 473
def KS:Obj:=dH "_law_turns" "_law_turns" cY
def EV:Obj:=tw #[(.str "_law_turns" 858),(.str "_law_turns" 859),(iF 860),(aN 268),(aN 2),bo,bo,(aN 3),(.ref 475),(.bool true),(aN 181),(.ref 476),.none,.none,.none,(.ref 477),(aN 861),(aN 268),(iF 862)]
def EU:Obj:=dI "_law_turns" "_law_turns" cY "law_playboard_k14_moves_done" 800 478
def ET:Obj:=eP #[(.str "_law_script" 867),(.str "_law_wide" 868),(.str "_law_high" 869),(.str "_law_holes" 870),(.str "_law_kinds_here" 871),(.str "_law_cell" 872),(.str "_law_rules" 873),(.str "_law_k" 874),(.str "_law_turns_here" 875),(.str "_law_ends" 876),(.str "_law_more" 877),(.str "_law_stuck" 878)] 0
def KR:Obj:=dH "_law_game" "_law_game" fC
def ES:Obj:=gu "_law_game" "_law_game" 864 865 866 275 1 0 3 480 true 181 481 482 483 484 879 275 880
def ER:Obj:=dI "_law_game" "_law_game" fC "law_playboard_k14_moves_done" 800 485
def KQ:Obj:=dH "_law_row" "_law_row" cz
def EQ:Obj:=tw #[(.str "_law_row" 882),(.str "_law_row" 883),(iF 884),(aN 290),(aN 3),bo,bo,(aN 3),(.ref 487),(.bool true),(aN 181),(.ref 488),.none,.none,.none,(.ref 489),(aN 885),(aN 290),(iF 886)]
def EO:Obj:=dI "_law_row" "_law_row" cz "law_playboard_k14_moves_done" 800 490
def EN:Obj:=eP #[(.str "_law_sign" 891)] 0
def KP:Obj:=dH "_law_side" "_law_side" fA
def EM:Obj:=gu "_law_side" "_law_side" 888 889 890 306 1 0 3 492 true 181 493 494 495 496 892 306 893
def EL:Obj:=dI "_law_side" "_law_side" fA "law_playboard_k14_moves_done" 800 497
def EK:Obj:=eP #[(.str "_law_game_here" 898),(.str "_law_square" 899),(.str "_law_across" 900),(.str "_law_up" 901),(.str "_law_column" 902),(.str "_law_row_here" 903),(.str "_law_goal" 904)] 0
def KO:Obj:=dH "_law_step" "_law_step" fv
def EJ:Obj:=gu "_law_step" "_law_step" 895 896 897 310 4 0 3 499 true 181 500 501 502 503 905 310 906
def EI:Obj:=dI "_law_step" "_law_step" fv "law_playboard_k14_moves_done" 800 504
def EH:Obj:=eP #[(.str "_law_game_here" 911),(.str "_law_row_here" 912),(.str "_law_square" 913),(.str "_law_rule_here" 914),(.str "_law_side_here" 915),(.str "_law_across" 916),(.str "_law_up" 917),(.str "_law_goal" 918),(.str "_law_found" 919),(.str "_law_behind_here" 920)] 0
def KN:Obj:=dH "_law_by_rule" "_law_by_rule" cR
def EG:Obj:=gu "_law_by_rule" "_law_by_rule" 908 909 910 317 4 0 3 506 true 181 507 508 509 510 921 317 922
def EF:Obj:=dI "_law_by_rule" "_law_by_rule" cR "law_playboard_k14_moves_done" 800 511
def KM:Obj:=dH "_law_goals" "_law_goals" db
def EE:Obj:=tw #[(.str "_law_goals" 924),(.str "_law_goals" 925),(iF 926),(aN 337),(aN 3),bo,bo,(aN 3),(.ref 513),(.bool true),(aN 181),(.ref 514),.none,.none,.none,(.ref 515),(aN 927),(aN 337),(iF 928)]
def ED:Obj:=dI "_law_goals" "_law_goals" db "law_playboard_k14_moves_done" 800 516
def KL:Obj:=dH "_law_moves" "_law_moves" cZ
def EC:Obj:=tw #[(.str "_law_moves" 930),(.str "_law_moves" 931),(iF 932),(aN 343),(aN 2),bo,bo,(aN 3),(.ref 518),(.bool true),(aN 181),(.ref 519),.none,.none,.none,(.ref 520),(aN 933),(aN 343),(iF 934)]
def EB:Obj:=dI "_law_moves" "_law_moves" cZ "law_playboard_k14_moves_done" 800 521
def EA:Obj:=eP #[(.str "_law_game_here" 939),(.str "_law_place" 940),(.str "_law_move" 941),(.str "_law_start" 942),(.str "_law_goal" 943),(.str "_law_taken" 944),(.str "_law_kind" 945),(.str "_law_signs" 946)] 0
def KJ:Obj:=dH "_law_behind" "_law_behind" di
def Ez:Obj:=gu "_law_behind" "_law_behind" 936 937 938 349 3 0 3 523 true 181 524 525 526 527 947 349 948
def Ey:Obj:=dI "_law_behind" "_law_behind" di "law_playboard_k14_moves_done" 800 528
def Ex:Obj:=eP #[(.str "_law_found" 953),(.str "_law_cell" 954),(.str "_law_size" 955),(.str "_law_move" 956),(.str "_law_at" 957),(.str "_law_number" 958)] 0
def KI:Obj:=dH "_law_odd" "_law_odd" gc
def Ew:Obj:=gu "_law_odd" "_law_odd" 950 951 952 360 3 0 3 530 true 181 531 532 533 534 959 360 960
def Eu:Obj:=dI "_law_odd" "_law_odd" gc "law_playboard_k14_moves_done" 800 535
def Et:Obj:=eP #[(.str "_law_e" 965),(.str "_law_told" 966)] 0
def KH:Obj:=dH "_law_alone" "_law_alone" dX
def Es:Obj:=gu "_law_alone" "_law_alone" 962 963 964 369 1 0 3 537 true 181 538 539 540 541 967 369 968
def Er:Obj:=dI "_law_alone" "_law_alone" dX "law_playboard_k14_moves_done" 800 542
def Ep:Obj:=eP #[(.str "_law_game_here" 973),(.str "_law_place" 974),(.str "_law_move" 975),(.str "_law_e" 976)] 0
def KG:Obj:=dH "_law_refused" "_law_refused" cO
def Eo:Obj:=gu "_law_refused" "_law_refused" 970 971 972 374 3 0 3 544 true 181 545 546 547 548 977 374 978
def En:Obj:=dI "_law_refused" "_law_refused" cO "law_playboard_k14_moves_done" 800 549
def Em:Obj:=eP #[(.str "_law_game_here" 983),(.str "_law_place" 984),(.str "_law_move" 985),(.str "_law_found" 986)] 0
def KD:Obj:=dH "_law_done" "_law_done" fE
def Ek:Obj:=gu "_law_done" "_law_done" 980 981 982 380 3 0 3 551 true 181 552 553 554 555 987 380 988
def Ej:Obj:=dI "_law_done" "_law_done" fE "law_playboard_k14_moves_done" 800 556
def KC:Obj:=dH "law" "law" jf
def Ei:Obj:=tw #[(.str "law" 990),(.str "law" 991),(iF 992),(aN 385),(aN 1),bo,bo,(aN 3),(.ref 558),(.bool true),(aN 181),(.ref 559),.none,.none,.none,(.ref 560),(aN 993),(aN 385),(iF 994)]
def Eh:Obj:=dI "law" "law" jf "law_playboard_k14_moves_done" 800 561
end
noncomputable def hK(P:Pw):Frag:=(nat_lit 2,UW P)::(nat_lit 3,Ft P)::(nat_lit 15,CT)::(nat_lit 22,aj)::(nat_lit 23,CS P)::(nat_lit 24,tD)::(nat_lit 25,CQ)::(nat_lit 28,cW)::(nat_lit 35,aj)::(nat_lit 36,CP P)::(nat_lit 37,CO)::(nat_lit 40,cW)::(nat_lit 47,aj)::(nat_lit 48,CN P)::(nat_lit 49,CM)::(nat_lit 52,cW)::(nat_lit 59,aj)::(nat_lit 61,CK)::(nat_lit 62,aj)::(nat_lit 64,CJ)::(nat_lit 65,CI)::(nat_lit 66,CH)::(nat_lit 67,CG P)::(nat_lit 68,CF)::(nat_lit 71,cW)::(nat_lit 78,aj)::(nat_lit 79,CD P)::(nat_lit 80,CC)::(nat_lit 83,cW)::(nat_lit 90,aj)::(nat_lit 91,Cz P)::(nat_lit 92,Cy)::(nat_lit 95,cW)::(nat_lit 102,aj)::(nat_lit 103,vq P)::(nat_lit 104,vp)::(nat_lit 107,cW)::(nat_lit 114,aj)::(nat_lit 115,vo P)::(nat_lit 116,vn)::(nat_lit 119,cW)::(nat_lit 126,aj)::(nat_lit 127,zY P)::(nat_lit 128,zX)::(nat_lit 131,cW)::(nat_lit 138,aj)::(nat_lit 139,zW P)::(nat_lit 140,zV)::(nat_lit 143,aj)::(nat_lit 145,zU)::(nat_lit 146,aj)::(nat_lit 148,zT)::(nat_lit 149,zS)::(nat_lit 150,aj)::(nat_lit 152,zR)::(nat_lit 153,aj)::(nat_lit 155,zQ)::(nat_lit 156,zP)::(nat_lit 157,aj)::(nat_lit 159,zO)::(nat_lit 160,aj)::(nat_lit 162,zN)::(nat_lit 163,zM)::(nat_lit 164,zL)::(nat_lit 165,zK)::(nat_lit 166,zJ)::(nat_lit 167,zI)::(nat_lit 168,aj)::(nat_lit 170,zH)::(nat_lit 171,aj)::(nat_lit 173,zG)::(nat_lit 174,zF)::(nat_lit 175,aj)::(nat_lit 177,zE)::(nat_lit 178,aj)::(nat_lit 180,zD)::(nat_lit 181,zC)::(nat_lit 182,aj)::(nat_lit 184,zB)::(nat_lit 185,aj)::(nat_lit 187,zA)::(nat_lit 188,zy)::(nat_lit 189,aj)::(nat_lit 191,zx)::(nat_lit 192,aj)::(nat_lit 194,zw)::(nat_lit 195,zv)::(nat_lit 196,aj)::(nat_lit 198,zu)::(nat_lit 199,aj)::(nat_lit 201,zt)::(nat_lit 202,zr)::(nat_lit 203,aj)::(nat_lit 205,zq)::(nat_lit 206,aj)::(nat_lit 208,zp)::(nat_lit 209,zo)::(nat_lit 210,aj)::(nat_lit 213,zn)::(nat_lit 214,zm)::(nat_lit 215,aj)::(nat_lit 218,zk)::(nat_lit 219,zj)::(nat_lit 220,aj)::(nat_lit 222,zi)::(nat_lit 223,aj)::(nat_lit 225,zh)::(nat_lit 226,zg)::(nat_lit 227,aj)::(nat_lit 230,zf)::(nat_lit 231,zd)::(nat_lit 232,aj)::(nat_lit 235,zc)::(nat_lit 236,zb)::(nat_lit 237,aj)::(nat_lit 239,y9)::(nat_lit 240,aj)::(nat_lit 242,y8)::(nat_lit 243,y7)::(nat_lit 244,aj)::(nat_lit 246,y6)::(nat_lit 247,aj)::(nat_lit 249,y4)::(nat_lit 250,y3)::(nat_lit 251,aj)::(nat_lit 253,y0)::(nat_lit 254,aj)::(nat_lit 256,yZ)::(nat_lit 257,yY)::(nat_lit 258,aj)::(nat_lit 260,yX)::(nat_lit 261,aj)::(nat_lit 263,yW)::(nat_lit 264,yV)::(nat_lit 265,aj)::(nat_lit 268,yU)::(nat_lit 269,yT)::(nat_lit 270,aj)::(nat_lit 272,yS)::(nat_lit 273,aj)::(nat_lit 275,yR)::(nat_lit 276,yQ)::(nat_lit 277,aj)::(nat_lit 279,yO)::(nat_lit 280,aj)::(nat_lit 282,yN)::(nat_lit 283,yM)::(nat_lit 284,aj)::(nat_lit 286,yL)::(nat_lit 287,aj)::(nat_lit 289,yJ)::(nat_lit 290,yI)::(nat_lit 291,aj)::(nat_lit 293,yH)::(nat_lit 294,aj)::(nat_lit 296,yG)::(nat_lit 297,yF)::(nat_lit 298,aj)::(nat_lit 300,yE)::(nat_lit 301,aj)::(nat_lit 303,yD)::(nat_lit 304,yB)::(nat_lit 305,aj)::(nat_lit 307,yz)::(nat_lit 308,aj)::(nat_lit 310,yy)::(nat_lit 311,yx)::(nat_lit 312,aj)::(nat_lit 314,yv)::(nat_lit 315,aj)::(nat_lit 317,yu)::(nat_lit 318,yt)::(nat_lit 319,aj)::(nat_lit 321,yr)::(nat_lit 322,aj)::(nat_lit 324,yq)::(nat_lit 325,yp)::(nat_lit 326,aj)::(nat_lit 329,yo)::(nat_lit 330,yn)::(nat_lit 331,aj)::(nat_lit 333,ym)::(nat_lit 334,aj)::(nat_lit 336,yk)::(nat_lit 337,yj)::(nat_lit 338,aj)::(nat_lit 340,yi)::(nat_lit 341,aj)::(nat_lit 343,yh)::(nat_lit 344,yg)::(nat_lit 345,aj)::(nat_lit 347,yf)::(nat_lit 348,aj)::(nat_lit 350,yd)::(nat_lit 351,yb)::(nat_lit 352,aj)::(nat_lit 355,ya)::(nat_lit 356,x9)::(nat_lit 364,aj)::(nat_lit 367,FM)::(nat_lit 368,FL)::(nat_lit 369,aj)::(nat_lit 371,FK)::(nat_lit 372,aj)::(nat_lit 374,FJ)::(nat_lit 375,FI)::(nat_lit 376,aj)::(nat_lit 379,FH)::(nat_lit 380,FG)::(nat_lit 381,aj)::(nat_lit 383,FF)::(nat_lit 384,aj)::(nat_lit 386,FE)::(nat_lit 387,FD)::(nat_lit 388,aj)::(nat_lit 390,FC)::(nat_lit 391,aj)::(nat_lit 393,FA)::(nat_lit 394,Fz)::(nat_lit 395,Fy)::(nat_lit 396,Fx P)::(nat_lit 397,Fw)::(nat_lit 398,Fv)::(nat_lit 399,Fu)::(nat_lit 409,aj)::(nat_lit 411,Fs)::(nat_lit 412,aj)::(nat_lit 414,Fq)::(nat_lit 415,Fp)::(nat_lit 416,aj)::(nat_lit 419,Fo)::(nat_lit 420,Fn)::(nat_lit 421,aj)::(nat_lit 423,Fm)::(nat_lit 424,aj)::(nat_lit 426,Fk)::(nat_lit 427,Fj)::(nat_lit 428,Fi)::(nat_lit 429,Fh P)::(nat_lit 430,Fg)::(nat_lit 431,Ff)::(nat_lit 432,Fe)::(nat_lit 435,aj)::(nat_lit 437,Fd)::(nat_lit 438,aj)::(nat_lit 440,Fc)::(nat_lit 441,Fb)::(nat_lit 442,aj)::(nat_lit 444,Fa)::(nat_lit 445,aj)::(nat_lit 447,E9)::(nat_lit 448,E8)::(nat_lit 449,aj)::(nat_lit 451,E7)::(nat_lit 452,aj)::(nat_lit 454,E6)::(nat_lit 455,E5)::(nat_lit 456,aj)::(nat_lit 458,E4)::(nat_lit 459,aj)::(nat_lit 461,E3)::(nat_lit 462,E2)::(nat_lit 463,aj)::(nat_lit 466,E1)::(nat_lit 467,EZ)::(nat_lit 468,aj)::(nat_lit 470,EY)::(nat_lit 471,aj)::(nat_lit 473,EX)::(nat_lit 474,EW)::(nat_lit 475,aj)::(nat_lit 478,EV)::(nat_lit 479,EU)::(nat_lit 480,aj)::(nat_lit 482,ET)::(nat_lit 483,aj)::(nat_lit 485,ES)::(nat_lit 486,ER)::(nat_lit 487,aj)::(nat_lit 490,EQ)::(nat_lit 491,EO)::(nat_lit 492,aj)::(nat_lit 494,EN)::(nat_lit 495,aj)::(nat_lit 497,EM)::(nat_lit 498,EL)::(nat_lit 499,aj)::(nat_lit 501,EK)::(nat_lit 502,aj)::(nat_lit 504,EJ)::(nat_lit 505,EI)::(nat_lit 506,aj)::(nat_lit 508,EH)::(nat_lit 509,aj)::(nat_lit 511,EG)::(nat_lit 512,EF)::(nat_lit 513,aj)::(nat_lit 516,EE)::(nat_lit 517,ED)::(nat_lit 518,aj)::(nat_lit 521,EC)::(nat_lit 522,EB)::(nat_lit 523,aj)::(nat_lit 525,EA)::(nat_lit 526,aj)::(nat_lit 528,Ez)::(nat_lit 529,Ey)::(nat_lit 530,aj)::(nat_lit 532,Ex)::(nat_lit 533,aj)::(nat_lit 535,Ew)::(nat_lit 536,Eu)::(nat_lit 537,aj)::(nat_lit 539,Et)::(nat_lit 540,aj)::(nat_lit 542,Es)::(nat_lit 543,Er)::(nat_lit 544,aj)::(nat_lit 546,Ep)::(nat_lit 547,aj)::(nat_lit 549,Eo)::(nat_lit 550,En)::(nat_lit 551,aj)::(nat_lit 553,Em)::(nat_lit 554,aj)::(nat_lit 556,Ek)::(nat_lit 557,Ej)::(nat_lit 558,aj)::(nat_lit 561,Ei)::(nat_lit 562,Eh)::[]
noncomputable def hA:List Addr:=nat_lit 2::nat_lit 3::nat_lit 15::nat_lit 22::nat_lit 23::nat_lit 24::nat_lit 25::nat_lit 28::nat_lit 35::nat_lit 36::nat_lit 37::nat_lit 40::nat_lit 47::nat_lit 48::nat_lit 49::nat_lit 52::nat_lit 59::nat_lit 61::nat_lit 62::nat_lit 64::nat_lit 65::nat_lit 66::nat_lit 67::nat_lit 68::nat_lit 71::nat_lit 78::nat_lit 79::nat_lit 80::nat_lit 83::nat_lit 90::nat_lit 91::nat_lit 92::nat_lit 95::nat_lit 102::nat_lit 103::nat_lit 104::nat_lit 107::nat_lit 114::nat_lit 115::nat_lit 116::nat_lit 119::nat_lit 126::nat_lit 127::nat_lit 128::nat_lit 131::nat_lit 138::nat_lit 139::nat_lit 140::nat_lit 143::nat_lit 145::nat_lit 146::nat_lit 148::nat_lit 149::nat_lit 150::nat_lit 152::nat_lit 153::nat_lit 155::nat_lit 156::nat_lit 157::nat_lit 159::nat_lit 160::nat_lit 162::nat_lit 163::nat_lit 164::nat_lit 165::nat_lit 166::nat_lit 167::nat_lit 168::nat_lit 170::nat_lit 171::nat_lit 173::nat_lit 174::nat_lit 175::nat_lit 177::nat_lit 178::nat_lit 180::nat_lit 181::nat_lit 182::nat_lit 184::nat_lit 185::nat_lit 187::nat_lit 188::nat_lit 189::nat_lit 191::nat_lit 192::nat_lit 194::nat_lit 195::nat_lit 196::nat_lit 198::nat_lit 199::nat_lit 201::nat_lit 202::nat_lit 203::nat_lit 205::nat_lit 206::nat_lit 208::nat_lit 209::nat_lit 210::nat_lit 213::nat_lit 214::nat_lit 215::nat_lit 218::nat_lit 219::nat_lit 220::nat_lit 222::nat_lit 223::nat_lit 225::nat_lit 226::nat_lit 227::nat_lit 230::nat_lit 231::nat_lit 232::nat_lit 235::nat_lit 236::nat_lit 237::nat_lit 239::nat_lit 240::nat_lit 242::nat_lit 243::nat_lit 244::nat_lit 246::nat_lit 247::nat_lit 249::nat_lit 250::nat_lit 251::nat_lit 253::nat_lit 254::nat_lit 256::nat_lit 257::nat_lit 258::nat_lit 260::nat_lit 261::nat_lit 263::nat_lit 264::nat_lit 265::nat_lit 268::nat_lit 269::nat_lit 270::nat_lit 272::nat_lit 273::nat_lit 275::nat_lit 276::nat_lit 277::nat_lit 279::nat_lit 280::nat_lit 282::nat_lit 283::nat_lit 284::nat_lit 286::nat_lit 287::nat_lit 289::nat_lit 290::nat_lit 291::nat_lit 293::nat_lit 294::nat_lit 296::nat_lit 297::nat_lit 298::nat_lit 300::nat_lit 301::nat_lit 303::nat_lit 304::nat_lit 305::nat_lit 307::nat_lit 308::nat_lit 310::nat_lit 311::nat_lit 312::nat_lit 314::nat_lit 315::nat_lit 317::nat_lit 318::nat_lit 319::nat_lit 321::nat_lit 322::nat_lit 324::nat_lit 325::nat_lit 326::nat_lit 329::nat_lit 330::nat_lit 331::nat_lit 333::nat_lit 334::nat_lit 336::nat_lit 337::nat_lit 338::nat_lit 340::nat_lit 341::nat_lit 343::nat_lit 344::nat_lit 345::nat_lit 347::nat_lit 348::nat_lit 350::nat_lit 351::nat_lit 352::nat_lit 355::nat_lit 356::nat_lit 364::nat_lit 367::nat_lit 368::nat_lit 369::nat_lit 371::nat_lit 372::nat_lit 374::nat_lit 375::nat_lit 376::nat_lit 379::nat_lit 380::nat_lit 381::nat_lit 383::nat_lit 384::nat_lit 386::nat_lit 387::nat_lit 388::nat_lit 390::nat_lit 391::nat_lit 393::nat_lit 394::nat_lit 395::nat_lit 396::nat_lit 397::nat_lit 398::nat_lit 399::nat_lit 409::nat_lit 411::nat_lit 412::nat_lit 414::nat_lit 415::nat_lit 416::nat_lit 419::nat_lit 420::nat_lit 421::nat_lit 423::nat_lit 424::nat_lit 426::nat_lit 427::nat_lit 428::nat_lit 429::nat_lit 430::nat_lit 431::nat_lit 432::nat_lit 435::nat_lit 437::nat_lit 438::nat_lit 440::nat_lit 441::nat_lit 442::nat_lit 444::nat_lit 445::nat_lit 447::nat_lit 448::nat_lit 449::nat_lit 451::nat_lit 452::nat_lit 454::nat_lit 455::nat_lit 456::nat_lit 458::nat_lit 459::nat_lit 461::nat_lit 462::nat_lit 463::nat_lit 466::nat_lit 467::nat_lit 468::nat_lit 470::nat_lit 471::nat_lit 473::nat_lit 474::nat_lit 475::nat_lit 478::nat_lit 479::nat_lit 480::nat_lit 482::nat_lit 483::nat_lit 485::nat_lit 486::nat_lit 487::nat_lit 490::nat_lit 491::nat_lit 492::nat_lit 494::nat_lit 495::nat_lit 497::nat_lit 498::nat_lit 499::nat_lit 501::nat_lit 502::nat_lit 504::nat_lit 505::nat_lit 506::nat_lit 508::nat_lit 509::nat_lit 511::nat_lit 512::nat_lit 513::nat_lit 516::nat_lit 517::nat_lit 518::nat_lit 521::nat_lit 522::nat_lit 523::nat_lit 525::nat_lit 526::nat_lit 528::nat_lit 529::nat_lit 530::nat_lit 532::nat_lit 533::nat_lit 535::nat_lit 536::nat_lit 537::nat_lit 539::nat_lit 540::nat_lit 542::nat_lit 543::nat_lit 544::nat_lit 546::nat_lit 547::nat_lit 549::nat_lit 550::nat_lit 551::nat_lit 553::nat_lit 554::nat_lit 556::nat_lit 557::nat_lit 558::nat_lit 561::nat_lit 562::[]
noncomputable def hE:QK:={scope:=hP.main.scope,locals:=mainNs,globals:=mainNs,cells:=[],code:=(.ref 13),frame:=some 14}
noncomputable def hB:List N6:=PySem.W.behindTheImports hP
noncomputable abbrev hC:Code:=.body hB hE
noncomputable abbrev hN:Option Value:=(some (.ref 6))
noncomputable abbrev hF:List Frame:=[PySem.W.topFrame ⟨0,0,0,0⟩]
noncomputable def hS(w:NT)(os:OS):NN:=⟨UX w.params,Array.mk [],PySem.W.boot_drawn,PySem.W.boot_toks,os⟩
noncomputable def Me(w:NT)(os:OS):NN:=(PySem.W.topGo N3 hP w 11 hN 12 (hS w os) (Vn hP)).elim (hS w os) λx=>x.1
noncomputable def Md(w:NT)(os:OS):PySem.W.SharedT:=toT ((Vo N3 hP w 11 hN 1 1 (Me w os) (Vp hB hE hC ⟨0,0,0,0⟩ hF)).elim (Me w os) λx=>x.2.1)
theorem hpre(w:NT)(os:OS):PySem.W.topGo N3 hP w 11 hN 12 (hS w os) (Vn hP)=some (Me w os,⟨denote N3 hC,hC,⟨0,0,0,0⟩,hF⟩):=by kernel_rfl
theorem Nh(w:NT)(os:OS):Vo N3 hP w 11 hN 1 1 (Me w os) (Vp hB hE hC ⟨0,0,0,0⟩ hF)=some (.next,(Md w os).abs,hC,⟨0,0,0,0⟩):=by kernel_rfl
noncomputable def hL1(P:Pw):PySem.W.BT:=aq (U2 P) (aq (U3 P) (aq (zo3 P) (aq (U4 P) (aq CT (aq aj (ay HR) (ay cW)) (aq aj (ay (CD P)) (ay aL))) (aq (CS P) (aq Ic (ay cW) (ay (vq P))) (aq aj (ay aL) .nil))) (aq aj (aq aL (aq aj (ay (CG P)) (ay aL)) (aq HX (ay cW) (ay (vo P)))) (aq Ij (aq aj (ay aL) (ay cW)) (aq aj (ay (Cz P)) .nil)))) (aq (U5 P) (aq (U6 P) (aq (Io P) (aq Ih (ay CI) (ay (HD P))) (aq CM (ay HK) (ay Ab))) (aq CQ (aq dJ (ay (HN P)) (ay Af)) (aq HU (ay HG) .nil))) (aq Iq (aq Il (aq CO (ay HQ) (ay Ag)) (aq dJ (ay (HI P)) (ay Aa))) (aq dJ (aq Ia (ay HL) (ay (Ad P))) (aq CK (ay HF) .nil))))) (aq (UW P) (aq (U7 P) (aq (U8 P) (aq dJ (aq aL (ay CJ) (ay dJ)) (aq (CN P) (ay CC) (ay Ac))) (aq MW (aq cW (ay dJ) (ay vp)) (aq HV (ay HH) .nil))) (aq MX (aq Im (aq (CP P) (ay CF) (ay Ah)) (aq cW (ay dJ) (ay vn))) (aq cW (aq aL (ay HM) (ay dJ)) (aq aL (ay Cy) .nil)))) (aq (U9 P) (aq (Va P) (aq aj (aq Ig (ay CH) (ay aj)) (aq HY (ay HJ) (ay aj))) (aq Ik (aq (Ib P) (ay aj) (ay Ae)) (aq HS (ay aj) .nil))) (aq Ip (aq aj (aq Ie (ay HP) (ay aj)) (aq (HW P) (ay aj) (ay zZ))) (aq (Ii P) (aq HZ (ay aj) (ay aj)) (aq aj (ay HE) .nil)))))
noncomputable def hG1(w:NT)(os:OS):PySem.W.SharedT:=M2 (hL1 w.params) 119 328 w.params os
noncomputable def hT1:List N6:=(hB.drop 0).take 9
theorem Ma(w:NT):(λos=>Vb N3 hP w 11 hN 1 1719 (Md w os) ⟨(execs hT1 hE).wrap UR Vc id id,hC,⟨0,0,0,0⟩,hF⟩)=λos=>some (Flow.next,(hG1 w os),hC,⟨19,0,20,8⟩):=by
 rw[PySem.W.Fast.te10110043849684766642,PySem.W.Fast.te12563942051412417395,PySem.W.Fast.te14364793385576792824]
 kernel_rfl
noncomputable def hL2(P:Pw):PySem.W.BT:=aq (U2 P) (aq (U3 P) (aq (Ld P) (aq (U4 P) (aq CT (aq aj (aq HR (aq (zY P) (ay Gb) .nil) (aq zx (ay aj) .nil)) (aq cW (aq zO (ay aj) .nil) (aq aj (ay yb) .nil))) (aq aj (aq (CD P) (aq aj (ay aL) .nil) (aq Gj (ay FQ) .nil)) (aq aL (aq aj (ay yD) .nil) (ay y9)))) (aq (CS P) (aq Ic (aq cW (aq aL (ay yW) .nil) (aq aj (ay aL) .nil)) (aq (vq P) (aq zI (ay FW) .nil) (ay zd))) (aq aj (aq aL (aq aL (ay yO) .nil) (aq aj (ay yh) .nil)) (aq cW (aq aL (ay yx) .nil) (ay aj))))) (aq aj (aq aL (aq aj (aq (CG P) (aq cW (ay aL) .nil) (aq zv (ay FS) .nil)) (aq aL (aq zM (ay aj) .nil) (aq aj (ay ya) .nil))) (aq HX (aq cW (aq Gs (ay yR) .nil) (aq aL (ay aL) .nil)) (aq (vo P) (aq Go (ay yz) .nil) (ay y7)))) (aq Ij (aq aj (aq aL (aq (zW P) (ay F0) .nil) (aq aj (ay aj) .nil)) (aq cW (aq aj (ay aL) .nil) (ay zc))) (aq aj (aq (Cz P) (aq zQ (ay yM) .nil) (aq zj (ay yf) .nil)) (aq aL (aq zA (ay aj) .nil) (ay aj)))))) (aq (U5 P) (aq (U6 P) (aq (Io P) (aq Ih (aq CI (aq GA (ay yY) .nil) (aq Gm (ay yr) .nil)) (aq (HD P) (aq Gq (ay yJ) .nil) (aq zh (ay aL) .nil))) (aq CM (aq HK (aq zU (ay aj) .nil) (aq zo (ay yj) .nil)) (aq Ab (aq zE (ay aj) .nil) (ay Gd)))) (aq CQ (aq dJ (aq (HN P) (aq Gw (ay aj) .nil) (aq zt (ay yo) .nil)) (aq Af (aq aL (ay yF) .nil) (ay aL))) (aq HU (aq HG (aq aj (ay FY) .nil) (aq Gh (ay aj) .nil)) (aq (GE P) (aq aj (ay aL) .nil) (ay y4))))) (aq Iq (aq Il (aq CO (aq HQ (aq (Gy P) (ay aj) .nil) (aq aL (ay yp) .nil)) (aq Ag (aq zK (ay yH) .nil) (ay Gf))) (aq dJ (aq (HI P) (aq zS (ay aj) .nil) (aq zn (ay aj) .nil)) (aq Aa (aq zC (ay FU) .nil) (ay aL)))) (aq dJ (aq Ia (aq HL (aq Gv (ay yT) .nil) (aq zq (ay ym) .nil)) (aq (Ad P) (aq zG (ay aj) .nil) (ay aj))) (aq CK (aq HF (aq aj (ay aL) .nil) (aq aL (ay FO) .nil)) (aq GB (aq aj (ay yu) .nil) (ay y0))))))) (aq (UW P) (aq (U7 P) (aq (U8 P) (aq dJ (aq aL (aq CJ (aq zX (ay yZ) .nil) (aq aj (ay aL) .nil)) (aq dJ (aq aj (ay FX) .nil) (aq Gg (ay aj) .nil))) (aq (CN P) (aq CC (aq aL (ay yS) .nil) (aq zp (ay yk) .nil)) (aq Ac (aq aL (ay yB) .nil) (ay aj)))) (aq tD (aq cW (aq dJ (aq Gx (ay yV) .nil) (aq Gk (ay FR) .nil)) (aq vp (aq aj (ay yG) .nil) (ay aj))) (aq HV (aq HH (aq zR (ay aj) .nil) (aq aL (ay yg) .nil)) (aq dJ (aq zB (ay aj) .nil) (ay Gc))))) (aq Iu (aq Im (aq (CP P) (aq CF (aq dJ (ay yX) .nil) (aq aj (ay yq) .nil)) (aq Ah (aq zL (ay aL) .nil) (aq aL (ay x9) .nil))) (aq cW (aq dJ (aq zT (ay yQ) .nil) (aq Gi (ay yi) .nil)) (aq vn (aq zD (ay aj) .nil) (ay aj)))) (aq cW (aq aL (aq HM (aq zV (ay yU) .nil) (aq aL (ay aL) .nil)) (aq dJ (aq Gp (ay yE) .nil) (ay zb))) (aq aL (aq Cy (aq zP (ay aj) .nil) (aq aj (ay aj) .nil)) (aq GD (aq zy (ay FT) .nil) (ay aL)))))) (aq (U9 P) (aq (Va P) (aq aj (aq Ig (aq CH (aq Gz (ay aj) .nil) (aq zw (ay aj) .nil)) (aq aj (aq zN (ay yI) .nil) (aq zg (ay FN) .nil))) (aq HY (aq HJ (aq aj (ay FZ) .nil) (aq aj (ay aj) .nil)) (aq aj (aq aj (ay aL) .nil) (ay y8)))) (aq Ik (aq (Ib P) (aq aj (aq aj (ay aL) .nil) (aq zr (ay yn) .nil)) (aq Ae (aq zH (ay aj) .nil) (ay Ge))) (aq HS (aq aj (aq Gr (ay yN) .nil) (aq zk (ay aL) .nil)) (aq aj (aq Gn (ay yv) .nil) (ay y3))))) (aq Ip (aq aj (aq Ie (aq HP (aq aj (ay Ga) .nil) (aq zu (ay aj) .nil)) (aq aj (aq zJ (ay aj) .nil) (ay zf))) (aq (HW P) (aq aj (aq aj (ay aL) .nil) (aq zm (ay FP) .nil)) (aq zZ (aq aj (ay yy) .nil) (ay y6)))) (aq (Ii P) (aq HZ (aq aj (aq Gu (ay aj) .nil) (aq aj (ay aj) .nil)) (aq aj (aq zF (ay FV) .nil) (ay aL))) (aq aj (aq HE (aq aL (ay yL) .nil) (aq zi (ay yd) .nil)) (aq aj (aq aL (ay yt) .nil) (ay aj)))))))
noncomputable def hG2(w:NT)(os:OS):PySem.W.SharedT:=M2 (hL2 w.params) 357 680 w.params os
noncomputable def hT2:List N6:=(hB.drop 9).take 53
theorem L9(w:NT):(λos=>Vb N3 hP w 11 hN 1 1582 (hG1 w os) ⟨(execs hT2 hE).wrap UR Vc id id,hC,⟨19,0,20,8⟩,hF⟩)=λos=>some (Flow.next,(hG2 w os),hC,⟨167,0,172,40⟩):=by
 rw[PySem.W.Fast.te10110043849684766642,PySem.W.Fast.te12563942051412417395,PySem.W.Fast.te14364793385576792824]
 kernel_rfl
noncomputable def hL3(P:Pw):PySem.W.BT:=aq (U2 P) (aq (U3 P) (aq (Ft P) (aq (U4 P) (aq CT (aq aj (aq HR (aq (zY P) (aq Gb (ay EG) .nil) (ay FF)) (aq zx (ay aj) (ay E9))) (aq cW (aq zO (aq aj (ay Er) .nil) (ay Fp)) (aq aj (ay yb) (ay EU)))) (aq aj (aq (CD P) (aq aj (aq aL (ay KJ) .nil) (ay Fu)) (aq Gj (ay FQ) (ay aj))) (aq aL (aq aj (aq yD (ay aL) .nil) (ay Ff)) (aq y9 (ay FM) (ay aj))))) (aq (CS P) (aq Ic (aq cW (aq aL (aq yW (ay aL) .nil) (ay aj)) (aq aj (ay aL) (ay E5))) (aq (vq P) (aq zI (aq FW (ay aj) .nil) (ay Fm)) (aq zd (ay (Lm P)) (ay aj)))) (aq aj (aq aL (aq aL (aq yO (ay Ew) .nil) (ay K7)) (aq aj (ay yh) (ay aj))) (aq cW (aq aL (ay yx) (ay K0)) (aq aj (ay FI) (ay KO)))))) (aq aj (aq aL (aq aj (aq (CG P) (aq cW (aq aL (ay KM) .nil) (ay FD)) (aq zv (ay FS) (ay E7))) (aq aL (aq zM (aq aj (ay aj) .nil) (ay Fo)) (aq aj (ay ya) (ay aj)))) (aq HX (aq cW (aq Gs (aq yR (ay aL) .nil) (ay dJ)) (aq aL (ay aL) (ay EZ))) (aq (vo P) (aq Go (ay yz) (ay aj)) (aq y7 (ay FK) (ay aj))))) (aq Ij (aq aj (aq aL (aq (zW P) (aq F0 (ay aj) .nil) (ay Fy)) (aq aj (ay aj) (ay aj))) (aq cW (aq aj (aq aL (ay KD) .nil) (ay Fj)) (aq zc (ay Lj) (ay EO)))) (aq aj (aq (Cz P) (aq zQ (aq yM (ay Et) .nil) (ay Fs)) (aq zj (ay yf) (ay aj))) (aq aL (aq zA (ay aj) (ay aL)) (aq aj (ay FH) (ay aL))))))) (aq (U5 P) (aq (U6 P) (aq (Io P) (aq Ih (aq CI (aq GA (aq yY (ay aj) .nil) (ay Lf)) (aq Gm (ay yr) (ay aj))) (aq (HD P) (aq Gq (aq yJ (ay aL) .nil) (ay aL)) (aq zh (ay aL) (ay aL)))) (aq CM (aq HK (aq zU (aq aj (ay Ey) .nil) (ay Lb)) (aq zo (ay yj) (ay KU))) (aq Ab (aq zE (aq aj (ay Ei) .nil) (ay K2)) (aq Gd (ay aj) (ay EM))))) (aq CQ (aq dJ (aq (HN P) (aq Gw (aq aj (ay EC) .nil) (ay FA)) (aq zt (ay yo) (ay aL))) (aq Af (aq aL (aq yF (ay Em) .nil) (ay K3)) (aq aL (ay Ll) (ay KQ)))) (aq HU (aq HG (aq aj (aq FY (ay aj) .nil) (ay aj)) (aq Gh (ay aj) (ay EX))) (aq (GE P) (aq aj (ay aL) (ay Fb)) (aq y4 (ay aL) (ay EI)))))) (aq Iq (aq Il (aq CO (aq HQ (aq (Gy P) (aq aj (ay ED) .nil) (ay aL)) (aq aL (ay yp) (ay KY))) (aq Ag (aq zK (aq yH (ay Eo) .nil) (ay aj)) (aq Gf (ay aj) (ay ES)))) (aq dJ (aq (HI P) (aq zS (aq aj (ay aj) .nil) (ay aj)) (aq zn (ay aj) (ay aL))) (aq Aa (aq zC (ay FU) (ay Fd)) (aq aL (ay Lh) (ay EK))))) (aq dJ (aq Ia (aq HL (aq Gv (aq yT (ay EA) .nil) (ay Fw)) (aq zq (ay ym) (ay E3))) (aq (Ad P) (aq zG (aq aj (ay Ej) .nil) (ay (Fh P))) (aq aj (ay aL) (ay aL)))) (aq CK (aq HF (aq aj (aq aL (ay KH) .nil) (ay K5)) (aq aL (ay FO) (ay KS))) (aq GB (aq aj (ay yu) (ay aj)) (aq y0 (ay aj) (ay aj)))))))) (aq (UW P) (aq (U7 P) (aq (U8 P) (aq dJ (aq aL (aq CJ (aq zX (aq yZ (ay EF) .nil) (ay aj)) (aq aj (ay aL) (ay E8))) (aq dJ (aq aj (aq FX (ay aj) .nil) (ay aj)) (aq Gg (ay aj) (ay aj)))) (aq (CN P) (aq CC (aq aL (aq yS (ay Ez) .nil) (ay Lc)) (aq zp (ay yk) (ay aL))) (aq Ac (aq aL (aq yB (ay KC) .nil) (ay Fe)) (aq aj (ay FL) (ay KP))))) (aq tD (aq cW (aq dJ (aq Gx (aq yV (ay KL) .nil) (ay Le)) (aq Gk (ay FR) (ay aj))) (aq vp (aq aj (aq yG (ay aL) .nil) (ay aj)) (aq aj (ay aj) (ay aL)))) (aq HV (aq HH (aq zR (aq aj (ay Eu) .nil) (ay K6)) (aq aL (ay yg) (ay KT))) (aq dJ (aq zB (ay aj) (ay Fc)) (aq Gc (ay aj) (ay EJ)))))) (aq Ir (aq Im (aq (CP P) (aq CF (aq dJ (aq yX (ay EE) .nil) (ay aj)) (aq aj (ay yq) (ay aj))) (aq Ah (aq zL (aq aL (ay KG) .nil) (ay Fn)) (aq aL (ay x9) (ay KR)))) (aq cW (aq dJ (aq zT (aq yQ (ay Ex) .nil) (ay (La P))) (aq Gi (ay yi) (ay aj))) (aq vn (aq zD (ay aj) (ay aL)) (aq aj (ay aj) (ay aL))))) (aq cW (aq aL (aq HM (aq zV (aq yU (ay aL) .nil) (ay (Fx P))) (aq aL (ay aL) (ay KW))) (aq dJ (aq Gp (aq yE (ay Ek) .nil) (ay Fi)) (aq zb (ay aj) (ay aj)))) (aq aL (aq Cy (aq zP (aq aj (ay aj) .nil) (ay aj)) (aq aj (ay aj) (ay aL))) (aq GD (aq zy (ay FT) (ay Fa)) (aq aL (ay FG) (ay EH))))))) (aq (U9 P) (aq (Va P) (aq aj (aq Ig (aq CH (aq Gz (aq aj (ay aL) .nil) (ay FE)) (aq zw (ay aj) (ay aL))) (aq aj (aq zN (aq yI (ay Ep) .nil) (ay K4)) (aq zg (ay FN) (ay ET)))) (aq HY (aq HJ (aq aj (aq FZ (ay aj) .nil) (ay aj)) (aq aj (ay aj) (ay E1))) (aq aj (aq aj (aq aL (ay Eh) .nil) (ay K1)) (aq y8 (ay aL) (ay EL))))) (aq Ik (aq (Ib P) (aq aj (aq aj (aq aL (ay EB) .nil) (ay Fz)) (aq zr (ay yn) (ay E4))) (aq Ae (aq zH (aq aj (ay aj) .nil) (ay Fk)) (aq Ge (ay Lk) (ay EQ)))) (aq HS (aq aj (aq Gr (aq yN (ay aL) .nil) (ay aL)) (aq zk (ay aL) (ay EW))) (aq aj (aq Gn (ay yv) (ay aj)) (aq y3 (ay Lg) (ay aj)))))) (aq Ip (aq aj (aq Ie (aq HP (aq aj (aq Ga (ay aj) .nil) (ay FC)) (aq zu (ay aj) (ay E6))) (aq aj (aq zJ (aq aj (ay En) .nil) (ay aL)) (aq zf (ay dJ) (ay ER)))) (aq (HW P) (aq aj (aq aj (aq aL (ay KI) .nil) (ay K9)) (aq zm (ay FP) (ay EY))) (aq zZ (aq aj (ay yy) (ay aj)) (aq y6 (ay FJ) (ay aj))))) (aq (Ii P) (aq HZ (aq aj (aq Gu (aq aj (ay aj) .nil) (ay Fv)) (aq aj (ay aj) (ay E2))) (aq aj (aq zF (aq FV (ay aj) .nil) (ay Fg)) (aq aL (ay Li) (ay EN)))) (aq aj (aq HE (aq aL (aq yL (ay Es) .nil) (ay Fq)) (aq zi (ay yd) (ay EV))) (aq aj (aq aL (ay yt) (ay KZ)) (aq aj (ay aL) (ay KN))))))))
noncomputable def Ni(w:NT)(os:OS):PySem.W.SharedT:=M2 (hL3 w.params) 563 996 w.params os
noncomputable def hT3:List N6:=(hB.drop 62).take 24
theorem L8(w:NT):(λos=>Vb N3 hP w 11 hN 1 1283 (hG2 w os) ⟨(execs hT3 hE).wrap UR Vc id id,hC,⟨167,0,172,40⟩,hF⟩)=λos=>some (Flow.next,(Ni w os),hC,⟨385,0,399,89⟩):=by
 rw[PySem.W.Fast.te10110043849684766642,PySem.W.Fast.te12563942051412417395,PySem.W.Fast.te14364793385576792824]
 kernel_rfl
noncomputable def DJ(tr:(String->Option OL)->NP->NT->Nat->Option Value->Nat->NN->Thread->Option NN)(tb:String->Option OL)(w:NT)(os:OS):NN:=
 (tr tb hP w 11 hN 2 (Ni w os).abs ⟨UR .next,hC,⟨385,0,399,89⟩,hF⟩).elim (hS w os) id
noncomputable def hX(s:NN):Bool:=PySem.W.xlAt hQ [] s&&PySem.W.recOk (PySem.W.RowW.records PySem.Challenge.rw_playboard_k14_moves_done.row.toRowW) s
theorem Ng(w:NT):(λos=>UE N3 hP w 11 hN 2 (Ni w os).abs ⟨UR .next,hC,⟨385,0,399,89⟩,hF⟩)=λos=>some (DJ UE N3 w os):=by
 rw[PySem.W.Fast.te14364793385576792824,PySem.W.Fast.te14082659384304107361]
 kernel_rfl
theorem JM(w:NT):(λos=>(PySem.W.staticsOk (OD hP.main.body) (UX w.params) (DJ UE N3 w os).heap&&PySem.W.namesBound hP (DJ UE N3 w os).heap&&PySem.W.gensDone (DJ UE N3 w os)&&PySem.W.laidKept (UX w.params) (DJ UE N3 w os).heap))=λos=>true:=by
 rw[PySem.W.Fast.te14364793385576792824,PySem.W.Fast.te14082659384304107361,PySem.W.Fast.te5923862056798008813]
 kernel_rfl
theorem JL(w:NT):(λos=>PySem.W.openSeen hQ [] (OD hP.main.body) hX true (DJ UE N3 w os))=λos=>PySem.W.openGood hQ []:=by
 rw[PySem.W.Fast.te14364793385576792824,PySem.W.Fast.te14082659384304107361,PySem.W.Fast.te4187177175401517315,PySem.W.Fast.te5923862056798008813]
 kernel_rfl
theorem JK(w:NT):(λos=>wd hA (DJ UE N3 w os))=λos=>wc hK w:=by
 rw[PySem.W.Fast.te14364793385576792824,PySem.W.Fast.te14082659384304107361]
 kernel_rfl
theorem hBe:hB=(hT1++(hT2++(hT3++[]))):=by kernel_rfl
theorem Mc(w:NT)(os:OS):UE N3 hP w 11 hN (1719+(1582+(1283+2))) (Md w os).abs (Vq hB hE hC ⟨0,0,0,0⟩ hF)=some (DJ UE N3 w os):=by have r:=PySem.W.piece_nil (env:=hE) (congrFun (Ng w) os);have r:=Vd (Ve (congrFun (L8 w) os)) r;have r:=Vd (Ve (congrFun (L9 w) os)) r;have r:=Vd (Ve (congrFun (Ma w) os)) r;exact(congrArg (λl=>UE N3 hP w 11 hN (1719+(1582+(1283+2))) (Md w os).abs (Vq l hE hC ⟨0,0,0,0⟩ hF)) hBe).trans r
theorem hleft:PySem.W.LeftO hP hQ [] hX (wd hA) (wc hK) 9288:=
 xt (n0:=12) (nb:=1) (n:=(1719+(1582+(1283+2)))) (qp:=⟨0,0,0,0⟩) (p0:=⟨0,0,0,0⟩) (p1:=⟨0,0,0,0⟩) (H₀:=UX) (m₀:=11) (ann:=hN) (b:=hB) (env:=hE) (sa:=Me) (sb:=Md) (sf:=λw os=>(DJ UE N3 w os))
  (PySem.W.boot_open (by kernel_rfl) (by decide+kernel) (λs=>by kernel_rfl)) (λw=>by kernel_rfl) hpre Nh Mc (by decide+kernel) (λw os=>by rw[congrFun (JM w) os,congrFun (JL w) os,congrFun (JK w) os])
theorem mC(P:NP)(w:NT)(Ny:NZ){K:Frag}{h:NZ}{mg:NH}{name q:Str}{st:N6}{ps:List Str}{k:Nat}{sp:Sp}{f:Addr}{fd:NV}(X:K.In h)(G:h.Ns NM mg)(a:Uy K NM name=some (some (.ref f)))(F:bB K name q st f fd)(b:gG K fd ps [])(o:bg P w K mg Ny cV k f fd ps sp):dg P w K mg Ny name ps k sp:=⟨f,_,o,UA X G a,F.kp,b⟩
noncomputable abbrev ζL(o:Value)(d:Option Addr)(a b:Str)(s:N6)(k c p:Value)(n:Option Addr)(e t:Value)(l:Array (Option Value)):Obj:=⟨o,d,.func (UI a b (gD s) (eE s) (ao s) .none k c p n e t),l⟩
theorem all_mk{l:PySem.W.OpenLaw}{w:NT}{K:Frag}{h:NZ}{mg:NH}{fa f1 f2 f3 f4 f5 f6 f7 f8 f9 f10 f11 f12 f13 f14 f15 f16 f17 f18 f19 f20 f21 f22 f23 f24 f25 f26 f27 f28 f29 f30 f31 f32 f33 f34 f35 f36 f37 f38 f39 f40 f41 f42 f43 f44 f45 f46 f47 f48 f49 f50 f51 f52 f53 f54 f55 f56 f57 f58 cBoard cGame cPlayError cBadBoard cBadGame cBadLine cBadPlace cNoMove cTooWide cNoWord cOver cNothingBack aS aA aE aW:Addr}(X:K.In h)(G:h.Ns NM mg)(hfa:mg "law"=some (.ref fa))
  {od58 an58:Option Addr} {sl58:Array (Option Value)} {oc58 kV58 dc58 pm58 cd58 ct58:Value} {d1 d2 d3 d4 d5 d6 d7 d8 d9 d10 d11 d12 d13 d14 d15 d16 d17 d18 d19 d20 d21 d22 d23 d24 d25 d26 d27 d28 d29 d30 d31 d32 d33 d34 d35 d36 d37 d38 d39 d40 d41 d42 d43 d44 d45 d46 d47 d48 d49 d50 d51 d52 d53 d54 d55 d56 d57:NV} {u0 u1 u2 u3 u4 u5 u6:Value}
  (aCBoard:Uy K NM "Board"=some (some (.ref cBoard)))
  (aCGame:Uy K NM "Game"=some (some (.ref cGame)))
  (aEPlayError:Uy K NM "PlayError"=some (some (.ref cPlayError)))
  (aEBadBoard:Uy K NM "BadBoard"=some (some (.ref cBadBoard)))
  (aEBadGame:Uy K NM "BadGame"=some (some (.ref cBadGame)))
  (aEBadLine:Uy K NM "BadLine"=some (some (.ref cBadLine)))
  (aEBadPlace:Uy K NM "BadPlace"=some (some (.ref cBadPlace)))
  (aENoMove:Uy K NM "NoMove"=some (some (.ref cNoMove)))
  (aETooWide:Uy K NM "TooWide"=some (some (.ref cTooWide)))
  (aENoWord:Uy K NM "NoWord"=some (some (.ref cNoWord)))
  (aEOver:Uy K NM "Over"=some (some (.ref cOver)))
  (aENothingBack:Uy K NM "NothingBack"=some (some (.ref cNothingBack)))
  (a1:Uy K NM "is_whole"=some (some (.ref f1)))
  (F1:bB K "is_whole" "is_whole" fZ f1 d1)
  (a2:Uy K NM "is_letter"=some (some (.ref f2)))
  (F2:bB K "is_letter" "is_letter" fo f2 d2)
  (a3:Uy K NM "is_among"=some (some (.ref f3)))
  (F3:bB K "is_among" "is_among" gb f3 d3)
  (a4:Uy K NM "is_word"=some (some (.ref f4)))
  (F4:bB K "is_word" "is_word" gX f4 d4)
  (a5:Uy K NM "is_tuple_of"=some (some (.ref f5)))
  (F5:bB K "is_tuple_of" "is_tuple_of" dh f5 d5)
  (a6:Uy K NM "is_list_of"=some (some (.ref f6)))
  (F6:bB K "is_list_of" "is_list_of" dR f6 d6)
  (a7:Uy K NM "is_step"=some (some (.ref f7)))
  (F7:bB K "is_step" "is_step" gY f7 d7)
  (a8:Uy K NM "is_rule"=some (some (.ref f8)))
  (F8:bB K "is_rule" "is_rule" gZ f8 d8)
  (a9:Uy K NM "is_pair"=some (some (.ref f9)))
  (F9:bB K "is_pair" "is_pair" g6 f9 d9)
  (a10:Uy K NM "are_pairs"=some (some (.ref f10)))
  (F10:bB K "are_pairs" "are_pairs" dC f10 d10)
  (a11:Uy K NM "is_turns"=some (some (.ref f11)))
  (F11:bB K "is_turns" "is_turns" dv f11 d11)
  (a12:Uy K NM "is_ends"=some (some (.ref f12)))
  (F12:bB K "is_ends" "is_ends" g7 f12 d12)
  (a13:Uy K NM "are_kinds"=some (some (.ref f13)))
  (F13:bB K "are_kinds" "are_kinds" dD f13 d13)
  (a14:Uy K NM "are_rules"=some (some (.ref f14)))
  (F14:bB K "are_rules" "are_rules" dB f14 d14)
  (a15:Uy K NM "sign_of"=some (some (.ref f15)))
  (F15:bB K "sign_of" "sign_of" gT f15 d15)
  (a16:Uy K NM "kind_of"=some (some (.ref f16)))
  (F16:bB K "kind_of" "kind_of" gW f16 d16)
  (a17:Uy K NM "side_of"=some (some (.ref f17)))
  (F17:bB K "side_of" "side_of" gU f17 d17)
  (a18:Uy K NM "put"=some (some (.ref f18)))
  (F18:bB K "put" "put" rD f18 d18)
  (a19:Uy K NM "squares_of"=some (some (.ref f19)))
  (F19:bB K "squares_of" "squares_of" cX f19 d19)
  (a20:Uy K NM "ray"=some (some (.ref f20)))
  (F20:bB K "ray" "ray" rC f20 d20)
  (a21:Uy K NM "slid"=some (some (.ref f21)))
  (F21:bB K "slid" "slid" mn f21 d21)
  (a22:Uy K NM "jumped"=some (some (.ref f22)))
  (F22:bB K "jumped" "jumped" iL f22 d22)
  (a23:Uy K NM "by_rule"=some (some (.ref f23)))
  (F23:bB K "by_rule" "by_rule" g8 f23 d23)
  (a24:Uy K NM "goals"=some (some (.ref f24)))
  (F24:bB K "goals" "goals" jO f24 d24)
  (a25:Uy K NM "column_of"=some (some (.ref f25)))
  (F25:bB K "column_of" "column_of" fu f25 d25)
  (a26:Uy K NM "row_of"=some (some (.ref f26)))
  (F26:bB K "row_of" "row_of" iK f26 d26)
  (a27:Uy K NM "square_at"=some (some (.ref f27)))
  (F27:bB K "square_at" "square_at" fm f27 d27)
  (a28:Uy K NM "moves"=some (some (.ref f28)))
  (F28:bB K "moves" "moves" iZ f28 d28)
  (a29:Uy K NM "arrived"=some (some (.ref f29)))
  (F29:bB K "arrived" "arrived" g9 f29 d29)
  (a30:Uy K NM "behind"=some (some (.ref f30)))
  (F30:bB K "behind" "behind" iM f30 d30)
  (a31:Uy K NM "done"=some (some (.ref f31)))
  (F31:bB K "done" "done" kJ f31 d31)
  (a32:Uy K NM "are_holes"=some (some (.ref f32)))
  (F32:bB K "are_holes" "are_holes" dE f32 d32)
  (a33:Uz K (.ref cBoard) "__init__"=some (some (.ref f33))) (iF33:UG K (.ref f33)=true)
  (F33:bB K "__init__" "Board.__init__" bW f33 d33)
  (a34:Uz K (.ref cBoard) "moved"=some (some (.ref f34))) (iF34:UG K (.ref f34)=true)
  (F34:bB K "moved" "Board.moved" dk f34 d34)
  (a35:Uz K (.ref cBoard) "far_row"=some (some (.ref f35))) (iF35:UG K (.ref f35)=true)
  (F35:bB K "far_row" "Board.far_row" cE f35 d35)
  (a36:Uz K (.ref cGame) "__init__"=some (some (.ref f36))) (iF36:UG K (.ref f36)=true)
  (F36:bB K "__init__" "Game.__init__" cD f36 d36)
  (a37:Uz K (.ref cGame) "rules_of"=some (some (.ref f37))) (iF37:UG K (.ref f37)=true)
  (F37:bB K "rules_of" "Game.rules_of" cf f37 d37)
  (a38:Uz K (.ref cGame) "turned"=some (some (.ref f38))) (iF38:UG K (.ref f38)=true)
  (F38:bB K "turned" "Game.turned" dj f38 d38)
  (a39:Uy K NM "_law_cell_at"=some (some (.ref f39)))
  (F39:bB K "_law_cell_at" "_law_cell_at" cQ f39 d39)
  (a40:Uy K NM "_law_mixed"=some (some (.ref f40)))
  (F40:bB K "_law_mixed" "_law_mixed" dU f40 d40)
  (a41:Uy K NM "_law_whole"=some (some (.ref f41)))
  (F41:bB K "_law_whole" "_law_whole" dS f41 d41)
  (a42:Uy K NM "_law_board"=some (some (.ref f42)))
  (F42:bB K "_law_board" "_law_board" dW f42 d42)
  (a43:Uy K NM "_law_kinds"=some (some (.ref f43)))
  (F43:bB K "_law_kinds" "_law_kinds" da f43 d43)
  (a44:Uy K NM "_law_rule"=some (some (.ref f44)))
  (F44:bB K "_law_rule" "_law_rule" fB f44 d44)
  (a45:Uy K NM "_law_turns"=some (some (.ref f45)))
  (F45:bB K "_law_turns" "_law_turns" cY f45 d45)
  (a46:Uy K NM "_law_game"=some (some (.ref f46)))
  (F46:bB K "_law_game" "_law_game" fC f46 d46)
  (a47:Uy K NM "_law_row"=some (some (.ref f47)))
  (F47:bB K "_law_row" "_law_row" cz f47 d47)
  (a48:Uy K NM "_law_side"=some (some (.ref f48)))
  (F48:bB K "_law_side" "_law_side" fA f48 d48)
  (a49:Uy K NM "_law_step"=some (some (.ref f49)))
  (F49:bB K "_law_step" "_law_step" fv f49 d49)
  (a50:Uy K NM "_law_by_rule"=some (some (.ref f50)))
  (F50:bB K "_law_by_rule" "_law_by_rule" cR f50 d50)
  (a51:Uy K NM "_law_goals"=some (some (.ref f51)))
  (F51:bB K "_law_goals" "_law_goals" db f51 d51)
  (a52:Uy K NM "_law_moves"=some (some (.ref f52)))
  (F52:bB K "_law_moves" "_law_moves" cZ f52 d52)
  (a53:Uy K NM "_law_behind"=some (some (.ref f53)))
  (F53:bB K "_law_behind" "_law_behind" di f53 d53)
  (a54:Uy K NM "_law_odd"=some (some (.ref f54)))
  (F54:bB K "_law_odd" "_law_odd" gc f54 d54)
  (a55:Uy K NM "_law_alone"=some (some (.ref f55)))
  (F55:bB K "_law_alone" "_law_alone" dX f55 d55)
  (a56:Uy K NM "_law_refused"=some (some (.ref f56)))
  (F56:bB K "_law_refused" "_law_refused" cO f56 d56)
  (a57:Uy K NM "_law_done"=some (some (.ref f57)))
  (F57:bB K "_law_done" "_law_done" fE f57 d57)
  (a58:Uy K NM "law"=some (some (.ref f58)))
  (l58:K.lookup f58=some (ζL oc58 od58 "law" "law" jf kV58 dc58 pm58 an58 cd58 ct58 sl58)) (c58:UV K cd58 "law"=true) (k58:UF K (.ref f58)=true)
  (pgXBoard:UL K cBoard O5=true)
  (hdXBoard:UM K cBoard=true)
  (poXBoard:UT K cBoard=true)
  (saXBoard:Uz K (.ref cBoard) "__setattr__"=some (some (.builtin "object.__setattr__")))
  (mkXBoard:UU K cBoard=true)
  (kcXBoard:UF K (.ref cBoard)=true)
  (naBoardwide:Uz K (.ref cBoard) "wide"=some none)
  (naBoardhigh:Uz K (.ref cBoard) "high"=some none)
  (naBoardholes:Uz K (.ref cBoard) "holes"=some none)
  (naBoardfirm:Uz K (.ref cBoard) "firm"=some none)
  (pgXGame:UL K cGame O5=true)
  (hdXGame:UM K cGame=true)
  (poXGame:UT K cGame=true)
  (saXGame:Uz K (.ref cGame) "__setattr__"=some (some (.builtin "object.__setattr__")))
  (mkXGame:UU K cGame=true)
  (kcXGame:UF K (.ref cGame)=true)
  (naGameboard:Uz K (.ref cGame) "board"=some none)
  (naGamekinds:Uz K (.ref cGame) "kinds"=some none)
  (naGamerules:Uz K (.ref cGame) "rules"=some none)
  (naGameturns:Uz K (.ref cGame) "turns"=some none)
  (naGameends:Uz K (.ref cGame) "ends"=some none)
  (naGamestuck:Uz K (.ref cGame) "stuck"=some none)
  (xq:UP K cNoMove [.type "ValueError",.type "Exception",.type "BaseException",.type "object"] "ValueError.__new__"=true)
  (xga:Uz K (.ref cNoMove) "__getattribute__"=some (some (.builtin "BaseException.__getattribute__")))
  (xgh:Uz K (.ref cNoMove) "__getattr__"=some none)
  (xha:Uz K (.ref cNoMove) "__class__"=some (some (.builtin "object.__class__")))
  (xhn:Vi K (.builtin "object.__class__") "__get__"=some (some (.builtin "getset_descriptor.__get__")))
  (xtk:Vj K (.builtin "object.__class__")=some true)
  (xhm:UN K cNoMove (.type "object")=some true)
  (xhb:UN K cNoMove (.type "BaseException")=some true)
  (xem:UQ K (.ref cNoMove) (.ref cPlayError)=some true)
  (xv:UB K (.ref cNoMove) (.type "ValueError")=some true)
  (xkBadBoard:UB K (.ref cNoMove) (.ref cBadBoard)=some false)
  (xkBadGame:UB K (.ref cNoMove) (.ref cBadGame)=some false)
  (xkBadLine:UB K (.ref cNoMove) (.ref cBadLine)=some false)
  (xkBadPlace:UB K (.ref cNoMove) (.ref cBadPlace)=some false)
  (xkNoMove:UB K (.ref cNoMove) (.ref cNoMove)=some true)
  (xkTooWide:UB K (.ref cNoMove) (.ref cTooWide)=some false)
  (xkNoWord:UB K (.ref cNoMove) (.ref cNoWord)=some false)
  (xkOver:UB K (.ref cNoMove) (.ref cOver)=some false)
  (xkNothingBack:UB K (.ref cNoMove) (.ref cNothingBack)=some false)
  (z0:Uy K NM "isinstance"=some none)
  (z1:Uy K NM "int"=some none)
  (z2:Uy K NM "bool"=some none)
  (z3:Uy K NM "str"=some none)
  (z4:Uy K NM "list"=some none)
  (z5:Uy K NM "tuple"=some none)
  (z6:Uy K NM "len"=some none)
  (z7:Uy K NM "range"=some none)
  (z8:Uy K NM "all"=some none)
  (z9:Uy K NM "any"=some none)
  (z10:Uy K NM "set"=some none)
  (z11:Uy K NM "sorted"=some none)
  (z12:Uy K NM "min"=some none)
  (z13:Uy K NM "max"=some none)
  (z14:Uy K NM "dict"=some none)
  (z15:Uy K NM "ValueError"=some none)
  (z16:Uy K NM "enumerate"=some none)
  (kg0:Uy K NM "NOTHING"=some (some u0)) (rv0:aV (.int (-1)) u0)
  (kg1:Uy K NM "EMPTY"=some (some u1)) (rv1:aV (.str ".") u1)
  (kg2:Uy K NM "HOLE"=some (some u2)) (rv2:aV (.str "#") u2)
  (kg3:Uy K NM "MOST_PAIRS"=some (some u3)) (rv3:aV (.int 6) u3)
  (kg4:Uy K NM "MOST_KINDS"=some (some u4)) (rv4:aV (.int 6) u4)
  (kg5:Uy K NM "MOST_RULES"=some (some u5)) (rv5:aV (.int 24) u5)
  (kg6:Uy K NM "LONGEST"=some (some u6)) (rv6:aV (.int 8) u6)
  {tO0:Value} {tD0:Option Addr} {tI0:Array Value} {tN0:Nat} {tS0:Array (Option Value)} (kt0:Uy K NM "SORTS"=some (some (.ref aS))) (lt0:K.lookup aS=some ⟨tO0,tD0,.seq tI0 tN0,tS0⟩) (ctp0:tO0=.type "tuple") (zt0:tI0.size<=sizeLine) (vt0:aZ ([V.str "leap",V.str "slide",V.str "jump"]) tI0.toList)
  {tO1:Value} {tD1:Option Addr} {tI1:Array Value} {tN1:Nat} {tS1:Array (Option Value)} (kt1:Uy K NM "AIMS"=some (some (.ref aA))) (lt1:K.lookup aA=some ⟨tO1,tD1,.seq tI1 tN1,tS1⟩) (ctp1:tO1=.type "tuple") (zt1:tI1.size<=sizeLine) (vt1:aZ ([V.str "go",V.str "hit",V.str "any"]) tI1.toList)
  {tO2:Value} {tD2:Option Addr} {tI2:Array Value} {tN2:Nat} {tS2:Array (Option Value)} (kt2:Uy K NM "END_WORDS"=some (some (.ref aE))) (lt2:K.lookup aE=some ⟨tO2,tD2,.seq tI2 tN2,tS2⟩) (ctp2:tO2=.type "tuple") (zt2:tI2.size<=sizeLine) (vt2:aZ ([V.str "without",V.str "home"]) tI2.toList)
  {tO3:Value} {tD3:Option Addr} {tI3:Array Value} {tN3:Nat} {tS3:Array (Option Value)} (kt3:Uy K NM "STUCK_WORDS"=some (some (.ref aW))) (lt3:K.lookup aW=some ⟨tO3,tD3,.seq tI3 tN3,tS3⟩) (ctp3:tO3=.type "tuple") (zt3:tI3.size<=sizeLine) (vt3:aZ ([V.str "lost",V.str "even",V.str "won"]) tI3.toList):
  ∃fd:NV,(∀(s:NN)(v:Value),QT s fd ⟨[v],[]⟩ [("_law_script",v)])/\∀Ny:NZ,K.In Ny->Ny.Ns NM mg->bg l.prog w K mg Ny cV 9 fa fd ["_law_script"] (vF K):=by
 have e:=hfa.symm.trans (UA X G a58);cases e;have T:Txt mg aS aA aE aW:=⟨UC X G z0,UC X G z1,UC X G z2,UC X G z3,UC X G z4,UC X G z5,UC X G z6,UC X G z7,UC X G z8,UC X G z9,UC X G z10,UC X G z11,UC X G z12,UC X G z13,UC X G z14,UC X G z15,UC X G z16,⟨_,UA X G kg0,rv0⟩,⟨_,UA X G kg1,rv1⟩,⟨_,UA X G kg2,rv2⟩,⟨_,UA X G kg3,rv3⟩,⟨_,UA X G kg4,rv4⟩,⟨_,UA X G kg5,rv5⟩,⟨_,UA X G kg6,rv6⟩,⟨_,UA X G kt0,rfl⟩,⟨_,UA X G kt1,rfl⟩,⟨_,UA X G kt2,rfl⟩,⟨_,UA X G kt3,rfl⟩⟩;have hT_SORTS:∀H,iC K H aS ["leap","slide","jump"]:=λH=>.inr (.inr ⟨_,tI0,tN0,lt0,ctp0,rfl,zt0,vt0⟩);have hT_AIMS:∀H,iC K H aA ["go","hit","any"]:=λH=>.inr (.inr ⟨_,tI1,tN1,lt1,ctp1,rfl,zt1,vt1⟩);have hT_END_WORDS:∀H,iC K H aE ["without","home"]:=λH=>.inr (.inr ⟨_,tI2,tN2,lt2,ctp2,rfl,zt2,vt2⟩);have hT_STUCK_WORDS:∀H,iC K H aW ["lost","even","won"]:=λH=>.inr (.inr ⟨_,tI3,tN3,lt3,ctp3,rfl,zt3,vt3⟩);have b1:=F1.binds (ps:=["thing"]) λ_ _ _ _ _ _=>L2.x8 (λ_=>rfl);have b2:=F2.binds (ps:=["thing"]) λ_ _ _ _ _ _=>L2.x8 (λ_=>rfl);have b3:=F3.binds (ps:=["thing","least","most"]) λ_ _ _ _ _ _=>L2.rX (λ_ _ _=>rfl);have b4:=F4.binds (ps:=["thing","words"]) λ_ _ _ _ _ _=>L2.ou (λ_ _=>rfl);have b5:=F5.binds (ps:=["thing","many"]) λ_ _ _ _ _ _=>L2.ou (λ_ _=>rfl);have b6:=F6.binds (ps:=["thing","least","most"]) λ_ _ _ _ _ _=>L2.rX (λ_ _ _=>rfl);have b7:=F7.binds (ps:=["sort","across","up"]) λ_ _ _ _ _ _=>L2.rX (λ_ _ _=>rfl);have b8:=F8.binds (ps:=["thing","kinds"]) λ_ _ _ _ _ _=>L2.ou (λ_ _=>rfl);have b9:=F9.binds (ps:=["thing","firsts","seconds"]) λ_ _ _ _ _ _=>L2.rX (λ_ _ _=>rfl);have b10:=F10.binds (ps:=["thing","firsts","seconds"]) λ_ _ _ _ _ _=>L2.rX (λ_ _ _=>rfl);have b11:=F11.binds (ps:=["thing","kinds"]) λ_ _ _ _ _ _=>L2.ou (λ_ _=>rfl);have b12:=F12.binds (ps:=["thing","kinds"]) λ_ _ _ _ _ _=>L2.ou (λ_ _=>rfl);have b13:=F13.binds (ps:=["thing"]) λ_ _ _ _ _ _=>L2.x8 (λ_=>rfl);have b14:=F14.binds (ps:=["thing","kinds"]) λ_ _ _ _ _ _=>L2.ou (λ_ _=>rfl);have b15:=F15.binds (ps:=["kind","side"]) λ_ _ _ _ _ _=>L2.ou (λ_ _=>rfl);have b16:=F16.binds (ps:=["sign"]) λ_ _ _ _ _ _=>L2.x8 (λ_=>rfl);have b17:=F17.binds (ps:=["sign"]) λ_ _ _ _ _ _=>L2.x8 (λ_=>rfl);have b18:=F18.binds (ps:=["row","square","sign"]) λ_ _ _ _ _ _=>L2.rX (λ_ _ _=>rfl);have b19:=F19.binds (ps:=["row","side"]) λ_ _ _ _ _ _=>L2.ou (λ_ _=>rfl);have b20:=F20.binds (ps:=["board","square","across","up"]) λ_ _ _ _ _ _=>L2.Ha (λ_ _ _ _=>rfl);have b21:=F21.binds (ps:=["row","side","aim","path"]) λ_ _ _ _ _ _=>L2.Ha (λ_ _ _ _=>rfl);have b22:=F22.binds (ps:=["row","side","path"]) λ_ _ _ _ _ _=>L2.rX (λ_ _ _=>rfl);have b23:=F23.binds (ps:=["board","row","square","rule"]) λ_ _ _ _ _ _=>L2.Ha (λ_ _ _ _=>rfl);have b24:=F24.binds (ps:=["game","row","square"]) λ_ _ _ _ _ _=>L2.rX (λ_ _ _=>rfl);have b25:=F25.binds (ps:=["wide","square"]) λ_ _ _ _ _ _=>L2.ou (λ_ _=>rfl);have b26:=F26.binds (ps:=["wide","square"]) λ_ _ _ _ _ _=>L2.ou (λ_ _=>rfl);have b27:=F27.binds (ps:=["wide","column","row"]) λ_ _ _ _ _ _=>L2.rX (λ_ _ _=>rfl);have b28:=F28.binds (ps:=["game","place"]) λ_ _ _ _ _ _=>L2.ou (λ_ _=>rfl);have b29:=F29.binds (ps:=["game","sign","side","goal"]) λ_ _ _ _ _ _=>L2.Ha (λ_ _ _ _=>rfl);have b30:=F30.binds (ps:=["game","place","move"]) λ_ _ _ _ _ _=>L2.rX (λ_ _ _=>rfl);have b31:=F31.binds (ps:=["game","place","move"]) λ_ _ _ _ _ _=>L2.rX (λ_ _ _=>rfl);have b32:=F32.binds (ps:=["thing","many"]) λ_ _ _ _ _ _=>L2.ou (λ_ _=>rfl);have b33:=F33.binds (ps:=["self","wide","high","holes"]) λ_ _ _ _ _ _=>L2.Ha (λ_ _ _ _=>rfl);have b34:=F34.binds (ps:=["self","square","across","up"]) λ_ _ _ _ _ _=>L2.Ha (λ_ _ _ _=>rfl);have b35:=F35.binds (ps:=["self","side"]) λ_ _ _ _ _ _=>L2.ou (λ_ _=>rfl);have b36:=F36.binds (ps:=["self","board","kinds","rules","turns","ends","stuck"]) λ_ _ _ _ _ _=>L2.ln7 (λ_ _ _ _ _ _ _=>rfl);have b37:=F37.binds (ps:=["self","kind"]) λ_ _ _ _ _ _=>L2.ou (λ_ _=>rfl);have b38:=F38.binds (ps:=["self","kind"]) λ_ _ _ _ _ _=>L2.ou (λ_ _=>rfl);have b39:=F39.binds (ps:=["_law_script","_law_k"]) λ_ _ _ _ _ _=>L2.ou (λ_ _=>rfl);have b40:=F40.binds (ps:=["_law_cell","_law_k"]) λ_ _ _ _ _ _=>L2.ou (λ_ _=>rfl);have b41:=F41.binds (ps:=["_law_thing"]) λ_ _ _ _ _ _=>L2.x8 (λ_=>rfl);have b42:=F42.binds (ps:=["_law_script"]) λ_ _ _ _ _ _=>L2.x8 (λ_=>rfl);have b43:=F43.binds (ps:=["_law_cell"]) λ_ _ _ _ _ _=>L2.x8 (λ_=>rfl);have b44:=F44.binds (ps:=["_law_cell","_law_kinds_here"]) λ_ _ _ _ _ _=>L2.ou (λ_ _=>rfl);have b45:=F45.binds (ps:=["_law_cell","_law_kinds_here"]) λ_ _ _ _ _ _=>L2.ou (λ_ _=>rfl);have b46:=F46.binds (ps:=["_law_script"]) λ_ _ _ _ _ _=>L2.x8 (λ_=>rfl);have b47:=F47.binds (ps:=["_law_script","_law_game_here","_law_start"]) λ_ _ _ _ _ _=>L2.rX (λ_ _ _=>rfl);have b48:=F48.binds (ps:=["_law_sign"]) λ_ _ _ _ _ _=>L2.x8 (λ_=>rfl);have b49:=F49.binds (ps:=["_law_game_here","_law_square","_law_across","_law_up"]) λ_ _ _ _ _ _=>L2.Ha (λ_ _ _ _=>rfl);have b50:=F50.binds (ps:=["_law_game_here","_law_row_here","_law_square","_law_rule_here"]) λ_ _ _ _ _ _=>L2.Ha (λ_ _ _ _=>rfl);have b51:=F51.binds (ps:=["_law_game_here","_law_row_here","_law_square"]) λ_ _ _ _ _ _=>L2.rX (λ_ _ _=>rfl);have b52:=F52.binds (ps:=["_law_game_here","_law_place"]) λ_ _ _ _ _ _=>L2.ou (λ_ _=>rfl);have b53:=F53.binds (ps:=["_law_game_here","_law_place","_law_move"]) λ_ _ _ _ _ _=>L2.rX (λ_ _ _=>rfl);have b54:=F54.binds (ps:=["_law_found","_law_cell","_law_size"]) λ_ _ _ _ _ _=>L2.rX (λ_ _ _=>rfl);have b55:=F55.binds (ps:=["_law_e"]) λ_ _ _ _ _ _=>L2.x8 (λ_=>rfl);have b56:=F56.binds (ps:=["_law_game_here","_law_place","_law_move"]) λ_ _ _ _ _ _=>L2.rX (λ_ _ _=>rfl);have b57:=F57.binds (ps:=["_law_game_here","_law_place","_law_move"]) λ_ _ _ _ _ _=>L2.rX (λ_ _ _=>rfl);have F58:=BA (st:=jf) l58 c58 k58;have b58:=F58.binds (ps:=["_law_script"]) λ_ _ _ _ _ _=>L2.x8 (λ_=>rfl);have cl_Board:tu K cBoard:=⟨pgXBoard,hdXBoard,poXBoard,saXBoard⟩;have cl_Game:tu K cGame:=⟨pgXGame,hdXGame,poXGame,saXGame⟩;refine⟨UI "law" "law" (gD jf) (eE jf) (ao jf) .none kV58 dc58 pm58 an58 cd58 ct58,λs v=>.of_eq rfl,λNy _ _=>?_⟩;have C_is_whole:=mC l.prog w Ny X G a1 F1 b1 (rL F1 T);have C_is_letter:=mC l.prog w Ny X G a2 F2 b2 (qa F2 T);have C_is_among:=mC l.prog w Ny X G a3 F3 b3 (rN F3 T ⟨C_is_whole⟩);have C_is_word:=mC l.prog w Ny X G a4 F4 b4 (uk F4 T);have C_is_tuple_of:=mC l.prog w Ny X G a5 F5 b5 (mz F5 T);have C_is_list_of:=mC l.prog w Ny X G a6 F6 b6 (nz F6 T);have C_is_step:=mC l.prog w Ny X G a7 F7 b7 (ul F7 T ⟨C_is_among⟩);have R2:RG2 l.prog w K mg Ny:=⟨C_is_word,C_is_tuple_of⟩;have R3:RG3 l.prog w K mg Ny:={toRG2:=R2,is_step:=C_is_step};have C_is_rule:=mC l.prog w Ny X G a8 F8 b8 (um F8 T hT_SORTS hT_AIMS R3);have C_is_pair:=mC l.prog w Ny X G a9 F9 b9 (uo F9 T R2);have C_are_pairs:=mC l.prog w Ny X G a10 F10 b10 (qd F10 T ⟨C_is_list_of,C_is_pair⟩);have C_is_ends:=mC l.prog w Ny X G a12 F12 b12 (uq F12 T hT_END_WORDS ⟨C_are_pairs⟩);have C_is_turns:=mC l.prog w Ny X G a11 F11 b11 (rM F11 T ⟨C_are_pairs⟩);have G1:Nv l.prog w K mg Ny:=⟨C_is_list_of,C_is_letter,C_is_rule⟩;have C_are_kinds:=mC l.prog w Ny X G a13 F13 b13 (qe F13 T G1);have C_are_rules:=mC l.prog w Ny X G a14 F14 b14 (qc F14 T G1);have G2:GG2 l.prog w K mg Ny:=⟨C_are_kinds,C_are_rules,C_is_turns,C_is_ends,C_is_word⟩;have GC:vm K cGame:=⟨cl_Game,naGameboard,naGamekinds,naGamerules,naGameturns,naGameends,naGamestuck⟩;have C_Game:oX l.prog w K mg Ny "Game" cGame _ _ _:=⟨f36,_,⟨mkXGame,a36,iF36,kcXGame⟩,ql F36 T hT_STUCK_WORDS GC G2,UA X G aCGame,b36⟩;have DA:CA l.prog w K mg Ny:=⟨Kl C_is_among⟩;have C_are_holes:=mC l.prog w Ny X G a32 F32 b32 (qf F32 T DA);have DB2:CB2 l.prog w K mg Ny:={toCA:=DA,are_holes:=C_are_holes};have BC:kj K cBoard:=⟨cl_Board,naBoardwide,naBoardhigh,naBoardholes,naBoardfirm⟩;have C_Board:oX l.prog w K mg Ny "Board" cBoard _ _ _:=⟨f33,_,⟨mkXBoard,a33,iF33,kcXBoard⟩,nK F33 T BC DB2,UA X G aCBoard,b33⟩;have C_column_of:=mC l.prog w Ny X G a25 F25 b25 (qb F25 T);have C_row_of:=mC l.prog w Ny X G a26 F26 b26 (xl F26 T);have C_square_at:=mC l.prog w Ny X G a27 F27 b27 (pZ F27 T);have C_Board_moved:qO l.prog w K mg Ny cBoard "moved" _ _ _:=⟨⟨f34,_,mE F34 T BC ⟨C_column_of,C_row_of,C_square_at⟩,⟨a34,iF34,F34.kp⟩,b34⟩,cl_Board⟩;have DB3:CB3 l.prog w K mg Ny cBoard:={toCB2:=DB2,Board:=C_Board,Board_moved:=C_Board_moved};have C_ray:=mC l.prog w Ny X G a20 F20 b20 (Jp F20 T BC DB3);have C_kind_of:=mC l.prog w Ny X G a16 F16 b16 (uj F16 T);have C_sign_of:=mC l.prog w Ny X G a15 F15 b15 (uh F15 T);have C_side_of:=mC l.prog w Ny X G a17 F17 b17 (ui F17 T);have C_squares_of:=mC l.prog w Ny X G a19 F19 b19 (ny F19 T ⟨C_side_of⟩);have S1:CRs l.prog w K mg Ny:=⟨C_side_of⟩;have C_slid:=mC l.prog w Ny X G a21 F21 b21 (Dq F21 T S1);have C_jumped:=mC l.prog w Ny X G a22 F22 b22 (xm F22 T S1);have S2:CRb l.prog w K mg Ny cBoard:={toCRs:=S1,ray:=C_ray,jumped:=C_jumped,slid:=C_slid};have C_by_rule:=mC l.prog w Ny X G a23 F23 b23 (ur F23 T S2);have C_Game_rules_of:qO l.prog w K mg Ny cGame "rules_of" _ _ _:=⟨⟨f37,_,kN F37 T GC,⟨a37,iF37,F37.kp⟩,b37⟩,cl_Game⟩;have C_goals:=mC l.prog w Ny X G a24 F24 b24 (A4 F24 T GC ⟨C_kind_of,C_by_rule,C_Game_rules_of⟩);have C_moves:=mC l.prog w Ny X G a28 F28 b28 (A3 F28 T ⟨C_squares_of,C_goals⟩);have C_put:=mC l.prog w Ny X G a18 F18 b18 (Jq F18 T);have C_Game_turned:qO l.prog w K mg Ny cGame "turned" _ _ _:=⟨⟨f38,_,mD F38 T GC,⟨a38,iF38,F38.kp⟩,b38⟩,cl_Game⟩;have C_Board_far_row:qO l.prog w K mg Ny cBoard "far_row" _ _ _:=⟨⟨f35,_,kO F35 T BC,⟨a35,iF35,F35.kp⟩,b35⟩,cl_Board⟩;have C_arrived:=mC l.prog w Ny X G a29 F29 b29 (ut F29 T BC GC ⟨C_kind_of,C_sign_of,C_row_of,C_Board_far_row,C_Game_turned⟩);have C_behind:=mC l.prog w Ny X G a30 F30 b30 (xn F30 T ⟨C_arrived,C_put⟩);have DN:Nx l.prog w K mg Ny cBoard cGame:=⟨C_moves,C_behind⟩;have C_done:=mC l.prog w Ny X G a31 F31 b31 (Dr F31 T DN);have X_done:Eg l.prog w K mg Ny "done" _ _ _:=⟨f31,_,A5 F31 T (UA X G aENoMove) xq DN,UA X G a31,F31.kp,b31⟩;have C__law_cell_at:=mC l.prog w Ny X G a39 F39 b39 (lC F39 T);have C__law_mixed:=mC l.prog w Ny X G a40 F40 b40 (nF F40 T);have C__law_whole:=mC l.prog w Ny X G a41 F41 b41 (nA F41 T);have LG:LG1 l.prog w K mg Ny:=⟨C__law_cell_at,C__law_mixed⟩;have C__law_board:=mC l.prog w Ny X G a42 F42 b42 (nI F42 T LG);have C__law_kinds:=mC l.prog w Ny X G a43 F43 b43 (nG F43 T);have C__law_rule:=mC l.prog w Ny X G a44 F44 b44 (qi F44 T);have C__law_turns:=mC l.prog w Ny X G a45 F45 b45 (nB F45 T);have LGG:LGg l.prog w K mg Ny cBoard cGame:={toLG1:=LG,_law_board:=C__law_board,_law_kinds:=C__law_kinds,_law_rule:=C__law_rule,_law_turns:=C__law_turns,Board:=C_Board,Game:=C_Game};have C__law_game:=mC l.prog w Ny X G a46 F46 b46 (qj F46 T LGG);have C__law_row:=mC l.prog w Ny X G a47 F47 b47 (rO F47 T BC GC LG);have C__law_side:=mC l.prog w Ny X G a48 F48 b48 (qh F48 T);have C__law_step:=mC l.prog w Ny X G a49 F49 b49 (qg F49 T BC GC);have C__law_by_rule:=mC l.prog w Ny X G a50 F50 b50 (lD F50 T ⟨C__law_side,C__law_step⟩);have C__law_goals:=mC l.prog w Ny X G a51 F51 b51 (nH F51 T GC ⟨C__law_by_rule⟩);have C__law_moves:=mC l.prog w Ny X G a52 F52 b52 (nE F52 T ⟨C__law_side,C__law_goals⟩);have C__law_behind:=mC l.prog w Ny X G a53 F53 b53 (mB F53 T BC GC);have XC:PySem.W.ExcC K cNoMove:=⟨xga,xgh,xha,xhn,xtk,xhm,xhb,uW xhm⟩;have AL:AlC mg K cNoMove false false false false true false false false false:=⟨XC,⟨_,UA X G aEBadBoard,xkBadBoard⟩,⟨_,UA X G aEBadGame,xkBadGame⟩,⟨_,UA X G aEBadLine,xkBadLine⟩,⟨_,UA X G aEBadPlace,xkBadPlace⟩,⟨_,UA X G aENoMove,xkNoMove⟩,⟨_,UA X G aETooWide,xkTooWide⟩,⟨_,UA X G aENoWord,xkNoWord⟩,⟨_,UA X G aEOver,xkOver⟩,⟨_,UA X G aENothingBack,xkNothingBack⟩,xv,rfl⟩;have N__law_alone:Ku l.prog w K mg Ny "_law_alone" _ _ _:=⟨f55,_,nJ F55 T AL,UA X G a55,F55.kp,b55⟩;have C__law_refused:=mC l.prog w Ny X G a56 F56 b56 (lA F56 T (UA X G aEPlayError) (UA X G aENoMove) xem xkNoMove XC ⟨X_done,N__law_alone⟩);have C__law_done:=mC l.prog w Ny X G a57 F57 b57 (qk F57 T ⟨C_done,C__law_whole,C__law_behind⟩);have C__law_odd:=mC l.prog w Ny X G a54 F54 b54 (rP F54 T);have C:CL l.prog w K mg Ny cBoard cGame:={toLG1:=LG,_law_game:=C__law_game,_law_row:=C__law_row,_law_moves:=C__law_moves,_law_done:=C__law_done,_law_odd:=C__law_odd,_law_refused:=C__law_refused};exact Jr F58 T BC GC C
theorem walk{l:PySem.W.OpenLaw}{q:NP}{loose:List Str}{XP:(NH)->NZ->Prop}{YP:NT->NZ->Prop}{d:DefRec}{K:Pw->Frag}(hn:l.most=some 63)(hdf:d.params.defaults=[])
  (hY:∀(w:NT)(h:NZ),YP w h->(K w.params).In h)
  (F:∀(w:NT)(mg:NH)(fa:Addr)(h:NZ),(K w.params).In h->h.Ns NM mg->mg d.name=some (.ref fa)->
   ∃fd:NV,(∀(s:NN)(u:Value),QT s fd ⟨[u],[]⟩ [("_law_script",u)])/\∀Ny:NZ,(K w.params).In Ny->Ny.Ns NM mg->bg l.prog w (K w.params) mg Ny cV 9 fa fd ["_law_script"] (vF (K w.params))):
  PySem.W.WalkO q loose XP YP l.row.toRowW d [] (λf vs=>PySem.call f vs):=
 L2.CU (n:=63) (k:=9) (x:="_law_script") (CX:=λ_=>cV) (sp:=λw=>vF (K w.params)) hn (by decide) hdf ⟨rfl,by decide,by decide⟩ hY F (λ_ _ a ns hl _ hS=>⟨a,ns,rfl,hS,hl,λ_=>rfl⟩) λ_ _ _ _ _ z=>z
end K14
open PySem PySem.W PyProof.Rows
set_option maxRecDepth 100000 in
set_option maxHeartbeats 0 in
theorem PySem.Challenge.cw_playboard_k14_moves_done_holds : PySem.Challenge.rw_playboard_k14_moves_done.Holds := by
 w_on
 o_law
 refine PySem.W.holds_openX (q:=K14.hQ) (loose:=[]) (Xt:=K14.hX) (XP:=PySem.W.XL K14.hQ []) (Yf:=L2.wd K14.hA) (Ya:=L2.wc K14.hK) K14.hleft (λs e=>PySem.W.xl_of s (Ug.mp e).1) PySem.W.XL.keeps (by rfl) (by rfl) (by rfl) (λs e=>PySem.W.recFacts_of (Ug.mp e).2) (by rfl) (by first|assumption|decide+kernel) (by decide+kernel) ⟨rfl,rfl,rfl,rfl,rfl,by decide+kernel⟩ ?hw ?hc
 (case hw=>w_witness2)
 k_fill
 refine L2.Ak (L2.Mb (λ_=>by kernel_rfl)) ?_;refine K14.walk (l:=PySem.Challenge.rw_playboard_k14_moves_done) rfl rfl (λw h Y=>Y) ?F
 case F=>
  intro w mg fa h KX G hmg
  refine' K14.all_mk KX G hmg ?_ ?_ ?_ ?_ ?_ ?_ ?_ ?_ ?_ ?_ ?_ ?_ ?_ ?_ ?_ ?_ ?_ ?_ ?_ ?_ ?_ ?_ ?_ ?_ ?_ ?_ ?_ ?_ ?_ ?_ ?_ ?_ ?_ ?_ ?_ ?_ ?_ ?_ ?_ ?_ ?_ ?_ ?_ ?_ ?_ ?_ ?_ ?_ ?_ ?_ ?_ ?_ ?_ ?_ ?_ ?_ ?_ ?_ ?_ ?_ ?_ ?_ ?_ ?_ ?_ ?_ ?_ ?_ ?_ ?_ ?_ ?_ ?_ ?_ ?_ ?_ ?_ ?_ ?_ ?_ ?_ ?_ ?_ ?_ ?_ ?_ ?_ ?_ ?_ ?_ ?_ ?_ ?_ ?_ ?_ ?_ ?_ ?_ ?_ ?_ ?_ ?_ ?_ ?_ ?_ ?_ ?_ ?_ ?_ ?_ ?_ ?_ ?_ ?_ ?_ ?_ ?_ ?_ ?_ ?_ ?_ ?_ ?_ ?_ ?_ ?_ ?_ ?_ ?_ ?_ ?_ ?_ ?_ ?_ ?_ ?_ ?_ ?_ ?_ ?_ ?_ ?_ ?_ ?_ ?_ ?_ ?_ ?_ ?_ ?_ ?_ ?_ ?_ ?_ ?_ ?_ ?_ ?_ ?_ ?_ ?_ ?_ ?_ ?_ ?_ ?_ ?_ ?_ ?_ ?_ ?_ ?_ ?_ ?_ ?_ ?_ ?_ ?_ ?_ ?_ ?_ ?_ ?_ ?_ ?_ ?_ ?_ ?_ ?_ ?_ ?_ ?_ ?_ ?_ ?_ ?_ ?_ ?_ ?_ ?_ ?_ ?_ ?_ ?_ ?_ ?_ ?_ ?_ ?_ ?_ ?_ ?_ ?_ ?_ ?_ ?_ ?_ ?_ ?_ ?_ ?_ ?_ ?_ ?_ ?_ ?_ ?_ ?_
  any_goals first|exact L2.BA (by k_is) (by k_is) (by k_is)|k_is|exact⟨_,rfl⟩|kernel_rfl|decide|exact .cons ⟨_,rfl⟩ (.cons ⟨_,rfl⟩ .nil)|exact .cons ⟨_,rfl⟩ (.cons ⟨_,rfl⟩ (.cons ⟨_,rfl⟩ .nil))|skip
