import PyProof.Rows.All
import Wide.All
import OpenK.AllK
import Wide.FinOn
import Lean
import PyProof.EqAt
import PyProof.EqKinds
import PyProof.TupleCall
import KE.KIntText
import KE.IntTextLaws
import KE.IntText
import KE.KRevIter
import KE.KEqDict
import PyProof.ZipIter
import PyProof.Draws
import PyProof.EnumMake
import PyProof.SetScanFacts
import PyProof.ListStr
import PyProof.SetKind
import PyProof.CollectWalk
import PyProof.FactsAll.set
import PyProof.StrLoop
import PyProof.TupleKey
import KE.KSortTup
import PyProof.Rows.SortWalk
import PyProof.Rows.SortStr
import PyProof.NeKinds
import PyProof.AttrMissHeap
import KE.KDictOf
import PyProof.ToksMono
import PyProof.StrCalls6
import PyProof.FitsReplace
import OpenK.ZGo
import PySem.Challenge.RW_playboard_k16_whole_places_stay_good
set_option Elab.async false
set_option linter.all false
set_option maxRecDepth 100000
set_option maxHeartbeats 4000000
set_option compiler.extract_closed false
open List renaming length_map → RT, getElem?_eq_getElem → RU, mem_cons → RV, mem_map → RW, getElem?_map → RX, getD_eq_getElem?_getD → RY, size_toArray → RZ, mem_singleton → R4, map_map → R5, mem_cons_self → R6, mem_cons_of_mem → R7, mem_range → R8, length_append → R9, mem_append → Sa, not_mem_nil → Sb, map_append → Sc, getElem?_eq_some_iff → Sd, getElem_mem → Se, length_cons → Sf, all_eq_true → Sh, length_take → Si, mem_append_right → Sj, map_cons → Sk, mem_of_getElem? → Sl, filter_eq_self → Sm, getElem?_eq_none → Sn, all_cons → So, map_congr_left → Sq, filter_cons → Sr, mem_filter → Ss, any_eq_true → Su, pairwise_map → Sv, append_nil → Sw, length_range → Sx, length_set → Sy, pairwise_cons → Sz, mem_append_left → SA, lookup_cons → SB, ext_getElem? → SD, getElem?_range → SE, any_eq_false → SF, nodup_cons → SH, length_drop → SI, take_of_length_le → SJ, length_filter_le → SK, nodup_iff_pairwise_ne → SL, append_assoc → SM, getElem_of_mem → SN, filterMap_cons → SO, any_cons → SQ, set_cons_zero → SR, mem_filterMap → SS, getElem?_append_left → SU, drop_zero → SV, range_succ → SW, take_length → SX, mem_of_mem_take → SY, getElem?_of_mem → SZ, getElem?_set_self → S0, getElem?_set_ne → S3, getElem?_append_right → S4, find?_cons → S5, nodup_append → S6, any_map → S7, length_pos_of_mem → S8, pairwise_iff_getElem → S9, map_take → Ta, set_cons_succ → Tb, getElem_inj → Tc, of_mem_zip → Td, getElem?_take_of_lt → Te, map_nil → Tf, length_singleton → Tg, forIn_cons → Th, drop_eq_getElem_cons → Ti, length_eq_zero_iff → Tj, getElem?_toArray → Tk, filter_append → Tl, length_erase_of_mem → Tn, mem_erase_of_ne → To, filter_map → Tp, nodup_range → Tq, take_add_one → Tr, getElem_append_left → Ts, getElem_append_right → Tt, pairwise_singleton → Tu, nodup_nil → Tw, take_succ_eq_append_getElem → Tx, getElem?_cons_zero → Tz, getElem?_cons_succ → TB, map_id → TC, all_map → TD, take_sublist → TF, mem_iff_getElem → TH, length_reverse → TJ, mem_of_mem_drop → TL, pairwise_append → TM, mem_drop_iff_getElem → TN, length_eraseIdx_of_lt → TQ, perm_cons_erase → TR, getElem_range → TU, idxOf_lt_length_iff → TV, getElem_toArray → TW
open Nat renaming le_refl → TX, ne_of_lt → TY, zero_le → TZ, le_trans → T0, lt_of_lt_of_le → T2, le_succ → T3, ne_of_gt → T4, lt_irrefl → T5, lt_trans → T6, le_add_right → T7, zero_add → T8, le_of_eq → T9, lt_succ_of_lt → Ua, le_of_lt → Ub, lt_succ_self → Uc, succ_ne_self → Ud, lt_trichotomy → Ue, sub_zero → Uf, mod_lt → Ug, succ_pos → Uh, eq_zero_or_pos → Ui, le_of_ble_eq_true → Uj
open Int renaming emod_nonneg → Uk, emod_lt_of_pos → Ul, toNat_natCast → Um, zero_add → Uo, mul_le_mul → Uq, mul_comm → Ur, ediv_nonneg → Us, mul_le_mul_of_nonneg_left → Ut, one_mul → Uu, emod_eq_of_lt → Uv, mul_ediv_add_emod → Uw, toNat_of_nonneg → Ux, mul_nonneg → Uy, ediv_lt_of_lt_mul → Uz, mul_le_mul_of_nonneg_right → UA, emod_eq_emod_iff_emod_sub_eq_zero → UB
open Bool renaming false_ne_true → UC, and_eq_true → UD, false_eq_true → UE, eq_iff_iff → UF, not_eq_true' → UG, true_and → UH, or_eq_true → UI, not_true → UJ, or_false → UK, and_false → UL, and_true → UM, or_eq_false_iff → UN, not_eq_false' → UO, and_eq_true_iff → UP
open Array renaming getElem?_eq_getElem → UQ, getElem?_toList → UR, getElem?_eq_none → US, length_toList → UT, size_map → UU, toList_inj → UV, toList_push → UW, mem_toList_iff → UX, size_append → UY, getElem_toList → UZ, forIn_toList → U0
open Option renaming map_eq_some_iff → U1, getD_none → U2
open PySem.W renaming nsIn → U3, findIn → U4, mg_none_of → U5, mg_of → U6, topRun → U7, kia_one → U8, isFn → U9, fnOf → Va, emptyDict → Vb, keepIn → Vc, instObj → Vd, plainGet → Ve, hasDictIn → Vf, lookIn → Vg, plainOver → Vh, makesIn → Vi, kitOne → Vj, codeIn → Vk, boot_heap → Vl, methodObj → Vm, plainGet_of → Vn, takerIn → Vo, callWith_K → Vp, doneF → Vq, handedIn → Vr, kitx_list → Vs, kitx_dict → Vt, cellsFrom_some → Vu, boot_o_2 → Vv, topStub → Vw, segRun → Vx, blockOf → Vy, restOf → Vz
open PySem.W (Frag)
open PySem renaming wpAny_bind->N0,wpAny_pure->N2,Shared->N3,Program->N5,starEach->N6,wpAny->N8,World->N9,FuncData->Oa,mainGlobals->Ob,sizeLine_eq->Oc,model->Od,Heap->Oe,bootBuiltins->Oh,Around->Oi,treeTable->Oj,Expr->Ol,wpAny_holding->On,Stmt->Oo,IsTupleKey->Op,backTo->Ot,codeAny_builtin->Ou,wpAny_callSpecial?_slot->Ov,eval->Ow,wpAny_call_entry->Oz,wpAny_truthy_bool->OA,compareOp->OC,wpAny_seqItems->OD,attributeBase->OE,wpAny_newObj_type->OL,wpAny_Call_method_late->OQ,builtinLookup_eq_fast->OS,wpAny_field->OV,importedModules->OY,codeAny_mono->OZ,strIterType->O4,plainId_quiet->O5,wpAny_mono->O6,wpAny_Call_Name_kw->O7,wpAny_passesOwn->Pb,wpAny_typeOf->Pc,wpAny_pyIter_list->Pd,keywordEach->Pe,cLine->Pf,Keyword->Pg,pyNext->Ph,Builtin->Pj,wpAny_isInstance->Pk,sliceBounds->Pn,CmpOp->Po,wpAny_setField_rec->Pp,typeLookup_type->Pq,wpAny_attempt->Pr,IsPair->Pw,OsState->Px,wpAny_setField->Pz,setEntries->PB,Scope->PF,wpAny_specialOf->PN,letOwnedTupleGo->PP,codeAny->PQ,assignEach->PV,pickOrder->PX,wpAny_pyIter_enum->PY,foldedSetIterable->PZ,binaryOp->P3,backToKw->P4,GenState->P8,Pos->Qa,typeIs_str->Qb,codeAny_call_builtin->Qe,wpAny_execs_nil->Qg,rawInt->Qh,Params->Qi,strValues->Qm,wpAny_runValue->Qn,wpAny_letOwnedTupleGo_enum->Qo,wpAny_fieldsOf->Qp,typeLookup->Qq,sysModules->Qr,isSubtype_type->Qs,isSubtype_stop->Qt,firstArgMember->Qu,ofAClassStatement->Qz,IsZip->QB,wpAny_comprehension_free->QE,wpAny_pyNext_enum_itemD->QJ,wpAny_forIn_list->QK,wpAny_askSetting->QL,swapsWith->QN,wpAny_rule->QP,wpAny_pyNext_list_item->QQ,wpAny_call->QR,setNext->QT,holding->QU,call_meets->QW,wpAny_updateSeq->QY,wpAny_ite_split->QZ,codeAny_of_tree->Q0,wpAny_pyNext_list_end->Q4,wpAny_isTrue_Compare1->Q5,wpAny_eqIsQuiet_tuple->Q6,weight_type_call_type->Q7,wpAny_of_eq->Rb,wpAny_listPart->Rc,callerA->Re,wpAny_standAt->Rg,wpAny_onRaise->Rh,setSearchFrom->Ri,Env->Rl,sliceRange->Rn,assign->Rp,Tok->Rt,valueAt->Ru,seqIndex_neg->Rw,relabel->Rx,Operator->RD,BindsTo->RF,lastMarks->RJ,Result->RL,collect->RM,stored->RO,bindL->RP,bindC->RQ,IsPart->RR,Sem->RS,sizeLine->v1,Value->VA,Addr->VB
open PySem.Heap renaming get?_push_of_some->N1,lt_size->N4,get?_push_size->N7,size_push->Os,SameBut->OH,get?_update_other->O0,get?_update_self->Pa,get?_none_of_le->Qf
open PySem.Value renaming ref->Of,none->O8,str->Ps,int->PH,type->Qv,isInt->QA,isStrOf->Rj,bool->Rr
open PySem.SetTable renaming below->Og,insertAt->Oq,runEnd->Ox,bits->OF,sizeAbove->OT,turns->O9,Probe->PD,insertAt_perm->P6,advance->Qc,grown->Qw,toList_insertAt->QF,slot->QG,fits->Rk,has->RC
open PySem.Around renaming under_plainId->Om,under->RH
open PySem.PassesOwn renaming never->Oy
open PySem.Builtin.Str renaming strSliceIndices->OB,occurrences->OP,tooLong->PK
open PySem.Str renaming ofString->OG,empty->Pu
open PySem.Calls renaming callWith_builtin->OJ,evalArgs_plain->OW,Name_function_global->Qx
open PySem.Heap.SameBut renaming update->OK
open PySem.Builtin.SmallTypes renaming ownedTupleIsFree->OM,nextOf->PJ,ownedTupleHandOut->PL
open PySem.Builtin.List renaming listSameRef->ON,listExtendWith->O3,listLengthHint->Py,listTooLong->PM,listSubscript?->Ql,listAllItems->Qy
open PyProof.Rows.F renaming plain_set_update_loop->OO,entry_set_update_loop->Pm
open PySem.SetTable.layClean renaming free->OR
open PySem.Obj renaming mapSeq->OU,putSet->QX
open PySem.SetTable.probe renaming go->OX
open PySem.NameKind renaming free->Pi,cell->QH
open PyProof.Rows renaming seqObj->Pl,AllBare->QD,subscriptTail_builtinR->QS,envOfC->QV,IntsAre->Rf,StrsAre->RN
open PySem.W.KasT renaming kasWp_bind->PU
open PySem.Txt renaming join->P5
open PySem.SetTable.below renaming go->P7
open PySem.F renaming plain_list_iadd->P9,slot_zip_next->Qj,slot_enumerate_next->Q8,plain_proto_collect->Q9,entry_proto_collect->Ra
open PySem.Shared renaming TypeIs->Qd
open PySem.Builtin.Frozenset renaming updateFrom->Qk,sizeOf->QI
open PySem.EqBoolInt renaming of_rcne->QC
open PySem.W renaming topFrame->QM,namesBound->Ro,topFrom->Rv,staticsOk->RI,kas_place->RK
open PySem.Builtin.Dict renaming updateFrom->QO
open PySem.Unicode renaming lowerAt->Q3
open PySem.Walks renaming list->Rq
open PySem.SeqAt renaming EqAt->Rs
open PySem.pickOrder renaming go->RA
open PySem.Code renaming isFrame->RE
abbrev C0:=@decide_eq_true
abbrev NP:=@decide_eq_false
abbrev NQ:=@if_neg
abbrev NR:=@if_pos
abbrev NS:=@of_decide_eq_true
abbrev NT:=@of_decide_eq_false
abbrev NU:=@absurd
abbrev NV:=@Option.some.inj
abbrev NW:=@congrArg
abbrev NX:=PySem.Str->Option PySem.Value
abbrev NY:=PySem.Value->PySem.Shared->Prop
abbrev NZ:=List (PySem.Addr×PySem.Obj)
noncomputable section
namespace L2
open PySem PySem.Spec PyProof.Rows
abbrev Key:=Sum Int Str
def oq:Key->VA->Bool
 | .inl k,v=>QA k v
 | .inr x,v=>Rj x v
def Nx(w:N9):Key->Int
 | .inl k=>hashInt k
 | .inr x=>hashStr w x
theorem bZ:∀{k:Key}{v:VA},oq k v=true->(∃i t,k=Sum.inl i/\v=PH i t)\/(∃x t,k=Sum.inr x/\v=Ps x t)
 | .inl i,v,h=>by obtain⟨t,e⟩:=Value.isInt_shape (k:=i) (v:=v) h;exact .inl ⟨i,t,rfl,e⟩
 | .inr x,v,h=>by obtain⟨t,e⟩:=Value.isStrOf_shape (x:=x) (v:=v) h;exact .inr ⟨x,t,rfl,e⟩
theorem yn(i:Int)(t:Rt):oq (.inl i) (.int i t)=true:=by simp[oq,QA]
theorem yl(x:Str)(t:Rt):oq (.inr x) (.str x t)=true:=by simp[oq,Rj]
theorem Iv(a b:Int):decide ((Sum.inl a:Key)=Sum.inl b)=(a == b):=by
 by_cases e:a=b
 .subst e;simp
 .have h:¬(Sum.inl a:Key)=Sum.inl b:=λq=>e (Sum.inl.inj q);rw[NP h];exact(beq_eq_false_iff_ne.mpr e).symm
theorem Iq(a b:Str):decide ((Sum.inr a:Key)=Sum.inr b)=decide (a=b):=by
 by_cases e:a=b
 .subst e;simp
 .have h:¬(Sum.inr a:Key)=Sum.inr b:=λq=>e (Sum.inr.inj q);rw[NP h,NP e]
theorem Iu(a:Int)(b:Str):decide ((Sum.inl a:Key)=Sum.inr b)=false:=NP (λq=>nomatch q)
theorem Ir(a:Str)(b:Int):decide ((Sum.inr a:Key)=Sum.inl b)=false:=NP (λq=>nomatch q)
def dM(prog:N5)(w:N9):PySem.KeyKind prog w Key where
 is:=oq
 hash:=Nx w
 inj:=λv a b ha hb=>by
  rcases bZ ha with⟨i,t,rfl,rfl⟩|⟨x,t,rfl,rfl⟩
  .rcases bZ hb with⟨j,u,rfl,e⟩|⟨y,u,rfl,e⟩
   .injection e with e1 _;rw[e1]
   .exact nomatch e
  .rcases bZ hb with⟨j,u,rfl,e⟩|⟨y,u,rfl,e⟩
   .exact nomatch e
   .injection e with e1 _;rw[e1]
 byValue:=λk v h=>by
   rcases bZ h with⟨i,t,rfl,rfl⟩|⟨x,t,rfl,rfl⟩<;>rfl
 pyHash:=λhv h=>by
  rcases bZ hv with⟨i,t,rfl,rfl⟩|⟨x,t,rfl,rfl⟩
  .exact wpAny_pyHash_int h
  .exact wpAny_pyHash_str h
 eqBool:=λhu hv h=>by
  rcases bZ hu with⟨i,t,rfl,rfl⟩|⟨x,t,rfl,rfl⟩
  .rcases bZ hv with⟨j,u,rfl,rfl⟩|⟨y,u,rfl,rfl⟩
   .rw[Iv]at h;exact wpAny_eqBool_int h
   .rw[Iu]at h;exact SeqAt.EqAt.int_str i t y u _ _ _ _ h
  .rcases bZ hv with⟨j,u,rfl,rfl⟩|⟨y,u,rfl,rfl⟩
   .rw[Ir]at h;exact SeqAt.EqAt.str_int x t j u _ _ _ _ h
   .rw[Iq]at h;exact wpAny_eqBool_str h
 «strs» :=λk x t v h=>by
  rcases bZ h with⟨i,u,rfl,e⟩|⟨y,u,rfl,e⟩
  .exact nomatch e
  .injection e with e1 _;subst e1;cases v<;>rfl
theorem sN(prog:N5)(w:N9)(i:Int)(t:Rt):(dM prog w).is (.inl i) (.int i t)=true:=yn i t
theorem sM(prog:N5)(w:N9)(x:Str)(t:Rt):(dM prog w).is (.inr x) (.str x t)=true:=yl x t
inductive V where
 |non|bl (b:Bool)|int (i:Int)|str (x:Str)|byt (b:Array UInt8)|flt (b:UInt64)|ref (a:VB)|ty (n:String)
 deriving DecidableEq
def aQ:V->VA->Prop
 | .non,u=>u=O8
 | .bl b,u=>u=Rr b
 | .int i,u=>∃t,u=PH i t
 | .str x,u=>∃t,u=Ps x t
 | .byt b,u=>∃t,u=Value.bytes b t
 | .flt b,u=>∃t,u=Value.float b t
 | .ref a,u=>u=Of a
 | .ty n,u=>u=Qv n
abbrev aX:List V->List VA->Prop:=Paired aQ
theorem aX.length{xs:List V}{us:List VA}(r:aX xs us):xs.length=us.length:=Paired.length r
theorem aX.get:∀{xs:List V}{us:List VA}{i:Nat}{x:V},aX xs us->xs[i]? =some x->∃u,us[i]? =some u/\aQ x u
 |_,_,_,_,.nil,e=>by simp at e
 |_,_,0,_,.cons r _,e=>by simp at e;subst e;exact⟨_,rfl,r⟩
 |_,_,i+1,x,.cons _ t,e=>by obtain⟨u,h1,h2⟩:=aX.get (i:=i) (x:=x) t (by simpa using e);exact⟨u,by simpa using h1,h2⟩
theorem aX.set{x:V}{u:VA}(r:aQ x u):∀{xs:List V}{us:List VA}(i:Nat),aX xs us->aX (xs.set i x) (us.set i u)
 |_,_,_,.nil=>.nil
 |_,_,0,.cons _ t=>.cons r t
 |_,_,i+1,.cons q t=>.cons q (aX.set r i t)
theorem aX.append:∀{xs ys:List V}{us ws:List VA},aX xs us->aX ys ws->aX (xs++ys) (us++ws)
 |_,_,_,_,.nil,s=>s
 |_,_,_,_,.cons r t,s=>.cons r (aX.append t s)
theorem aX.take:∀{xs:List V}{us:List VA}(n:Nat),aX xs us->aX (xs.take n) (us.take n)
 |_,_,0,_=>.nil
 |_,_,_+1,.nil=>.nil
 |_,_,n+1,.cons r t=>.cons r (aX.take n t)
theorem aX.drop:∀{xs:List V}{us:List VA}(n:Nat),aX xs us->aX (xs.drop n) (us.drop n)
 |_,_,0,r=>r
 |_,_,_+1,.nil=>.nil
 |_,_,n+1,.cons _ t=>aX.drop n t
def kW:Option V->Option VA->Prop
 |some v,some u=>aQ v u
 |none,none=>True
 |_,_=>False
def KV{κ:Type}:List (κ×V)->List (κ×VA)->Prop:=Paired λ(p:κ×V)(q:κ×VA)=>p.1=q.1/\aQ p.2 q.2
def kV:Key->V
 | .inl i=>.int i
 | .inr x=>.str x
inductive HO where
 |lst (xs:List V)
 |tup (xs:List V)
 |dK (kvs:List (Key×V))|dT (kvs:List (List Key×V))
 |set (S:Int->Bool) (n:Nat)
 |ins (C dx:VB) (fs:List (Str×V))
 |own (x:VB)
 |xd (fs:List (Str×V))
 |met (f x:VB)
 |rng (lo hi:Int)
 |frz (o:Obj) (u:HO)
 |tbl (ps:Array VA)
 |ext (φ:Oe->Prop)
abbrev Hp:=VB->Option HO
def upd(H:Hp)(a:VB)(o:HO):Hp:=λb=>if b=a then some o else H b
theorem ah{H:Hp}{a:VB}{o:HO}:upd H a o a=some o:=by unfold upd;rw[NR rfl]
theorem au{H:Hp}{a b:VB}{o:HO}(h:b≠a):upd H a o b=H b:=by unfold upd;rw[NQ h]
theorem BN{H:Hp}{a:VB}{o u:HO}:upd (upd H a o) a u=upd H a u:=by funext b;unfold upd;split<;>rfl
theorem aw{H:Hp}{a b:VB}{o:HO}(h:H a=some o)(h':H b=none):a≠b:=by intro e;subst e;rw[h]at h';cases h'
section
variable(P:N5)(w:N9)
def bD(H:Hp)(h:Oe)(a:VB):HO->Prop
 | .lst xs=>xs.length<=v1/\∃(its:List VA)(n:Nat),aX xs its/\h.get? a=some {cls:=.type "list",data:=.seq its.toArray n}
 | .tup xs=>xs.length<=v1/\∃its:List VA,aX xs its/\IsTup h a its.toArray
 | .dK kvs=>kvs.length<=v1/\(a == Qr)=false/\∃vs,KV kvs vs/\h.DictOf (dM P w) a vs
 | .dT kvs=>kvs.length<=v1/\(a == Qr)=false/\∃xs:List (List Key×VB×VA),
   Paired (λ(p:List Key×V)(q:List Key×VB×VA)=>p.1=q.1/\H q.2.1=some (.tup (p.1.map kV))/\aQ p.2 q.2.2) kvs xs/\
   ∃o es ep,h.get? a=some o/\o.ExactDict/\o.data=.dict es ep/\es.toList=xs.map (entryOfKey (tupleKind (dM P w)))/\(xs.map (·.1)).Nodup
 | .set S n=>h.SetOf (intKind P w) a S n
 | .ins C dx fs=>H dx=some (.own a)/\fs.length<=1000/\dx≠a/\h.get? a=some (Vd C dx)/\
   ∃mA,h.Ns1 dx mA/\(∀f,kW (fs.lookup f) (mA f))/\PySem.Within mA (fs.map (·.1))
 | .own _=>∃o,h.get? a=some o
 | .xd fs=>∃mA,h.Ns1 a mA/\∀f,kW (fs.lookup f) (mA f)
 | .rng lo hi=>∃t u v,h.get? a=some {cls:=.type "range",data:=.fields #[.int lo t,.int hi u,.int 1 v]}
 | .frz o u=>h.get? a=some o/\bD H h a u
 | .tbl ps=>h.get? a=some {cls:=.none,data:=.fields ps}
 | .met f x=>h.get? a=some (Vm (.ref f) (.ref x))
 | .ext φ=>φ h/\(∃o,h.get? a=some o)/\∀h1 h2:Oe,φ h1->(∀o,h1.get? a=some o->h2.get? a=some o)->φ h2
def kh(H:Hp)(h:Oe):Prop:= ∀a o,H a=some o->bD P w H h a o
end
section
variable{P:N5}{w:N9}{H H':Hp}{h h':Oe}{a:VB}{o:HO}
theorem bD.lt(x:bD P w H h a o):a<h.objs.size:=by
 cases o with
 |lst xs=>obtain⟨_,_,_,_,e⟩:=x;exact N4 e
 |tup xs=>obtain⟨_,_,_,p⟩:=x;exact p.lt
 |dK kvs=>obtain⟨_,_,_,_,o,_,_,e,_⟩:=x;exact N4 e
 |dT kvs=>obtain⟨_,_,_,_,o,_,_,e,_⟩:=x;exact N4 e
 |set S n=>obtain⟨o,_,_,_,e,_⟩:=x;exact N4 e
 |ins C dx fs=>obtain⟨_,_,_,e,_⟩:=x;exact N4 e
 |own y=>obtain⟨_,e⟩:=x;exact N4 e
 |xd fs=>obtain⟨_,⟨_,_,_,e,_⟩,_⟩:=x;exact N4 e
 |rng lo hi=>obtain⟨_,_,_,e⟩:=x;exact N4 e
 |frz ob u=>obtain⟨e,_⟩:=x;exact N4 e
 |tbl ps=>exact N4 (show h.get? a=some _ from x)
 |met f y=>exact N4 (show h.get? a=some _ from x)
 |ext φ=>obtain⟨_,⟨_,e⟩,_⟩:=x;exact N4 e
theorem Paired.mapP{α β:Type}{F G:α->β->Prop}:∀{l₁:List α}{l₂:List β},Paired F l₁ l₂->(∀a b,F a b->G a b)->Paired G l₁ l₂
 |_,_,.nil,_=>.nil
 |_,_,.cons r t,f=>.cons (f _ _ r) (Paired.mapP t f)
theorem bD.stay(x:bD P w H h a o)(k:∀b u,(b=a\/H b=some (.own a))->h.get? b=some u->h'.get? b=some u)(ho:∀b,H b=some (.own a)->H' b=some (.own a))(ht:∀b xs,H b=some (.tup xs)->H' b=some (.tup xs)):bD P w H' h' a o:=by
 induction o with
 |lst xs=>obtain⟨z,its,n,r,e⟩:=x;exact⟨z,its,n,r,k _ _ (.inl rfl) e⟩
 |tup xs=>obtain⟨z,its,r,ob,e,c⟩:=x;exact⟨z,its,r,ob,k _ _ (.inl rfl) e,c⟩
 |dK kvs=>obtain⟨z,y,vs,r,ob,es,ep,e,c⟩:=x;exact⟨z,y,vs,r,ob,es,ep,k _ _ (.inl rfl) e,c⟩
 |dT kvs=>
  obtain⟨z,y,xs,r,ob,es,ep,e,c⟩:=x;exact⟨z,y,xs,Paired.mapP r λp q z=>⟨z.1,ht _ _ z.2.1,z.2.2⟩,ob,es,ep,k _ _ (.inl rfl) e,c⟩
 |set S n=>obtain⟨ob,es,ep,t,e,c⟩:=x;exact⟨ob,es,ep,t,k _ _ (.inl rfl) e,c⟩
 |ins C dx fs=>
  obtain⟨d,z,ne,e,mA,⟨od,es,ep,e2,c⟩,r⟩:=x;exact⟨ho _ d,z,ne,k _ _ (.inl rfl) e,mA,⟨od,es,ep,k _ _ (.inr d) e2,c⟩,r⟩
 |own y=>obtain⟨ob,e⟩:=x;exact⟨ob,k _ _ (.inl rfl) e⟩
 |xd fs=>obtain⟨mA,⟨od,es,ep,e,c⟩,r⟩:=x;exact⟨mA,⟨od,es,ep,k _ _ (.inl rfl) e,c⟩,r⟩
 |rng lo hi=>obtain⟨t,u,v,e⟩:=x;exact⟨t,u,v,k _ _ (.inl rfl) e⟩
 |frz ob u ih=>obtain⟨e,q⟩:=x;exact⟨k _ _ (.inl rfl) e,ih q⟩
 |tbl ps=>
  have e:h.get? a=some {cls:=.none,data:=.fields ps}:=x;show h'.get? a=some {cls:=.none,data:=.fields ps};exact k a _ (.inl rfl) e
 |met f y=>
  have e:h.get? a=some (Vm (.ref f) (.ref y)):=x;show h'.get? a=some (Vm (.ref f) (.ref y));exact k a _ (.inl rfl) e
 |ext φ=>obtain⟨p,⟨o,e⟩,st⟩:=x;exact⟨st _ _ p λo q=>k _ _ (.inl rfl) q,⟨o,k _ _ (.inl rfl) e⟩,st⟩
theorem kh.lt(x:kh P w H h)(e:H a=some o):a<h.objs.size:=(x a o e).lt
theorem kh.fresh(x:kh P w H h)(e:h.objs.size<=a):H a=none:=by
 cases q:H a with
 |none=>rfl
 |some u=>exact NU (T2 (x.lt q) e) (T5 _)
theorem kh.kept(x:kh P w H h)(k:∀b u,h.get? b=some u->h'.get? b=some u):kh P w H h':=λa o e=>
 (x a o e).stay (λb u _ q=>k b u q) (λ_ q=>q) λ_ _ q=>q
theorem kh.laid(x:kh P w H h)(k:∀b u,h.get? b=some u->h'.get? b=some u)(hp:h.objs.size<=a)(new:bD P w (upd H a o) h' a o):kh P w (upd H a o) h':=λb u e=>by
 have hn:=x.fresh hp
 by_cases hb:b=a
 .subst hb;rw[ah]at e;cases e;exact new
 .rw[au hb]at e;exact(x b u e).stay (λc v _ q=>k c v q) (λc q=>by rw[au (aw q hn)];exact q) λc xs q=>by rw[au (aw q hn)];exact q
end
def Rd(H:Hp)(a:VB)(u:HO):Prop:=H a=some u\/∃o,H a=some (.frz o u)
theorem Rd.ok{P:N5}{w:N9}{H:Hp}{h:Oe}{a:VB}{u:HO}(r:Rd H a u)(x:kh P w H h):bD P w H h a u:=by
 rcases r with r|⟨o,r⟩
 .exact x a u r
 .obtain⟨_,q⟩:=x a _ r;exact q
def MP:Option HO->Prop
 |some (.lst _)=>True
 |some (.dK _)=>True
 |some (.dT _)=>True
 |some (.set _ _)=>True
 |some (.ins _ _ _)=>True
 |some (.ext _)=>True
 |_=>False
section
variable{P:N5}{w:N9}{H:Hp}{h h':Oe}{x e:VB}{o':HO}
theorem kh.write(ok:kh P w H h)(mu:MP (H x))(he:e=x\/H e=some (.own x))(k:∀b u,b≠e->h.get? b=some u->h'.get? b=some u)(heo:∃u,h'.get? e=some u)(new:bD P w (upd H x o') h' x o'):kh P w (upd H x o') h':=λb u q=>by
 have nown:∀c y,H c=some (.own y)->c≠x:=λc y r z=>by subst z;rw[r]at mu;exact mu
 have ntup:∀c xs,H c=some (.tup xs)->c≠x:=λc xs r z=>by subst z;rw[r]at mu;exact mu
 by_cases hb:b=x
 .subst hb;rw[ah]at q;cases q;exact new
 .rw[au hb]at q
  by_cases hbe:b=e
  .have q':H b=some (.own x):=by
    rcases he with z|z
    .exact NU (hbe.trans z) hb
    .rw[hbe];exact z
   rw[q]at q';cases q';obtain⟨v,hv⟩:=heo;exact⟨v,by rw[hbe];exact hv⟩
  .refine(ok b u q).stay (λc v hc r=>k c v ?_ r) (λc r=>by rw[au (nown c b r)];exact r) λc xs r=>by rw[au (ntup c xs r)];exact r
   rcases hc with rfl|hc
   .exact hbe
   .rintro rfl
    rcases he with z|z
    .exact nown c b hc z
    .rw[hc]at z;cases z;exact hb rfl
end
structure Un(fs ex:List VB)(H H':Hp)(h h':Oe):Prop where
 keep:∀b o,h.get? b=some o->H b=none->b∉fs->b∉ex->h'.get? b=some o
 slot:∀b o,h.get? b=some o->H b=none->b∈fs->b∉ex->∃sl,h'.get? b=some {o with slots:=sl}
 free:∀b o,h.get? b=some o->H b=none->b∉ex->H' b=none
 there:∀b o,h.get? b=some o->b∉ex->∃o',h'.get? b=some o'
 tups:∀b xs,H b=some (.tup xs)->H' b=some (.tup xs)
 frzs:∀b o u,H b=some (.frz o u)->H' b=some (.frz o u)
 tbls:∀b ps,H b=some (.tbl ps)->∃more,H' b=some (.tbl (ps++more))
section
variable{fs fs' ex ex':List VB}{H H1 H2:Hp}{h h1 h2 h':Oe}{a x e:VB}{o:HO}
theorem Un.any(u:Un fs ex H H1 h h1){b:VB}{ob:Obj}(q:h.get? b=some ob)(n:H b=none)(hx:b∉ex):∃sl,h1.get? b=some {ob with slots:=sl}:=by
 by_cases hb:b∈fs
 .exact u.slot b ob q n hb hx
 .exact⟨ob.slots,u.keep b ob q n hb hx⟩
theorem Un.kept(k:∀b u,h.get? b=some u->h'.get? b=some u):Un fs ex H H h h':=
 ⟨λb ob q _ _ _=>k b ob q,λb ob q _ _ _=>⟨ob.slots,k b ob q⟩,λ_ _ _ n _=>n,λb ob q _=>⟨ob,k b ob q⟩,λ_ _ q=>q,λ_ _ _ q=>q,λ_ ps q=>⟨#[],by rw[q];simp⟩⟩
theorem Un.refl:Un fs ex H H h h:=Un.kept λ_ _ q=>q
theorem Un.laid(k:∀b u,h.get? b=some u->h'.get? b=some u)(hp:h.objs.size<=a)(hn:H a=none):Un fs ex H (upd H a o) h h' where
 keep:=λb u q _ _ _=>k b u q
 slot:=λb u q _ _ _=>⟨u.slots,k b u q⟩
 free:=λb u q n _=>by rw[au (TY (T2 (N4 q) hp))];exact n
 there:=λb u q _=>⟨u,k b u q⟩
 tups:=λb xs q=>by rw[au (aw q hn)];exact q
 frzs:=λb u xs q=>by rw[au (aw q hn)];exact q
 tbls:=λb ps q=>⟨#[],by rw[au (aw q hn),q];simp⟩
theorem Un.write(mu:MP (H x))(he:e=x\/H e=some (.own x))(k:∀b u,b≠e->h.get? b=some u->h'.get? b=some u)(heo:∃u,h'.get? e=some u):Un fs ex H (upd H x o) h h':=by
 have hx:∀b,H b=none->b≠x:=λb n z=>by subst z;rw[n]at mu;exact mu
 have hb:∀b,H b=none->b≠e:=λb n z=>by
  subst z
  rcases he with r|r
  .exact hx b n r
  .rw[n]at r;cases r
 have hm:∀b u,H b=some u->¬MP (some u)->b≠x:=λb u q nm z=>by subst z;rw[q]at mu;exact nm mu
 refine⟨λb u q n _ _=>k b u (hb b n) q,λb u q n _ _=>⟨u.slots,k b u (hb b n) q⟩,λb u q n _=>by rw[au (hx b n)];exact n,λb u q _=>?_,
  λb xs q=>by rw[au (hm b _ q λz=>z)];exact q,λb u xs q=>by rw[au (hm b _ q λz=>z)];exact q,λb ps q=>⟨#[],by rw[au (hm b _ q λz=>z),q];simp⟩⟩
 by_cases hbe:b=e
 .subst hbe;exact heo
 .exact⟨u,k b u hbe q⟩
end
def MF(h:Oe)(H:Hp):List VB:=(List.range h.objs.size).filter λa=>(H a).isSome
def qA(h:Oe)(H:Hp):Oe:=PySem.W.hideAll h (MF h H)
theorem yr(h:Oe)(H:Hp):(qA h H).objs.size=h.objs.size:=PySem.W.hideAll_size _ _
theorem AN{h:Oe}{H:Hp}{b:VB}{o:Obj}(e:h.get? b=some o)(n:H b=none):(qA h H).get? b=some o:=
 PySem.W.hideAll_get _ e λhm=>by have q:(H b).isSome=true:=(Ss.mp hm).2;rw[n]at q;simp at q
theorem Cs{h:Oe}{H:Hp}{b:VB}{o:Obj}(e:(qA h H).get? b=some o):h.get? b=some o/\H b=none:=by
 have e':h.get? b=some o:=PySem.W.of_hideAll (MF h H) e;refine⟨e',?_⟩;cases q:H b with
 |none=>rfl
 |some x=>
  have hm:b∈MF h H:=Ss.mpr ⟨R8.mpr (N4 e'),by simp[q]⟩;have z:(qA h H).get? b=none:=PySem.W.hideAll_none (MF h H) hm;rw[z]at e;cases e
def lP(g h:Oe)(L:VB):List (VB×Obj):=(List.range h.objs.size).filterMap λa=>if a=L\/(g.get? a).isSome=true then none else(h.get? a).map λo=>(a,o)
theorem sO{g h:Oe}{L a:VB}{o:Obj}(h1:a≠L)(h2:g.get? a=none)(h3:h.get? a=some o):(a,o)∈lP g h L:=
 SS.mpr ⟨a,R8.mpr (N4 h3),by simp[h1,h2,h3]⟩
theorem mF{g h:Oe}{L:VB}{p:VB×Obj}(hp:p∈lP g h L):p.1≠L/\g.get? p.1=none/\h.get? p.1=some p.2:=by
 obtain⟨b,_,e⟩:=SS.mp hp;split at e
 .cases e
 .rename_i hn;cases q:h.get? b with
  |none=>rw[q]at e;simp at e
  |some u=>
   rw[q]at e;simp only[Option.map_some,Option.some.injEq]at e;subst e;refine⟨λz=>hn (.inl z),?_,q⟩;show g.get? b=none;cases r:g.get? b with
   |none=>rfl
   |some v=>exact(hn (.inr (by simp[r]))).elim
def rest(g h:Oe)(L d:VB):List (VB×Obj):=(lP g h L).filter λp=>decide (p.1≠d)
theorem rest_ne{g h:Oe}{L d:VB}:∀p∈rest g h L d,p.1≠d:=λp hp=>NS (Ss.mp hp).2
theorem Ax{g h:Oe}{L d a:VB}{o:Obj}(h1:a≠L)(h2:g.get? a=none)(h3:h.get? a=some o)(h4:a≠d):(a,o)∈rest g h L d:=
 Ss.mpr ⟨sO h1 h2 h3,C0 h4⟩
theorem As{g h:Oe}{L:VB}:News g L h (lP g h L):=λp hp=>let ⟨a,b,c⟩:=mF hp;⟨c,a,b⟩
theorem Cu{g h:Oe}{L d:VB}{o:Obj}(h1:d≠L)(h2:g.get? d=none)(h3:h.get? d=some o):News g L h ((d,o)::rest g h L d):=λp hp=>by
 rcases RV.mp hp with rfl|hp
 .exact⟨h3,h1,h2⟩
 .exact As p (Ss.mp hp).1
theorem jX{g h h':Oe}{L d:VB}{m:NX}(k:∀b o,g.get? b=some o->h.get? b=some o)(F:Fr g L h' m)(N:News g L h' (rest g h L d)):∀b o,b≠L->b≠d->h.get? b=some o->h'.get? b=some o:=λb o h1 h2 e=>by
 cases q:g.get? b with
 |some u=>
  have:=k b u q;rw[e]at this;cases this;exact F.keep b _ q
 |none=>exact(N (b,o) (Ax h1 q e h2)).1
structure Mod(K:Frag)(mg:NX)(np:Oe):Prop where
 kin:K.In np
 glob:np.Ns Ob mg
 blt:∃mb,np.Ns builtinsNs mb/\∀x:Str,x≠"__name__"->mb x=Oh x
 nolimit:np.NoLimit
structure Cx where
 prog:N5
 w:N9
 K:Frag
 mg:Str->Option VA
 np:Oe
 A:Oi
 N:List Str
 s₀:N3
 H₀:Hp
 env:Rl
 xc:List Rl
 stack:List Rl
 ex:List VB
 fn:Str->Bool
 calm:Bool
 pn:List (VB×Obj)
 xe:VA->N3->Prop
def wO(l:List Rl):List VB:=l.filterMap (·.frame)
abbrev Cx.fs(X:Cx):List VB:=wO X.xc
def MN(sc:PF)(x:Str):Prop:=sc.names.lookup x=some .local\/sc.names.lookup x=some .cell\/sc.names.lookup x=some .free
def Hb(sc:PF)(x:Str):Prop:=sc.names.lookup x=some .local\/sc.names.lookup x=some .cell
def NN(env:Rl)(h:Oe)(m:NX)(x:Str)(u:VA):Prop:=
 (env.kindOf x=some .local/\m x=some u)\/((env.kindOf x=some .cell\/env.kindOf x=some .free)/\∃c,env.cells.lookup x=some c/\h.IsCell c (some u))
structure Cx.Ok(X:Cx):Prop where
 mod:Mod X.K X.mg X.np
 kind:X.env.scope.kind=.function
 glob:X.env.globals=Ob
 blt:X.env.builtins=builtinsNs
 above:X.s₀.heap.objs.size<=X.env.locals
 inj:∀x y c,X.env.cells.lookup x=some c->X.env.cells.lookup y=some c->x=y
 has:∀x,(X.env.kindOf x=some .cell\/X.env.kindOf x=some .free)->∃c,X.env.cells.lookup x=some c
 cab:∀x c,X.fn x=true->X.env.cells.lookup x=some c->X.s₀.heap.objs.size<=c
 hd:X.calm=true->X.A.handled=none
 frames:X.A.frames=some X.stack
 stk:X.stack=X.xc\/(X.stack=X.env::X.xc/\X.env.frame=some X.env.locals)
 exf:∀b∈X.ex,b≠X.env.locals/\∀x c,X.env.cells.lookup x=some c->c≠b
 bs:∀b o,X.np.get? b=some o->X.s₀.heap.get? b=some o/\X.H₀ b=none
 bsz:X.np.objs.size<=X.s₀.heap.objs.size
 noex:∀b o,X.np.get? b=some o->b∉X.ex
 exfs:∀b∈X.ex,b∉X.fs
 funs:X.s₀.heap.FunFrames X.np X.xc
 frf:∀b∈X.fs,X.H₀ b=none
structure aK(X:Cx)(gV:NZ)(σ:List (Option V))(H:Hp)(s:N3):Prop where
 ok:X.Ok
 os:s.os=X.s₀.os
 bare:QD s.gens
 np:Un X.fs X.ex X.H₀ H X.s₀.heap s.heap
 loc:∃m,s.heap.Ns X.env.locals m/\∀(i:Nat)(x:Str)(v:V),X.N[i]? =some x->σ[i]? =some (some v)->MN X.env.scope x->∃u,aQ v u/\NN X.env s.heap m x u
 cell:∀x c,X.env.cells.lookup x=some c->∃v,s.heap.IsCell c v
 free:H X.env.locals=none
 freeC:∀x c,X.env.cells.lookup x=some c->H c=none
 pin:∀p∈X.pn++gV,s.heap.get? p.1=some p.2/\H p.1=none/\p.1≠X.env.locals/\p.1∉X.fs/\∀v,p.2.data≠.cell v
 hok:kh X.prog X.w H s.heap
 len:σ.length=X.N.length
section
variable{X:Cx}{gV:NZ}{σ:List (Option V)}{H H':Hp}{s:N3}{h':Oe}
theorem Cx.Ok.nofr(ok:X.Ok){b:VB}{o:Obj}(e:X.np.get? b=some o):b∉X.fs:=λhb=>by have:=(ok.funs.mem hb).1;rw[e]at this;cases this
theorem aK.bs(I:aK X gV σ H s):∀b o,X.np.get? b=some o->s.heap.get? b=some o/\H b=none:=λb o e=>
 ⟨I.np.keep b o (I.ok.bs b o e).1 (I.ok.bs b o e).2 (I.ok.nofr e) (I.ok.noex b o e),I.np.free b o (I.ok.bs b o e).1 (I.ok.bs b o e).2 (I.ok.noex b o e)⟩
theorem aK.bk(I:aK X gV σ H s):∀b o,X.np.get? b=some o->s.heap.get? b=some o:=λb o e=>(I.bs b o e).1
theorem aK.mod(I:aK X gV σ H s):Mod X.K X.mg X.np:=I.ok.mod
theorem aK.kIn(I:aK X gV σ H s):X.K.In s.heap:=I.ok.mod.kin.keeps I.bk
theorem aK.fr(I:aK X gV σ H s):∃m,Fr X.np X.env.locals s.heap m:=
 let ⟨m,hn,_⟩:=I.loc
 ⟨m,hn,I.bk,T0 I.ok.bsz I.ok.above⟩
theorem aK.lt(I:aK X gV σ H s):X.env.locals<s.heap.objs.size:=let ⟨_,hn,_⟩:=I.loc;hn.lt
theorem aK.sz(I:aK X gV σ H s):X.s₀.heap.objs.size<=s.heap.objs.size:=T0 I.ok.above (Ub I.lt)
theorem aK.nofs(I:aK X gV σ H s){a:VB}(h:s.heap.objs.size<=a):a∉X.fs:=λhb=>by obtain⟨_,o,ho,_⟩:=I.ok.funs.mem hb;exact NU (T2 (N4 ho) (T0 I.sz h)) (T5 _)
theorem aK.cne(I:aK X gV σ H s):∀x c,X.env.cells.lookup x=some c->c≠X.env.locals:=λx c e z=>by obtain⟨v,o,ho,hd⟩:=I.cell x c e;obtain⟨m,⟨o',es,ep,ho',hd',_⟩,_⟩:=I.loc;rw[z,ho']at ho;cases ho;rw[hd']at hd;cases hd
theorem aK.funs(I:aK X gV σ H s):s.heap.FunFrames X.np X.xc:=by
 have all:∀(l:List Rl),(∀b∈wO l,b∈X.fs)->X.s₀.heap.FunFrames X.np l->s.heap.FunFrames X.np l:=by
  intro l
  induction l with
  |nil=>intro _ _;trivial
  |cons env r ih=>
   intro hs hl;obtain⟨hk,⟨L,o,hf,hn,ho,hd⟩,hr⟩:=hl;have hL:L∈X.fs:=hs L (by unfold wO;rw[SO,hf];exact R6);obtain⟨sl,e⟩:=I.np.slot L o ho (I.ok.frf L hL) hL λz=>I.ok.exfs L z hL;exact⟨hk,⟨L,_,hf,hn,e,hd⟩,ih (λb hb=>hs b (by unfold wO;rw[SO,hf];exact R7 _ hb)) hr⟩
 exact all X.xc (λ_ hb=>hb) I.ok.funs
theorem aK.stack(I:aK X gV σ H s):s.heap.FunFrames X.np X.stack:=by
 rcases I.ok.stk with e|⟨e,hf⟩
 .rw[e];exact I.funs
 .rw[e];obtain⟨m,hn,_⟩:=I.loc;refine .cons (by rw[I.ok.kind];decide) hf hn ?_ I.funs;exact Qf (T0 I.ok.bsz I.ok.above)
theorem aK.stkSub(I:aK X gV σ H s):∀b∈wO X.stack,b∈X.env.locals::X.fs:=λb hb=>by
 rcases I.ok.stk with e|⟨e,hf⟩
 .rw[e]at hb;exact R7 _ hb
 .rw[e]at hb;unfold wO at hb;rw[SO,hf]at hb;exact hb
theorem aK.stkFree(I:aK X gV σ H s):∀b∈wO X.stack,H b=none:=λb hb=>by
 rcases RV.mp (I.stkSub b hb)with e|hb
 .rw[e];exact I.free
 .obtain⟨_,o,ho,_⟩:=I.ok.funs.mem hb;exact I.np.free b o ho (I.ok.frf b hb) λz=>I.ok.exfs b z hb
theorem aK.step{g':Array P8}{t':Nat}{d':Drawn}{ch:List VB}(I:aK X gV σ H s)(hch:∀b∈ch,(b∈X.ex\/X.s₀.heap.objs.size<=b)/\b≠X.env.locals/\(∀x c,X.env.cells.lookup x=some c->c≠b)/\∀p∈X.pn++gV,p.1≠b)(keep:∀b o,b≠X.env.locals->b∉X.fs->b∉ch->s.heap.get? b=some o->H b=none->h'.get? b=some o)(slot:∀b o,b≠X.env.locals->b∈X.fs->b∉ch->s.heap.get? b=some o->H b=none->∃sl,h'.get? b=some {o with slots:=sl})(free:∀b o,b∉ch->s.heap.get? b=some o->H b=none->H' b=none)(there:∀b o,b∉ch->s.heap.get? b=some o->∃o',h'.get? b=some o')(tups:∀b xs,H b=some (.tup xs)->H' b=some (.tup xs))(frzs:∀b o u,H b=some (.frz o u)->H' b=some (.frz o u))(tbls:∀b ps,H b=some (.tbl ps)->∃more,H' b=some (.tbl (ps++more)))(ns:∀m,s.heap.Ns X.env.locals m->h'.Ns X.env.locals m)(hok:kh X.prog X.w H' h')(hg:QD g'):aK X gV σ H' {s with heap:=h',gens:=g',drawn:=d',toks:=t'}:=by
 have neL:∀b o,X.s₀.heap.get? b=some o->b≠X.env.locals:=λb o e=>TY (T2 (N4 e) I.ok.above);have neC:∀b o,X.s₀.heap.get? b=some o->b∉X.ex->b∉ch:=λb o e hx hb=>by
  rcases(hch b hb).1 with z|z
  .exact hx z
  .exact NU (T2 (N4 e) z) (T5 _)
 have cellK:∀x c,X.env.cells.lookup x=some c->∀v,s.heap.IsCell c v->h'.IsCell c v:=λx c e v ⟨o,ho,hd⟩=>by
  have nch:c∉ch:=λz=>(hch c z).2.2.1 x c e rfl
  by_cases hc:c∈X.fs
  .obtain⟨sl,q⟩:=slot c o (I.cne x c e) hc nch ho (I.freeC x c e);exact⟨_,q,hd⟩
  .exact⟨o,keep c o (I.cne x c e) hc nch ho (I.freeC x c e),hd⟩
 refine⟨I.ok,I.os,hg,⟨λb o e n hb hx=>?_,λb o e n hb hx=>?_,λb o e n hx=>?_,λb o e hx=>?_,λb xs e=>tups b xs (I.np.tups b xs e),λb o xs e=>frzs b o xs (I.np.frzs b o xs e),λb ps e=>?_⟩,?_,λx c e=>?_,?_,λx c e=>?_,λp hp=>?_,hok,I.len⟩
 .exact keep b o (neL b o e) hb (neC b o e hx) (I.np.keep b o e n hb hx) (I.np.free b o e n hx)
 .obtain⟨sl,e1⟩:=I.np.slot b o e n hb hx;obtain⟨sl',e2⟩:=slot b _ (neL b o e) hb (neC b o e hx) e1 (I.np.free b o e n hx);exact⟨sl',e2⟩
 .obtain⟨o',e1⟩:=I.np.there b o e hx;exact free b o' (neC b o e hx) e1 (I.np.free b o e n hx)
 .obtain⟨o',e1⟩:=I.np.there b o e hx;exact there b o' (neC b o e hx) e1
 .obtain⟨m1,e1⟩:=I.np.tbls b ps e;obtain⟨m2,e2⟩:=tbls b _ e1;exact⟨m1++m2,by rw[e2,Array.append_assoc]⟩
 .obtain⟨m,hn,hl⟩:=I.loc;refine⟨m,ns m hn,λi x v e1 e2 e3=>?_⟩;obtain⟨u,r,l⟩:=hl i x v e1 e2 e3;refine⟨u,r,?_⟩
  rcases l with l|⟨k,c,e,z⟩
  .exact .inl l
  .exact .inr ⟨k,c,e,cellK x c e _ z⟩
 .obtain⟨v,z⟩:=I.cell x c e;exact⟨v,cellK x c e v z⟩
 .obtain⟨m,⟨o,_,_,ho,_⟩,_⟩:=I.loc;exact free _ o (λz=>(hch _ z).2.1 rfl) ho I.free
 .obtain⟨v,o,ho,hd⟩:=I.cell x c e;exact free c o (λz=>(hch c z).2.2.1 x c e rfl) ho (I.freeC x c e)
 .obtain⟨e,n,ne,nf,d⟩:=I.pin p hp;have nch:p.1∉ch:=λz=>(hch p.1 z).2.2.2 p hp rfl;exact⟨keep p.1 p.2 ne nf nch e n,free p.1 p.2 nch e n,ne,nf,d⟩
theorem aK.un{t':Nat}(I:aK X gV σ H s)(u:Un X.fs [] H H' s.heap h')(hok:kh X.prog X.w H' h'):aK X gV σ H' {s with heap:=h',toks:=t'}:=by
 obtain⟨m,⟨o,es,ep,ho,r⟩,_⟩:=id I.loc;obtain⟨sl,hL⟩:=u.any ho I.free (by simp);exact I.step (g':=s.gens) (d':=s.drawn) (ch:=[]) (λ_ z=>nomatch z) (λb o _ hb _ e n=>u.keep b o e n hb (by simp)) (λb o _ hb _ e n=>u.slot b o e n hb (by simp)) (λb o _ e n=>u.free b o e n (by simp)) (λb o _ e=>u.there b o e (by simp)) u.tups u.frzs u.tbls (λm' hm=>by
  obtain⟨o',es',ep',ho',r'⟩:=hm;rw[ho]at ho';cases ho';exact⟨_,es',ep',hL,r'⟩) hok I.bare
theorem aK.call{g':Array P8}{t':Nat}{d':Drawn}{ch:List VB}(I:aK X gV σ H s)(u:Un (wO X.stack) ch H H' s.heap h')(hok:kh X.prog X.w H' h')(hg:QD g')(hch:∀b∈ch,(b∈X.ex\/X.s₀.heap.objs.size<=b)/\b≠X.env.locals/\(∀x c,X.env.cells.lookup x=some c->c≠b)/\∀p∈X.pn++gV,p.1≠b):aK X gV σ H' {s with heap:=h',gens:=g',drawn:=d',toks:=t'}:=by
 obtain⟨m,⟨o,es,ep,ho,r⟩,_⟩:=id I.loc;obtain⟨sl,hL⟩:=u.any ho I.free λz=>(hch _ z).2.1 rfl;exact I.step (ch:=ch) hch (λb o hL hb hc e n=>u.keep b o e n (λz=>(RV.mp (I.stkSub b z)).elim hL hb) hc) (λb o _ _ hc e n=>u.any e n hc) (λb o hc e n=>u.free b o e n hc) (λb o hc e=>u.there b o e hc) u.tups u.frzs u.tbls (λm' hm=>by
  obtain⟨o',es',ep',ho',r'⟩:=hm;rw[ho]at ho';cases ho';exact⟨_,es',ep',hL,r'⟩) hok hg
theorem aK.turned{t':Nat}{it:VB}(I:aK X gV σ H s)(k:∀b o,b≠it->s.heap.get? b=some o->h'.get? b=some o)(hn:H it=none)(hL:it≠X.env.locals)(h1:it∈X.ex\/X.s₀.heap.objs.size<=it)(h2:∀x c,X.env.cells.lookup x=some c->c≠it)(h3:∀p∈X.pn++gV,p.1≠it):aK X gV σ H {s with heap:=h',toks:=t'}:=by
 have nit:∀b u,H b=some u->b≠it:=λb u e z=>by rw[z,hn]at e;cases e
 refine I.step (g':=s.gens) (d':=s.drawn) (ch:=[it]) (λb hb=>?_) (λb o _ _ hc e _=>k b o (λz=>hc (by simp[z])) e) (λb o _ _ hc e _=>⟨o.slots,k b o (λz=>hc (by simp[z])) e⟩) (λ_ _ _ _ n=>n)
  (λb o hc e=>⟨o,k b o (λz=>hc (by simp[z])) e⟩) (λ_ _ e=>e) (λ_ _ _ e=>e) (λb ps e=>⟨#[],by rw[e];simp⟩) (λm hm=>?_) (λb u e=>?_) I.bare
 .have e:b=it:=by simpa using hb
  subst e;exact⟨h1,hL,h2,h3⟩
 .obtain⟨o,es,ep,ho,r⟩:=hm;exact⟨o,es,ep,k _ o (Ne.symm hL) ho,r⟩
 .refine(I.hok b u e).stay (λc v hc q=>k c v ?_ q) (λ_ q=>q) λ_ _ q=>q
  rcases hc with z|z
  .rw[z];exact nit b u e
  .exact nit c _ z
theorem aK.tok(I:aK X gV σ H s)(t:Nat):aK X gV σ H {s with toks:=t}:=I.un (h':=s.heap) (t':=t) Un.refl I.hok
theorem aK.kept{t':Nat}(I:aK X gV σ H s)(k:∀b u,s.heap.get? b=some u->h'.get? b=some u):aK X gV σ H {s with heap:=h',toks:=t'}:=I.un (Un.kept k) (I.hok.kept k)
theorem aK.laid{a:VB}{o:HO}{t':Nat}(I:aK X gV σ H s)(k:∀b u,s.heap.get? b=some u->h'.get? b=some u)(hp:s.heap.objs.size<=a)(new:bD X.prog X.w (upd H a o) h' a o):aK X gV σ (upd H a o) {s with heap:=h',toks:=t'}:=I.un (Un.laid k hp (I.hok.fresh hp)) (I.hok.laid k hp new)
theorem aK.write{x e:VB}{o:HO}{t':Nat}(I:aK X gV σ H s)(mu:MP (H x))(he:e=x\/H e=some (.own x))(k:∀b u,b≠e->s.heap.get? b=some u->h'.get? b=some u)(heo:∃u,h'.get? e=some u)(new:bD X.prog X.w (upd H x o) h' x o):aK X gV σ (upd H x o) {s with heap:=h',toks:=t'}:=I.un (Un.write mu he k heo) (I.hok.write mu he k heo new)
theorem aK.pins_of{pins':NZ}(I:aK X gV σ H s)(h:∀p∈pins',s.heap.get? p.1=some p.2/\H p.1=none/\p.1≠X.env.locals/\p.1∉X.fs/\∀v,p.2.data≠.cell v):aK X pins' σ H s:=
 ⟨I.ok,I.os,I.bare,I.np,I.loc,I.cell,I.free,I.freeC,λp hp=>(Sa.mp hp).elim (λz=>I.pin p (SA _ z)) (h p),I.hok,I.len⟩
theorem sL{N:List Str}(hN:N.Nodup){i j:Nat}{x:Str}(a:N[i]? =some x)(b:N[j]? =some x):i=j:=by obtain⟨h1,e1⟩:=Sd.mp a;obtain⟨h2,e2⟩:=Sd.mp b;exact(Tc hN).mp (e1.trans e2.symm)
theorem nO{M:Model}{A:Oi}{E:NY}{i:Nat}{x:Str}{v:V}{u:VA}{Q:Unit->N3->Prop}(I:aK X gV σ H s)(hN:X.N.Nodup)(hi:X.N[i]? =some x)(hx:Hb X.env.scope x)(r:aQ v u)(h:∀s',aK X gV (σ.set i (some v)) H s'->(∃a,OH a s.heap s'.heap/\(a=X.env.locals\/X.env.cells.lookup x=some a))->Q () s')(hf:X.fn x=true\/X.env.scope.names.lookup x=some .local:=by first|exact .inl rfl|exact .inr rfl|assumption):N8 M A (storeName X.env x u) Q E s:=by
 obtain⟨m,hn,hl⟩:=id I.loc;have hcls:(X.env.scope.kind == .class||(X.env.scope.kind == .module&&X.env.locals != X.env.globals))=false:=by rw[I.ok.kind];rfl
 have hiσ:i<σ.length:=by rw[I.len];exact(Sd.mp hi).1
 have cne:=I.cne;have tracked:∀{a:VB}{h':Oe},(∃o,s.heap.get? a=some o/\H a=none)->OH a s.heap h'->kh X.prog X.w H h':=λ{a h'} ha hs b ob e=>by
  obtain⟨_,_,hfree⟩:=ha;refine(I.hok b ob e).stay (λc w' hc q=>(hs.2 c ?_).trans q) (λ_ q=>q) λ_ _ q=>q;rintro rfl
  rcases hc with rfl|hc
  .rw[hfree]at e;cases e
  .rw[hfree]at hc;cases hc
 rcases hx with hk|hk
 .refine wpAny_storeName_local hk hn (λh' hn' hs=>?_) hcls;obtain⟨oL,_,_,hoL,_⟩:=id hn;refine h _ ⟨I.ok,I.os,I.bare,⟨λb o e n hb hx=>?_,λb o e n hb hx=>?_,I.np.free,λb o e hx=>?_,I.np.tups,I.np.frzs,I.np.tbls⟩,⟨_,hn',λj y v' e1 e2 e3=>?_⟩,λy c e=>?_,I.free,I.freeC,λp hp=>?_,tracked ⟨oL,hoL,I.free⟩ hs,by simpa using I.len⟩ ⟨_,hs,.inl rfl⟩
  .exact(hs.2 b (TY (T2 (N4 e) I.ok.above))).trans (I.np.keep b o e n hb hx)
  .obtain⟨sl,e1⟩:=I.np.slot b o e n hb hx;exact⟨sl,(hs.2 b (TY (T2 (N4 e) I.ok.above))).trans e1⟩
  .obtain⟨o',e1⟩:=I.np.there b o e hx;exact⟨o',(hs.2 b (TY (T2 (N4 e) I.ok.above))).trans e1⟩
  .by_cases hj:j=i
   .subst hj;rw[hi]at e1;cases e1;rw[S0 hiσ]at e2;cases e2;exact⟨u,r,.inl ⟨hk,by simp⟩⟩
   .rw[S3 (Ne.symm hj)]at e2;obtain⟨u',r',q⟩:=hl j y v' e1 e2 e3;refine⟨u',r',?_⟩
    rcases q with⟨k,e⟩|⟨k,c,e,z⟩
    .refine .inl ⟨k,?_⟩;have:y≠x:=λe=>hj (sL hN e1 (e▸hi));simp[this,e]
    .exact .inr ⟨k,c,e,z.sameBut hs (cne y c e)⟩
  .obtain⟨w',z⟩:=I.cell y c e;exact⟨w',z.sameBut hs (cne y c e)⟩
  .obtain⟨e,n,ne,nf,d⟩:=I.pin p hp;exact⟨(hs.2 p.1 ne).trans e,n,ne,nf,d⟩
 .have hfn:X.fn x=true:=by
   rcases hf with z|z
   .exact z
   .rw[z]at hk;cases hk
  obtain⟨c,hc⟩:=I.ok.has x (.inl hk);obtain⟨w',z⟩:=I.cell x c hc;refine wpAny_storeName_cell I.ok.kind hk hc z (λh' hc' hs=>?_);obtain⟨oc,hoc,hocd⟩:=id z;refine h {s with heap:=h'} ⟨I.ok,I.os,I.bare,⟨λb o e n hb hx=>?_,λb o e n hb hx=>?_,I.np.free,λb o e hx=>?_,I.np.tups,I.np.frzs,I.np.tbls⟩,⟨m,hn.sameBut hs (Ne.symm (cne x c hc)),λj y v' e1 e2 e3=>?_⟩,λy c' e=>?_,I.free,I.freeC,λp hp=>?_,tracked ⟨oc,hoc,I.freeC x c hc⟩ hs,by simpa using I.len⟩ ⟨c,hs,.inr hc⟩
  .exact(hs.2 b (TY (T2 (N4 e) (I.ok.cab x c hfn hc)))).trans (I.np.keep b o e n hb hx)
  .obtain⟨sl,e1⟩:=I.np.slot b o e n hb hx;exact⟨sl,(hs.2 b (TY (T2 (N4 e) (I.ok.cab x c hfn hc)))).trans e1⟩
  .obtain⟨o',e1⟩:=I.np.there b o e hx;exact⟨o',(hs.2 b (TY (T2 (N4 e) (I.ok.cab x c hfn hc)))).trans e1⟩
  .by_cases hj:j=i
   .subst hj;rw[hi]at e1;cases e1;rw[S0 hiσ]at e2;cases e2;exact⟨u,r,.inr ⟨.inl hk,c,hc,hc'⟩⟩
   .rw[S3 (Ne.symm hj)]at e2;obtain⟨u',r',q⟩:=hl j y v' e1 e2 e3;refine⟨u',r',?_⟩
    rcases q with q|⟨k,c',e,z'⟩
    .exact .inl q
    .refine .inr ⟨k,c',e,z'.sameBut hs ?_⟩;rintro rfl;exact hj (sL hN e1 (I.ok.inj _ _ _ e hc▸hi))
  .by_cases hcc:c'=c
   .subst hcc;exact⟨_,hc'⟩
   .obtain⟨w2,z2⟩:=I.cell y c' e;exact⟨w2,z2.sameBut hs hcc⟩
  .obtain⟨e,n,ne,nf,d⟩:=I.pin p hp;refine⟨(hs.2 p.1 ?_).trans e,n,ne,nf,d⟩;intro q;rw[q,hoc]at e;have q':oc=p.2:=NV e;exact d w' (by rw[<-q'];exact hocd)
theorem q9{M:Model}{A:Oi}{E:NY}{i:Nat}{x:Str}{v:V}{u:VA}{Q:Unit->N3->Prop}(I:aK X gV σ H s)(hN:X.N.Nodup)(hi:X.N[i]? =some x)(hx:Hb X.env.scope x)(r:aQ v u)(h:∀s',aK X gV (σ.set i (some v)) H s'->Q () s')(hf:X.fn x=true\/X.env.scope.names.lookup x=some .local:=by first|exact .inl rfl|exact .inr rfl|assumption):N8 M A (storeName X.env x u) Q E s:=
 nO I hN hi hx r (λs' I' _=>h s' I') hf
theorem aK.call'{s':N3}{ch:List VB}(I:aK X gV σ H s)(ho:s'.os=s.os)(u:Un (wO X.stack) ch H H' s.heap s'.heap)(hok:kh X.prog X.w H' s'.heap)(hg:QD s'.gens)(hch:∀b∈ch,(b∈X.ex\/X.s₀.heap.objs.size<=b)/\b≠X.env.locals/\(∀x c,X.env.cells.lookup x=some c->c≠b)/\∀p∈X.pn++gV,p.1≠b):aK X gV σ H' s':=by obtain⟨h',g',d',t',o'⟩:=s';have e:o'=s.os:=ho;subst e;exact I.call (g':=g') (t':=t') (d':=d') u hok hg hch
end
abbrev XK:=VA->Option VB->Hp->Prop
abbrev St:=List (Option V)
abbrev oR(a:VB):Option V:=some (.ref a)
abbrev oJ(a:Int):Option V:=some (.int a)
abbrev oT(a:Str):Option V:=some (.str a)
abbrev VK:=V->Hp->Prop
abbrev TE:=St->Hp->VK->Prop
abbrev TT:=St->Hp->(Bool->Hp->Prop)->Prop
abbrev TA:=St->Hp->(List V->Hp->Prop)->Prop
structure dW where
 nx:St->Hp->Prop
 rt:VK
 bk:St->Hp->Prop:=λ_ _=>False
 ct:St->Hp->Prop:=λ_ _=>False
abbrev TS:=dW->St->Hp->Prop
def EP(X:Cx)(gV:NZ)(σ:St)(Q:VK)(u:VA)(s':N3):Prop:= ∃v H',aK X gV σ H' s'/\aQ v u/\Q v H'
def TP(X:Cx)(gV:NZ)(σ:St)(Q:Bool->Hp->Prop)(b:Bool)(s':N3):Prop:= ∃H',aK X gV σ H' s'/\Q b H'
def AP(X:Cx)(gV:NZ)(σ:St)(Q:List V->Hp->Prop)(us:List VA)(s':N3):Prop:= ∃vs H',aK X gV σ H' s'/\aX vs us/\Q vs H'
def SP(X:Cx)(gV:NZ)(D:dW)(f:Flow)(s':N3):Prop:=
 match f with
 | .next=>∃σ' H',aK X gV σ' H' s'/\D.nx σ' H'
 | .brk=>∃σ' H',aK X gV σ' H' s'/\D.bk σ' H'
 | .cont=>∃σ' H',aK X gV σ' H' s'/\D.ct σ' H'
 | .ret u=>∃v σ' H',aK X gV σ' H' s'/\aQ v u/\D.rt v H'
def PE(X:Cx)(e:Ol)(t:TE):Prop:=
 ∀(gV:NZ)(s:N3)(σ:St)(H:Hp)(Q:VK),aK X gV σ H s->t σ H Q->N8 (Od X.prog X.w) X.A (Ow e X.env) (EP X gV σ Q) X.xe s
def PT(X:Cx)(e:Ol)(t:TT):Prop:=
 ∀(gV:NZ)(s:N3)(σ:St)(H:Hp)(Q:Bool->Hp->Prop),aK X gV σ H s->t σ H Q->N8 (Od X.prog X.w) X.A (isTrue e X.env (Ow e X.env)) (TP X gV σ Q) X.xe s
def PW(X:Cx)(e:Ol)(t:TT):Prop:=
 ∀(whole:RS VA)(gV:NZ)(s:N3)(σ:St)(H:Hp)(Q:Bool->Hp->Prop),aK X gV σ H s->t σ H Q->N8 (Od X.prog X.w) X.A (isTrue e X.env whole) (TP X gV σ Q) X.xe s
theorem PW.pt{X:Cx}{e:Ol}{t:TT}(h:PW X e t):PT X e t:=h _
def PA(X:Cx)(es:List Ol)(t:TA):Prop:=
 ∀(pos:Qa)(gV:NZ)(s:N3)(σ:St)(H:Hp)(Q:List V->Hp->Prop),aK X gV σ H s->t σ H Q->N8 (Od X.prog X.w) X.A (spliced (Ot pos (N6 es X.env))) (AP X gV σ Q) X.xe s
def PS(X:Cx)(st:Oo)(t:TS):Prop:=
 ∀(gV:NZ)(s:N3)(σ:St)(H:Hp)(D:dW),aK X gV σ H s->t D σ H->N8 (Od X.prog X.w) X.A (exec st X.env) (SP X gV D) X.xe s
def t6(X:Cx)(st:List Oo)(t:TS):Prop:=
 ∀(gV:NZ)(s:N3)(σ:St)(H:Hp)(D:dW),aK X gV σ H s->t D σ H->N8 (Od X.prog X.w) X.A (execs st X.env) (SP X gV D) X.xe s
theorem bM{α:Type}{t:RS α}{Q Q':α->N3->Prop}{M:Model}{A:Oi}{E:NY}{s:N3}(h:N8 M A t Q E s)(hQ:∀a s,Q a s->Q' a s):N8 M A t Q' E s:=O6 h hQ λ_ _ x=>x
section
variable{X:Cx}
theorem bin{a b:Ol}{ta tb:TE}(ha:PE X a ta)(hb:PE X b tb){gV:NZ}{s:N3}{σ:St}{H:Hp}{R:V->V->Hp->Prop}(I:aK X gV σ H s)(h:ta σ H λx H1=>tb σ H1 λy H2=>R x y H2){α:Type}{Q:α->N3->Prop}{f:VA->VA->RS α}(hf:∀v u s2 x y H2,aK X gV σ H2 s2->aQ x v->aQ y u->R x y H2->N8 (Od X.prog X.w) X.A (f v u) Q X.xe s2):N8 (Od X.prog X.w) X.A (Ow a X.env) (λv s₁=>N8 (Od X.prog X.w) X.A (Ow b X.env) (λu s₂=>N8 (Od X.prog X.w) X.A (f v u) Q X.xe s₂) X.xe s₁) X.xe s:=by refine bM (ha gV s σ H _ I h) λv s1 ⟨x,H1,I1,r1,q1⟩=>?_;refine bM (hb gV s1 σ H1 _ I1 q1) λu s2 ⟨y,H2,I2,r2,q2⟩=>?_;exact hf v u s2 x y H2 I2 r1 r2 q2
def Nk(i:Nat):TE:=λσ H Q=>∃v,σ[i]? =some (some v)/\Q v H
def tC(v:V):TE:=λ_ H Q=>Q v H
theorem HS{i:Nat}{x:Str}{pos:Qa}(hN:X.N[i]? =some x)(hv:MN X.env.scope x)(hd:(x == ("__debug__":Str))=false:=by decide)(hcd:(x == ("__classdict__":Str))=false:=by decide):PE X (.Name x pos) (Nk i):=by
 intro gV s σ H Q I h;obtain⟨v,e,h⟩:=h;obtain⟨m,hn,hl⟩:=I.loc;obtain⟨u,r,l⟩:=hl i x v hN e hv;have fin:EP X gV σ Q u s:=⟨v,H,I,r,h⟩
 rcases l with⟨hk,hm⟩|⟨hk,c,hc,hcell⟩
 .exact wpAny_Name (wpAny_loadName_local I.ok.kind hk hn hm fin) hd
 .rcases hk with hk|hk
  .exact wpAny_Name (wpAny_loadName_cell I.ok.kind hk hc hcell fin) hd
  .exact wpAny_Name (wpAny_loadName_free I.ok.kind hk hc hcell fin hcd) hd
theorem ag{i j pos}:PE X (.Constant (.int i) j pos) (tC (.int i)):=λ_ _ _ H _ I h=>wpAny_Constant_int ⟨.int i,H,I.tok _,⟨_,rfl⟩,h⟩
theorem dv{b j pos}:PE X (.Constant (.bool b) j pos) (tC (.bl b)):=λ_ _ _ H _ I h=>Constant_bool ⟨.bl b,H,I,rfl,h⟩
theorem hV{j pos}:PE X (.Constant .none j pos) (tC .non):=λ_ _ _ H _ I h=>Constant_none ⟨.non,H,I,rfl,h⟩
theorem bq{x j pos}:PE X (.Constant (.str x) j pos) (tC (.str x)):=λ_ _ _ H _ I h=>Calls.Constant_str ⟨.str x,H,I.tok _,⟨_,rfl⟩,h⟩
def Gl(X:Cx)(x:Str):Prop:=X.env.kindOf x=some .globalImplicit
theorem qy{E:NY}{gV:NZ}{s:N3}{σ:St}{H:Hp}{x:Str}{u:VA}{pos:Qa}{Q:NY}(I:aK X gV σ H s)(hg:Gl X x)(hm:X.mg x=some u)(h:Q u s)(hd:(x == ("__debug__":Str))=false:=by decide):N8 (Od X.prog X.w) X.A (Ow (.Name x pos) X.env) Q E s:=
 Qx I.ok.kind hg (Calls.loadGlobal_global (by rw[I.ok.glob];exact I.mod.glob.keeps I.bk) hm h) hd
theorem iH{E:NY}{gV:NZ}{s:N3}{σ:St}{H:Hp}{x:Str}{u:VA}{pos:Qa}{Q:NY}(I:aK X gV σ H s)(hg:Gl X x)(hm:X.mg x=none)(hv:Oh x=some u)(h:Q u s)(hn:x≠"__name__":=by decide)(hd:(x == ("__debug__":Str))=false:=by decide):N8 (Od X.prog X.w) X.A (Ow (.Name x pos) X.env) Q E s:=by obtain⟨mb,h1,h2⟩:=I.mod.blt;exact Qx I.ok.kind hg (Calls.loadGlobal_builtin (by rw[I.ok.glob];exact I.mod.glob.keeps I.bk) hm (by rw[I.ok.blt];exact h1.keeps I.bk) ((h2 x hn).trans hv) h) hd
theorem Cg{x:Str}{v:V}{u:VA}{pos:Qa}(hg:Gl X x)(hm:X.mg x=some u)(r:aQ v u)(hd:(x == ("__debug__":Str))=false:=by decide):PE X (.Name x pos) (tC v):=
 λ_ _ _ H _ I h=>qy I hg hm ⟨v,H,I,r,h⟩ hd
theorem Ck{x:Str}{v:V}{u:VA}{pos:Qa}(hg:Gl X x)(hm:X.mg x=none)(hv:Oh x=some u)(r:aQ v u)(hn:x≠"__name__":=by decide)(hd:(x == ("__debug__":Str))=false:=by decide):PE X (.Name x pos) (tC v):=
 λ_ _ _ H _ I h=>iH I hg hm hv ⟨v,H,I,r,h⟩ hn hd
variable{a b:Ol}{ta tb:TE}{pos:Qa}
def PC(X:Cx)(op:Po)(a b:Ol)(t:TE):Prop:=
 ∀(gV:NZ)(s:N3)(σ:St)(H:Hp)(Q:VK),aK X gV σ H s->t σ H Q->
  N8 (Od X.prog X.w) X.A (Ow a X.env) (λv s₁=>N8 (Od X.prog X.w) X.A (Ow b X.env) (λu s₂=>N8 (Od X.prog X.w) X.A (OC op v u) (EP X gV σ Q) X.xe s₂) X.xe s₁) X.xe s
def tB(t:TE):TT:=λσ H Q=>t σ H λx H1=>∃c,x=.bl c/\Q c H1
variable{tA tB':TT}{rest:List Ol}
def BQ(t u:TT):TT:=λσ H Q=>t σ H λc H1=>if c=true then u σ H1 Q else Q false H1
def Hq(t u:TT):TT:=λσ H Q=>t σ H λc H1=>if c=true then Q true H1 else u σ H1 Q
def xv(t:TT):TT:=λσ H Q=>t σ H λc H1=>Q (!c) H1
theorem fE(ha:PT X a tA):PW X (.BoolOp .And [a] pos) tA:=by
 intro wh gV s σ H Q I h;refine isTrue_and (bM (ha gV s σ H Q I h) λc s1 e=>?_);cases c with
 |true=>exact isTrue_and_nil e
 |false=>exact e
theorem cW(ha:PT X a tA):PW X (.BoolOp .Or [a] pos) tA:=by
 intro wh gV s σ H Q I h;refine isTrue_or (bM (ha gV s σ H Q I h) λc s1 e=>?_);cases c with
 |false=>exact isTrue_or_nil e
 |true=>exact e
theorem gv(ha:PT X a tA)(hb:PW X (.BoolOp .And (b::rest) pos) tB'):PW X (.BoolOp .And (a::b::rest) pos) (BQ tA tB'):=by
 intro wh gV s σ H Q I h;refine isTrue_and (bM (ha gV s σ H _ I h) λc s1 ⟨H1,I1,q1⟩=>?_);cases c with
 |true=>exact hb wh gV s1 σ H1 Q I1 q1
 |false=>exact⟨H1,I1,q1⟩
theorem dZ(ha:PT X a tA)(hb:PW X (.BoolOp .Or (b::rest) pos) tB'):PW X (.BoolOp .Or (a::b::rest) pos) (Hq tA tB'):=by
 intro wh gV s σ H Q I h;refine isTrue_or (bM (ha gV s σ H _ I h) λc s1 ⟨H1,I1,q1⟩=>?_);cases c with
 |true=>exact⟨H1,I1,q1⟩
 |false=>exact hb wh gV s1 σ H1 Q I1 q1
theorem bN(ha:PT X a tA):PT X (.UnaryOp .Not a pos) (xv tA):=by intro gV s σ H Q I h;exact isTrue_not (ha gV s σ H (λc H1=>Q (!c) H1) I h)
theorem fm{op}{t:TE}(h:PE X a t):PE X (.BoolOp op [a] pos) t:=λgV s σ H Q I hw=>BoolOp_one (h gV s σ H Q I hw)
def Jq(t:TT)(ta tb:TE):TE:=λσ H Q=>t σ H λc H1=>if c=true then ta σ H1 Q else tb σ H1 Q
theorem de{c:Ol}(hc:PT X c tA)(ha:PE X a ta)(hb:PE X b tb):PE X (.IfExp c a b pos) (Jq tA ta tb):=by
 intro gV s σ H Q I h;refine wpAny_IfExp (bM (hc gV s σ H _ I h) λd s1 ⟨H1,I1,q1⟩=>?_);cases d with
 |true=>exact ha gV s1 σ H1 Q I1 q1
 |false=>exact hb gV s1 σ H1 Q I1 q1
end
def aN(K:Frag)(H:Hp)(a:VB)(xs:List V):Prop:=
 Rd H a (.lst xs)\/
  ∃(o:Obj)(its:Array VA)(n:Nat),K.lookup a=some o/\o.cls=.type "list"/\o.dict=none/\o.data=.seq its n/\its.size<=v1/\aX xs its.toList
def cJ(K:Frag)(H:Hp)(a:VB)(xs:List V):Prop:=
 Rd H a (.tup xs)\/
  ∃(o:Obj)(its:Array VA)(n:Nat),K.lookup a=some o/\o.cls=.type "tuple"/\o.data=.seq its n/\its.size<=v1/\aX xs its.toList
def NJ:VA->Option V
 | .none=>some .non
 | .bool b=>some (.bl b)
 | .int i _=>some (.int i)
 | .str x _=>some (.str x)
 | .bytes b _=>some (.byt b)
 | .float b _=>some (.flt b)
 | .ref a=>some (.ref a)
 | .type n=>some (.ty n)
 |_=>none
theorem aQ.abs{x:V}{u:VA}(r:aQ x u):NJ u=some x:=by
 cases x with
 |non=>cases r;rfl
 |bl _=>cases r;rfl
 |int _=>obtain⟨t,rfl⟩:=r;rfl
 |str _=>obtain⟨t,rfl⟩:=r;rfl
 |byt _=>obtain⟨t,rfl⟩:=r;rfl
 |flt _=>obtain⟨t,rfl⟩:=r;rfl
 |ref _=>cases r;rfl
 |ty _=>cases r;rfl
theorem aQ.inj{x y:V}{u:VA}(r:aQ x u)(q:aQ y u):x=y:=NV (r.abs.symm.trans q.abs)
theorem aX.inj:∀{xs ys:List V}{us:List VA},aX xs us->aX ys us->xs=ys
 |_,_,_,.nil,.nil=>rfl
 |_,_,_,.cons r t,.cons r' t'=>by rw[r.inj r',aX.inj t t']
section
variable{X:Cx}{gV:NZ}{σ:St}{H:Hp}{s:N3}{a:VB}{xs ys:List V}
theorem aN.of{K:Frag}(h:H a=some (.lst xs)):aN K H a xs:=.inl (.inl h)
theorem cJ.of{K:Frag}(h:H a=some (.tup xs)):cJ K H a xs:=.inl (.inl h)
theorem aK.list(I:aK X gV σ H s)(h:aN X.K H a xs):∃its:List VA,aX xs its/\PlainL s.heap a its.toArray/\xs.length<=v1:=by
 rcases h with h|⟨o,its,n,hk,hc,hd,hs,hz,r⟩
 .obtain⟨z,its,n,r,e⟩:=h.ok I.hok;exact⟨its,r,⟨_,n,e,rfl,rfl,rfl⟩,z⟩
 .refine⟨its.toList,r,⟨o,n,I.kIn a o hk,hc,hd,by simpa using hs⟩,?_⟩;have e:=r.length;simp only[UT]at e;omega
theorem aK.tuple(I:aK X gV σ H s)(h:cJ X.K H a xs):∃its:List VA,aX xs its/\IsTup s.heap a its.toArray/\xs.length<=v1:=by
 rcases h with h|⟨o,its,n,hk,hc,hs,hz,r⟩
 .obtain⟨z,its,r,p⟩:=h.ok I.hok;exact⟨its,r,p,z⟩
 .refine⟨its.toList,r,⟨o,I.kIn a o hk,hc,n,by simpa using hs⟩,?_⟩;have e:=r.length;simp only[UT]at e;omega
theorem aK.list_inj(I:aK X gV σ H s)(h:aN X.K H a xs)(h':aN X.K H a ys):xs=ys:=by
 obtain⟨its,r,⟨o,n,e,_,_,d⟩,_⟩:=I.list h;obtain⟨its',r',⟨o',n',e',_,_,d'⟩,_⟩:=I.list h';rw[e]at e';cases e';rw[d]at d';injection d' with d1 _;have:its=its':=by simpa using NW Array.toList d1
 subst this;exact r.inj r'
end
abbrev Cx.wish(X:Cx)(E:NY):Cx:={X with xe:=E}
abbrev Cx.nox(X:Cx):Cx:=X.wish λ_ _=>False
theorem Cx.Ok.wish{X:Cx}(ok:X.Ok)(E:NY):(X.wish E).Ok:=
 ⟨ok.mod,ok.kind,ok.glob,ok.blt,ok.above,ok.inj,ok.has,ok.cab,ok.hd,ok.frames,ok.stk,ok.exf,ok.bs,ok.bsz,ok.noex,ok.exfs,ok.funs,ok.frf⟩
theorem Cx.Ok.unwish{X:Cx}{E:NY}(ok:(X.wish E).Ok):X.Ok:=
 ⟨ok.mod,ok.kind,ok.glob,ok.blt,ok.above,ok.inj,ok.has,ok.cab,ok.hd,ok.frames,ok.stk,ok.exf,ok.bs,ok.bsz,ok.noex,ok.exfs,ok.funs,ok.frf⟩
section
variable{X:Cx}{gV:NZ}{σ:St}{H:Hp}{s:N3}{E:NY}
theorem aK.wish(I:aK X gV σ H s)(E:NY):aK (X.wish E) gV σ H s:=⟨I.ok.wish E,I.os,I.bare,I.np,I.loc,I.cell,I.free,I.freeC,I.pin,I.hok,I.len⟩
theorem aK.unwish(I:aK (X.wish E) gV σ H s):aK X gV σ H s:=⟨I.ok.unwish,I.os,I.bare,I.np,I.loc,I.cell,I.free,I.freeC,I.pin,I.hok,I.len⟩
theorem SP.unwish{D:dW}{f:Flow}{s':N3}(h:SP (X.wish E) gV D f s'):SP X gV D f s':=by
 cases f with
 |next=>obtain⟨σ',H',I,q⟩:=h;exact⟨σ',H',I.unwish,q⟩
 |brk=>obtain⟨σ',H',I,q⟩:=h;exact⟨σ',H',I.unwish,q⟩
 |cont=>obtain⟨σ',H',I,q⟩:=h;exact⟨σ',H',I.unwish,q⟩
 |ret u=>obtain⟨v,σ',H',I,r,q⟩:=h;exact⟨v,σ',H',I.unwish,r,q⟩
theorem t6.nox{st:List Oo}{t:TS}(h:t6 X.nox st t):t6 X st t:=λgV s σ H D I hw=>
 O6 (h gV s σ H D (I.wish _) hw) (λ_ _ q=>q.unwish) λ_ _ z=>False.elim z
end
section
variable{X:Cx}{st:Oo}{rest:List Oo}{t u:TS}{e:Ol}{te:TE}{pos:Qa}
def lR:TS:=λD σ H=>D.nx σ H
def bj(t u:TS):TS:=λD σ H=>t {D with nx:=u D} σ H
theorem aF:t6 X [] lR:=λ_ _ σ H _ I h=>Qg ⟨σ,H,I,h⟩
theorem af(h1:PS X st t)(h2:t6 X rest u):t6 X (st::rest) (bj t u):=by
 intro gV s σ H D I h;refine wpAny_execs_cons (bM (h1 gV s σ H {D with nx:=u D} I h) λf s1 q=>?_);cases f with
 |next=>
  obtain⟨σ',H',I',q⟩:=q;exact h2 gV s1 σ' H' D I' q
 |ret v=>exact q
 |brk=>exact q
 |cont=>exact q
theorem aj(h1:PS X st t):t6 X [st] t:=by
 intro gV s σ H D I h;refine wpAny_execs_cons (bM (h1 gV s σ H D I h) λf s1 q=>?_);cases f with
 |next=>exact Qg q
 |ret v=>exact q
 |brk=>exact q
 |cont=>exact q
def Hr:TS:=λD σ H=>D.bk σ H
theorem Ac:PS X (.Break pos) Hr:=λ_ _ σ H _ I h=>wpAny_Break ⟨σ,H,I,h⟩
theorem aK.quiet{gV:NZ}{σ:St}{H:Hp}{s:N3}(I:aK X gV σ H s):interactive X.env=false:=by simp[interactive,I.ok.kind]
def jf(te:TE):TS:=λD σ H=>te σ H λ_ H1=>D.nx σ H1
theorem fF(he:PE X e te)(hs:QN e none pos.line X.env=pure false:=by rfl):PS X (.Expr e pos) (jf te):=by intro gV s σ H D I h;exact wpAny_Expr_any (bM (he gV s σ H _ I h) λv s1 ⟨x,H1,I1,r1,q1⟩=>⟨σ,H1,I1,q1⟩) I.quiet hs
def cg(te:TE):TS:=λD σ H=>te σ H D.rt
theorem aB(he:PE X e te):PS X (.Return (some e) pos) (cg te):=by intro gV s σ H D I h;exact wpAny_Return_some (bM (he gV s σ H _ I h) λv s1 ⟨x,H1,I1,r1,q1⟩=>⟨x,σ,H1,I1,r1,q1⟩)
def lS(c:TT)(t u:TS):TS:=λD σ H=>c σ H λb H1=>if b=true then t D σ H1 else u D σ H1
theorem aR{c:Ol}{a b:List Oo}{tc:TT}(hc:PT X c tc)(ha:t6 X a t)(hb:t6 X b u):PS X (.If c a b pos) (lS tc t u):=by
 intro gV s σ H D I h;refine wpAny_If (bM (hc gV s σ H _ I h) λd s1 ⟨H1,I1,q1⟩=>?_);cases d with
 |true=>exact ha gV s1 σ H1 D I1 q1
 |false=>exact hb gV s1 σ H1 D I1 q1
def zn:TS:=λ_ _ _=>False
theorem dJ:PS X st zn:=λ_ _ _ _ _ _ h=>h.elim
theorem nZ{sts:List Oo}:t6 X sts zn:=λ_ _ _ _ _ _ h=>h.elim
end
abbrev TG:=V->St->Hp->(St->Hp->Prop)->Prop
abbrev Ha:=List V->St->Hp->(St->Hp->Prop)->Prop
def PG(X:Cx)(target:Ol)(t:TG):Prop:=
 ∀(gV:NZ)(s:N3)(σ:St)(H:Hp)(v:V)(u:VA)(Q:St->Hp->Prop),aK X gV σ H s->aQ v u->t v σ H Q->
  N8 (Od X.prog X.w) X.A (Rp target X.env u) (λ_ s'=>∃σ' H',aK X gV σ' H' s'/\Q σ' H') X.xe s
def Jx(X:Cx)(ts:List Ol)(t:Ha):Prop:=
 ∀(gV:NZ)(s:N3)(σ:St)(H:Hp)(vs:List V)(us:List VA)(Q:St->Hp->Prop),aK X gV σ H s->aX vs us->t vs σ H Q->
  N8 (Od X.prog X.w) X.A (assignInOrder ((PV ts X.env).map (·.2)) us) (λ_ s'=>∃σ' H',aK X gV σ' H' s'/\Q σ' H') X.xe s
abbrev Jk:=V->V->V->Hp->(Hp->Prop)->Prop
def MB(X:Cx)(t:Jk):Prop:=
 ∀(gV:NZ)(s:N3)(σ:St)(H:Hp)(o i v:V)(ov iv u:VA)(Q:Hp->Prop),aK X gV σ H s->aQ o ov->aQ i iv->aQ v u->t o i v H Q->
  N8 (Od X.prog X.w) X.A (setItem ov iv u) (λ_ s'=>∃H',aK X gV σ H' s'/\Q H') X.xe s
section
variable{X:Cx}{pos:Qa}
def gName(i:Nat):TG:=λv σ H Q=>Q (σ.set i (some v)) H
theorem wu{i:Nat}{x:Str}(hN:X.N.Nodup)(hi:X.N[i]? =some x)(hx:Hb X.env.scope x)(hf:X.fn x=true\/X.env.scope.names.lookup x=some .local:=by first|exact .inl rfl|exact .inr rfl|assumption):PG X (.Name x pos) (gName i):=by intro gV s σ H v u Q I r h;exact wpAny_assign_Name (q9 I hN hi hx r (λs' I'=>⟨_,H,I',h⟩) hf)
theorem bC{x:Str}(i:Nat)(hN:X.N.Nodup)(hi:X.N[i]? =some x:=by rfl)(hx:Hb X.env.scope x:=by first|exact .inl rfl|exact .inr rfl)(hf:X.fn x=true\/X.env.scope.names.lookup x=some .local:=by first|exact .inl rfl|exact .inr rfl|assumption):PG X (.Name x pos) (gName i):=wu hN hi hx hf
def yu:Ha:=λvs σ H Q=>vs=[]/\Q σ H
def gZ(t:TG)(u:Ha):Ha:=λvs σ H Q=>∃v r,vs=v::r/\t v σ H λσ' H'=>u r σ' H' Q
theorem i6:Jx X [] yu:=by intro gV s σ H vs us Q I r h;obtain⟨e,h⟩:=h;subst e;cases r;exact assignInOrder_nil ⟨σ,H,I,h⟩
theorem bY{e:Ol}{es:List Ol}{t:TG}{u:Ha}(h1:PG X e t)(h2:Jx X es u)(hs:(PV (e::es) X.env).map (·.2)=Rp e X.env::(PV es X.env).map (·.2):=by rfl):Jx X (e::es) (gZ t u):=by
 intro gV s σ H vs us Q I r h;obtain⟨v,vr,e1,h⟩:=h;subst e1;cases r with
 |cons r rr=>
  rw[hs];refine assignInOrder_cons (bM (h1 gV s σ H _ _ _ I r h) λ_ s1 ⟨σ1,H1,I1,q1⟩=>?_);exact h2 gV s1 σ1 H1 _ _ Q I1 rr q1
def vn(K:Frag)(n:Nat)(t:Ha):TG:=λv σ H Q=>∃a xs,v=.ref a/\cJ K H a xs/\xs.length=n/\t xs σ H Q
theorem HQ{es:List Ol}{k:Nat}{t:Ha}{n:Nat}(hc:X.calm=true)(h:Jx X es t)(hn:(PV es X.env).length=n:=by rfl)(hst:(PV es X.env).findIdx? (·.1)=none:=by rfl):PG X (.Tuple es k pos) (vn X.K n t):=by intro gV s σ H v u Q I r hw;obtain⟨a,xs,e1,hq,hl,hw⟩:=hw;subst e1;cases r;obtain⟨its,rv,ht,hz⟩:=I.tuple hq;refine assign_Tuple_tuple (I.ok.hd hc) ht (by simp[hn,<-hl,rv.length]) hst λh' hx=>?_;have I1:aK X gV σ H {s with heap:=h'}:=I.kept (t':=s.toks) λb o e=>hx b o (TY (N4 e)) e;exact h gV _ σ H xs _ Q I1 (by simpa using rv) hw
def gSub(to ti:TE)(t:Jk):TG:=λv σ H Q=>to σ H λo H1=>ti σ H1 λi H2=>t o i v H2 λH3=>Q σ H3
theorem HR{o i:Ol}{to ti:TE}{t:Jk}(ho:PE X o to)(hi:PE X i ti)(hs:MB X t)(ha:∀v,Rp (.Subscript o i pos) X.env v=(do
   let ov<-QU [v] (Ow o X.env)
   let iv<-QU [v,ov] (Ow i X.env)
   standAt pos
   QU [v,ov,iv] (setItem ov iv v)
   release [v,ov,iv] []):=by intro _;rfl):PG X (.Subscript o i pos) (gSub to ti t):=by
 intro gV s σ H v u Q I r h;rw[ha];refine N0 (On (bM (ho gV s σ H _ I h) λov s1 ⟨x,H1,I1,r1,q1⟩=>?_));refine N0 (On (bM (hi gV s1 σ H1 _ I1 q1) λiv s2 ⟨y,H2,I2,r2,q2⟩=>?_));refine N0 (Rg (N0 (On (bM (hs gV s2 σ H2 x y v ov iv u _ I2 r1 r2 r q2) λ_ s3 ⟨H3,I3,q3⟩=>?_))));exact wpAny_release ⟨σ,H3,I3,q3⟩
def tAsg(te:TE)(g:TG):TS:=λD σ H=>te σ H λx H1=>g x σ H1 D.nx
theorem uI{tg e:Ol}{te:TE}{g:TG}(he:PE X e te)(hg:PG X tg g)(hs:swapsWithSole [tg] e pos.line X.env=pure false:=by rfl)(hw:swappedStores [tg] e X.env=pure none:=by rfl)(h1:(PV [tg] X.env).map (·.2)=[Rp tg X.env]:=by rfl):PS X (.Assign [tg] e pos) (tAsg te g):=by intro gV s σ H D I h;refine wpAny_Assign_stores (bM (he gV s σ H _ I h) λv s1 ⟨x,H1,I1,r1,q1⟩=>?_) hs hw;rw[h1];exact bM (hg gV s1 σ H1 x v _ I1 r1 q1) λ_ s2 q=>q
theorem HL{i:Nat}{x:Str}{e:Ol}{te:TE}{pos':Qa}(hN:X.N.Nodup)(hi:X.N[i]? =some x)(hx:Hb X.env.scope x)(he:PE X e te)(hs:QN e (some (.Name x pos')) pos.line X.env=pure false:=by rfl)(hf:X.fn x=true\/X.env.scope.names.lookup x=some .local:=by first|exact .inl rfl|exact .inr rfl|assumption):PS X (.Assign [.Name x pos'] e pos) (tAsg te (gName i)):=by intro gV s σ H D I h;refine wpAny_Assign_Name (bM (he gV s σ H _ I h) λv s1 ⟨y,H1,I1,r1,q1⟩=>?_) hs;exact q9 I1 hN hi hx r1 (λs2 I2=>⟨_,H1,I2,q1⟩) hf
theorem av{x:Str}{e:Ol}{te:TE}{pos':Qa}(i:Nat)(hN:X.N.Nodup)(he:PE X e te)(hi:X.N[i]? =some x:=by rfl)(hx:Hb X.env.scope x:=by first|exact .inl rfl|exact .inr rfl)(hs:QN e (some (.Name x pos')) pos.line X.env=pure false:=by rfl)(hf:X.fn x=true\/X.env.scope.names.lookup x=some .local:=by first|exact .inl rfl|exact .inr rfl|assumption):PS X (.Assign [.Name x pos'] e pos) (tAsg te (gName i)):=HL hN hi hx he hs hf
end
section
variable{X:Cx}{pos:Qa}
def Ho(c:TT)(tb:TS):TS:=λD σ H=>∃W:Nat->St->Hp->Prop,(∃m,W m σ H)/\∀m σ H,W m σ H->
 c σ H λb H1=>if b=true then∃N:St->Hp->Prop,(∀σ' H',N σ' H'->∃m',m'<m/\W m' σ' H')/\tb {D with nx:=N,ct:=N,bk:=D.nx} σ H1 else D.nx σ H1
theorem sy{c:Ol}{body:List Oo}{tc:TT}{tb:TS}(hp:PassesOwn (Od X.prog X.w) X.A X.env X.xe)(hc:PT X c tc)(hb:t6 X body tb):PS X (.While c body [] pos) (Ho tc tb):=by
 intro gV s σ H D I h;obtain⟨W,⟨m0,w0⟩,turn⟩:=h;refine wpAny_While (codeAny_whileLoop (λn s'=>∃σ' H',aK X gV σ' H' s'/\W n σ' H') ?_ m0 ⟨σ,H,I,w0⟩);rintro n s1 ⟨σ1,H1,I1,w1⟩;refine Pb hp (bM (hc gV s1 σ1 H1 _ I1 (turn n σ1 H1 w1)) λb s2 ⟨H2,I2,q2⟩=>?_);cases b with
 |true=>
  obtain⟨N,hN,q2⟩:=q2;rw[NR rfl];refine Pb hp (bM (hb gV s2 σ1 H2 _ I2 q2) λf s3 q3=>?_);cases f with
  |next=>
   obtain⟨σ3,H3,I3,n3⟩:=q3;obtain⟨m',hm,w3⟩:=hN σ3 H3 n3;exact⟨m',hm,σ3,H3,I3,w3⟩
  |cont=>
   obtain⟨σ3,H3,I3,n3⟩:=q3;obtain⟨m',hm,w3⟩:=hN σ3 H3 n3;exact⟨m',hm,σ3,H3,I3,w3⟩
  |brk=>exact q3
  |ret v=>exact q3
 |false=>
  rw[NQ UC];exact Qg ⟨σ1,H2,I2,q2⟩
end
structure It where
 go:Nat->Hp->Prop
 yld:Nat->Hp->V->Hp->Prop
 stop:Nat->Hp->Prop
def iq(X:Cx)(gV:NZ)(H:Hp)(b:VB):Prop:=
 H b=none/\b≠X.env.locals/\b∉X.fs/\(b∈X.ex\/X.s₀.heap.objs.size<=b)/\(∀x c,X.env.cells.lookup x=some c->c≠b)/\∀p∈X.pn++gV,p.1≠b
theorem aK.fpOk{X:Cx}{gV:NZ}{σ:St}{H H':Hp}{s:N3}{b:VB}(I:aK X gV σ H s)(hb:s.heap.objs.size<=b)(hn:H' b=none):iq X gV H' b:=by
 refine⟨hn,T4 (T2 I.lt hb),I.nofs hb,.inr (T0 I.sz hb),λx c e z=>?_,λp hp z=>?_⟩
 .obtain⟨v,q⟩:=I.cell x c e;exact NU (T2 q.lt (by rw[z];exact hb)) (T5 _)
 .exact NU (T2 (N4 (I.pin p hp).1) (by rw[z];exact hb)) (T5 _)
structure vP(P:N5)(w:N9)(K:Frag)(tg:Ol)(J:It)(fp:List VB)(it:VB)(tn:Nat->Oe->Prop):Prop where
 mem:it∈fp
 obj:∀i h,tn i h->∀b∈fp,∃o,h.get? b=some o/\∀v,o.data≠.cell v
 keep:∀i h h',tn i h->(∀b∈fp,∀o,h.get? b=some o->h'.get? b=some o)->tn i h'
 item:∀(X:Cx),X.prog=P->X.w=w->X.K=K->X.calm=true->∀(i:Nat)(gV:NZ)(s:N3)(σ:St)(H:Hp)(E:NY),aK X gV σ H s->(∀b∈fp,iq X gV H b)->tn i s.heap->J.go i H->
  N8 (Od P w) X.A (Ph (.ref it)) (λr s1=>∃u,r=some u/\
   N8 (Od P w) X.A (PP tg (.ref it) u) (λ_ s2=>∃x H',aK X gV σ H' s2/\aQ x u/\J.yld i H x H'/\tn (i+1) s2.heap/\∀b∈fp,H' b=none) E s1) E s
 done:∀(X:Cx),X.prog=P->X.w=w->X.K=K->X.calm=true->∀(i:Nat)(gV:NZ)(s:N3)(σ:St)(H:Hp)(E:NY),aK X gV σ H s->(∀b∈fp,iq X gV H b)->tn i s.heap->J.stop i H->
   N8 (Od P w) X.A (Ph (.ref it)) (λr s1=>r=none/\aK X gV σ H s1) E s
 self:∀(A:Oi)(i:Nat)(s:N3)(Q:NY)(E:NY),tn i s.heap->Q (.ref it) s->N8 (Od P w) A (pyIter (.ref it)) Q E s
abbrev TI:=St->Hp->(It->Hp->Prop)->Prop
def NL(X:Cx)(gV:NZ)(σ:St)(tg:Ol)(R:It->Hp->Prop)(itv:VA)(s2:N3):Prop:=
 ∃(it:VB)(fp:List VB)(tn:Nat->Oe->Prop)(J:It)(H':Hp),itv=.ref it/\aK X gV σ H' s2/\vP X.prog X.w X.K tg J fp it tn/\tn 0 s2.heap/\(∀b∈fp,iq X gV H' b)/\R J H'
def PI(X:Cx)(tg iter:Ol)(wi:TI):Prop:=
 ∀(gV:NZ)(s:N3)(σ:St)(H:Hp)(R:It->Hp->Prop),aK X gV σ H s->wi σ H R->
  N8 (Od X.prog X.w) X.A (Ow iter X.env) (λv s1=>N8 (Od X.prog X.w) X.A (pyIter v) (NL X gV σ tg R) X.xe s1) X.xe s
theorem AR{M:Model}{A:Oi}{E:NY}{s:N3}{tg:Ol}{it:VB}{u:VA}{o:Obj}{n:String}{vs:Array VA}{Q:Unit->N3->Prop}(ho:s.heap.get? it=some o)(hc:o.cls=.type n)(hd:o.data=.fields vs)(hn:["enumerate","zip","dict_itemiterator","dict_reverseitemiterator","odict_iterator","itertools.zip_longest","itertools.pairwise"].contains n=false)(hQ:Q () s):N8 M A (PP tg (.ref it) u) Q E s:=by
 unfold PP;cases tg<;>first
  |exact N2 hQ
  |(cases u<;>first
    |exact N2 hQ
    |(refine N0 (wpAny_load ho ?_)
      rw[hc,hd];show N8 M A (if(["enumerate","zip","dict_itemiterator","dict_reverseitemiterator","odict_iterator","itertools.zip_longest","itertools.pairwise"].contains n&&vs[0]? == some (Qh _))=true then _ else _) Q E s;rw[NQ (by intro h;rw[hn,Bool.false_and]at h;cases h)];exact N2 hQ))
def Hc(K:Frag)(a:VB):It:=
 ⟨λi H=>∃xs x,aN K H a xs/\xs[i]? =some x,λi H x H'=>H'=H/\∀xs,aN K H a xs->xs[i]? =some x,λi H=>∃xs,aN K H a xs/\xs.length<=i⟩
def Jy(lo:Int)(n:Nat):It:=⟨λi _=>i<n,λi H x H'=>H'=H/\x=.int (lo+i),λi _=>n<=i⟩
theorem xu{P:N5}{w:N9}{K:Frag}{tg:Ol}(a it:VB):vP P w K tg (Hc K a) [it] it (λi h=>h.IsListIter it a i) where
 mem:=by simp
 obj:=λi h st b hb=>by
  have e:b=it:=by simpa using hb
  subst e;obtain⟨o,e,c,d⟩:=st;exact⟨o,e,λv z=>by rw[d]at z;cases z⟩
 keep:=λi h h' st k=>st.at λo e=>k it (by simp) o e
 item:=by intro X hP hw hK hc i gV s σ H E I hf st hg;subst hP hw hK;obtain⟨xs,x,hq,hx⟩:=hg;obtain⟨its,rv,p,hz⟩:=I.list hq;obtain⟨u,hu,ru⟩:=rv.get hx;obtain⟨f0,f1,f2,f3,f4,f5⟩:=hf it (by simp);refine QQ st p.isList (x:=u) (by simpa using hu) λh' st' sb=>?_;have I1:aK X gV σ H {s with heap:=h'}:=I.turned (t':=s.toks) (λb o hb e=>(sb.2 b hb).trans e) f0 f1 f3 f4 f5;obtain⟨o,e,c,d⟩:=id st';exact⟨u,rfl,AR (s:={s with heap:=h'}) e c d (by decide) ⟨x,H,I1,ru,⟨rfl,λys hy=>by rw[I.list_inj hy hq];exact hx⟩,st',λb hb=>(hf b hb).1⟩⟩
 done:=by intro X hP hw hK hc i gV s σ H E I hf st hg;subst hP hw hK;obtain⟨xs,hq,hx⟩:=hg;obtain⟨its,rv,p,hz⟩:=I.list hq;obtain⟨f0,f1,f2,f3,f4,f5⟩:=hf it (by simp);have hl:=rv.length;exact Q4 (I.ok.hd hc) st p.isList (by simp;omega) λh' eb=>⟨rfl,I.turned (t':=s.toks) (λb o hb e=>eb b o hb e) f0 f1 f3 f4 f5⟩
 self:=λ_ _ _ _ _ st h=>wpAny_pyIter_listiter st h
theorem ub{P:N5}{w:N9}{K:Frag}{tg:Ol}(it:VB)(lo:Int)(n:Nat):vP P w K tg (Jy lo n) [it] it (λi h=>IsRangeIter h it (lo+(i:Nat)*1) ((n:Int) - (i:Nat)) 1) where
 mem:=by simp
 obj:=λi h st b hb=>by
  have e:b=it:=by simpa using hb
  subst e;exact⟨_,st,λv z=>by
   have z':Data.fields _=Data.cell v:=z;cases z'⟩
 keep:=λi h h' st k=>k it (by simp) _ st
 item:=by intro X hP hw hK hc i gV s σ H E I hf st hg;subst hP hw hK;obtain⟨f0,f1,f2,f3,f4,f5⟩:=hf it (by simp);have W:=Walks.range (prog:=X.prog) (w:=X.w) (I.ok.hd hc) it lo 1 n;refine W.item i s _ _ hg st λv h' tk hv st' kk=>?_;obtain⟨t,rfl⟩:=hv;have I1:aK X gV σ H {s with heap:=h',toks:=tk}:=I.turned (λb o hb e=>kk b o (by simpa using hb) e) f0 f1 f3 f4 f5;refine⟨_,rfl,AR (s:={s with heap:=h',toks:=tk}) (n:="range_iterator") st' rfl rfl (by decide) ⟨.int (lo+i),H,I1,⟨t,?_⟩,⟨rfl,rfl⟩,st',λb hb=>(hf b hb).1⟩⟩;rw[Int.mul_one]
 done:=by intro X hP hw hK hc i gV s σ H E I hf st hg;subst hP hw hK;obtain⟨f0,f1,f2,f3,f4,f5⟩:=hf it (by simp);exact wpAny_pyNext_range_end (I.ok.hd hc) st (by have:n<=i:=hg;omega) λh' eb=>⟨rfl,I.turned (t':=s.toks) (λb o hb e=>eb b o hb e) f0 f1 f3 f4 f5⟩
 self:=λ_ _ _ _ _ st h=>wpAny_pyIter_rangeiter st h
section
variable{X:Cx}{tg:Ol}
def sY(K:Frag)(tl:TE):TI:=λσ H R=>tl σ H λx H1=>∃a,x=.ref a/\(∃xs,aN K H1 a xs)/\R (Hc K a) H1
theorem Cc{l:Ol}{tl:TE}(hl:PE X l tl):PI X tg l (sY X.K tl):=by
 intro gV s σ H R I h;refine bM (hl gV s σ H _ I h) λv s1 ⟨x,H1,I1,r1,q1⟩=>?_;obtain⟨a,e,⟨xs,hq⟩,q⟩:=q1;subst e;cases r1;obtain⟨its,rv,p,hz⟩:=I1.list hq;refine Pd p.isList ?_;refine⟨s1.heap.objs.size,[s1.heap.objs.size],_,_,H1,rfl,I1.kept (t':=s1.toks) λb o e=>N1 _ e,xu a _,⟨_,N7 _ rfl,rfl,rfl⟩,λb hb=>?_,q⟩;have e:b=s1.heap.objs.size:=by simpa using hb
 subst e;exact I1.fpOk (TX _) (I1.hok.fresh (TX _))
theorem zM{gV:NZ}{σ:St}{H:Hp}{s:N3}{R:It->Hp->Prop}{E:NY}{lo hi:Int}{t u v:Rt}{tk:Nat}(I:aK X gV σ H s)(h1: -(2 ^ 62)<=lo)(h2:lo<2 ^ 62)(h3: -(2 ^ 62)<=hi)(h4:hi<2 ^ 62)(q:R (Jy lo (hi - lo).toNat) H):N8 (Od X.prog X.w) X.A (pyIter (.ref s.heap.objs.size)) (NL X gV σ tg R) E {s with heap:=s.heap.push {cls:=.type "range",data:=.fields #[.int lo t,.int hi u,.int 1 v]},toks:=tk}:=by
 refine wpAny_pyIter_range (IsRange.new ..) (small_one h1 h2 h3 h4) ?_;have I1:aK X gV σ H {s with heap:=s.heap.push {cls:=.type "range",data:=.fields #[.int lo t,.int hi u,.int 1 v]},toks:=tk}:=I.kept λb o e=>N1 _ e;refine⟨(s.heap.push {cls:=.type "range",data:=.fields #[.int lo t,.int hi u,.int 1 v]}).objs.size,[(s.heap.push {cls:=.type "range",data:=.fields #[.int lo t,.int hi u,.int 1 v]}).objs.size],_,_,H,rfl,
  I1.kept (t':=tk) λb o e=>N1 _ e,ub _ lo (hi - lo).toNat,?_,λb hb=>?_,q⟩
 .have e1:lo+((0:Nat):Int)*1=lo:=by simp
  have e2:(((hi - lo).toNat:Nat):Int) - ((0:Nat):Int)=Builtin.Range.rangeSize lo hi 1:=by rw[rangeSize_one];split<;>omega
  show IsRangeIter _ _ (lo+((0:Nat):Int)*1) ((((hi - lo).toNat:Nat):Int) - ((0:Nat):Int)) 1;rw[e1,e2];exact N7 _ rfl
 .have e:b=(s.heap.push {cls:=.type "range",data:=.fields #[.int lo t,.int hi u,.int 1 v]}).objs.size:=by simpa using hb
  subst e;exact I1.fpOk (TX _) (I1.hok.fresh (TX _))
def mP(ta:TA):TI:=λσ H R=>ta σ H λvs H1=>∃j:Int,vs=[.int j]/\-(2 ^ 62)<=j/\j<2 ^ 62/\R (Jy 0 j.toNat) H1
theorem xT{a:Ol}{ta:TA}{p pos:Qa}(hg:Gl X "range")(hm:X.mg "range"=none)(ha:PA X [a] ta)(hs:N6 [a] X.env=[(false,Ow a X.env)]:=by rfl):PI X tg (.Call (.Name "range" p) [a] [] pos) (mP ta):=by
 intro gV s σ H R I h;refine Call_ (iH I hg hm boot_range (PyProof.Rows.callWith_type1 (bM (ha pos gV s σ H _ I h) λus s1 ⟨vs,H1,I1,r1,q1⟩=>?_) hs rfl));obtain⟨j,e,q1,q2,q⟩:=q1;subst e;cases r1 with
 |cons r rr=>
  cases rr;obtain⟨t,rfl⟩:=r;exact call_range_1 (zM I1 (by omega) (by omega) q1 q2 (by simpa using q))
def tFor(wi:TI)(g:TG)(tb:TS):TS:=λD σ H=>wi σ H λJ H1=>∃W:Nat->Nat->St->Hp->Prop,(∃m,W 0 m σ H1)/\∀i m σ H,W i m σ H->
 (J.stop i H/\D.nx σ H)\/(J.go i H/\∃N:St->Hp->Prop,(∀σ' H',N σ' H'->∃m',m'<m/\W (i+1) m' σ' H')/\∀x H',J.yld i H x H'->g x σ H' λσ2 H2=>tb {D with nx:=N,ct:=N,bk:=D.nx} σ2 H2)
def iF(fp:List VB)(h:Oe):List (VB×Obj):=fp.filterMap λb=>(h.get? b).map λo=>(b,o)
theorem hZ{fp:List VB}{h:Oe}{b:VB}{o:Obj}(hb:b∈fp)(e:h.get? b=some o):(b,o)∈iF fp h:=SS.mpr ⟨b,hb,by rw[e];rfl⟩
theorem n9{fp:List VB}{h:Oe}{p:VB×Obj}(hp:p∈iF fp h):p.1∈fp/\h.get? p.1=some p.2:=by
 obtain⟨b,hb,e⟩:=SS.mp hp;cases q:h.get? b with
 |none=>rw[q]at e;cases e
 |some o=>
  rw[q]at e;have e':(b,o)=p:=NV e;subst e';exact⟨hb,q⟩
theorem aK.pinned{gV:NZ}{σ:St}{H:Hp}{s:N3}{fp:List VB}(I:aK X gV σ H s)(hf:∀b∈fp,iq X gV H b)(ho:∀b∈fp,∃o,s.heap.get? b=some o/\∀v,o.data≠.cell v):aK X (gV++iF fp s.heap) σ H s:=
 I.pins_of λp hp=>(Sa.mp hp).elim (λz=>I.pin p (Sj _ z)) λz=>by obtain⟨hb,e⟩:=n9 z;obtain⟨f0,f1,f2,_⟩:=hf p.1 hb;obtain⟨o,e',d⟩:=ho p.1 hb;rw[e]at e';cases e';exact⟨e,f0,f1,f2,d⟩
theorem aK.unpinned{gV pl:NZ}{σ:St}{H:Hp}{s:N3}(I:aK X (gV++pl) σ H s):aK X gV σ H s:=I.pins_of λp hp=>I.pin p (Sj _ (SA _ hp))
theorem gw{iter:Ol}{body:List Oo}{wi:TI}{g:TG}{tb:TS}{pos:Qa}(hp:PassesOwn (Od X.prog X.w) X.A X.env X.xe)(hc:X.calm=true)(hi:PI X tg iter wi)(hg:PG X tg g)(hb:t6 X body tb)(hs:∀x,PZ iter X.env x=pure x:=by intro _;rfl):PS X (.For tg iter body [] pos) (tFor wi g tb):=by
 intro gV s σ H D I h;refine wpAny_For (bM (hi gV s σ H _ I h) λv s1 h1=>bM h1 λitv s2 h2=>?_) hs;obtain⟨it,fp,tn,J,H2,e,I2,T,st2,f2,W,⟨m0,w0⟩,turn⟩:=h2;subst e;have stat:∀{H':Hp},(∀b∈fp,H' b=none)->∀b∈fp,iq X gV H' b:=λhn b hb=>⟨hn b hb,(f2 b hb).2⟩;refine codeAny_forLoop_any (λn s'=>∃i σ' H',aK X gV σ' H' s'/\tn i s'.heap/\(∀b∈fp,H' b=none)/\W i n σ' H') ?_ m0 ⟨0,σ,H2,I2,st2,λb hb=>(f2 b hb).1,w0⟩;rintro n s3 ⟨i,σ3,H3,I3,st3,fr3,w3⟩
 rcases turn i n σ3 H3 w3 with⟨stop,qn⟩|⟨go,N,hN,step⟩
 .refine Pb hp (bM (T.done X rfl rfl rfl hc i gV s3 σ3 H3 X.xe I3 (stat fr3) st3 stop) λr s4 ⟨hr,I4⟩=>?_);subst hr;exact Qg ⟨σ3,H3,I4,qn⟩
 .refine Pb hp (bM (T.item X rfl rfl rfl hc i gV s3 σ3 H3 X.xe I3 (stat fr3) st3 go) λr s4 ⟨u,hr,h4⟩=>?_);subst hr;refine Pb hp (bM h4 λ_ s5 ⟨x,H5,I5,r5,y5,st5,fr5⟩=>?_);have I5':=I5.pinned (stat fr5) (T.obj _ _ st5);refine Pb hp (bM (hg _ s5 σ3 H5 x u _ I5' r5 (step x H5 y5)) λ_ s6 ⟨σ6,H6,I6,q6⟩=>?_);refine Pb hp (bM (hb _ s6 σ6 H6 _ I6 q6) λf s7 q7=>?_);have again:∀{σ7:St}{H7:Hp},aK X (gV++iF fp s5.heap) σ7 H7 s7->N σ7 H7->∃m,m<n/\∃i σ' H',aK X gV σ' H' s7/\tn i s7.heap/\(∀b∈fp,H' b=none)/\W i m σ' H':=λ{σ7 H7} I7 n7=>by obtain⟨m',hm,w7⟩:=hN σ7 H7 n7;refine⟨m',hm,i+1,σ7,H7,I7.unpinned,T.keep _ _ _ st5 λb hb o e=>(I7.pin (b,o) (Sj _ (Sj _ (hZ hb e)))).1,λb hb=>?_,w7⟩;obtain⟨o,e,d⟩:=T.obj _ _ st5 b hb;exact(I7.pin (b,o) (Sj _ (Sj _ (hZ hb e)))).2.1
  cases f with
  |next=>obtain⟨σ7,H7,I7,n7⟩:=q7;exact again I7 n7
  |cont=>obtain⟨σ7,H7,I7,n7⟩:=q7;exact again I7 n7
  |brk=>obtain⟨σ7,H7,I7,q7⟩:=q7;exact⟨σ7,H7,I7.unpinned,q7⟩
  |ret v=>obtain⟨x7,σ7,H7,I7,r7,q7⟩:=q7;exact⟨x7,σ7,H7,I7.unpinned,r7,q7⟩
end
theorem A1{K:Frag}{a:VB}{xs:List V}{g:TG}{tb:TS}{D:dW}{σ:St}{H:Hp}(Pv:Nat->St->Hp->Prop)(h0:Pv 0 σ H)(hl:∀i σ H,i<=xs.length->Pv i σ H->aN K H a xs)(hs:∀i x σ H,xs[i]? =some x->Pv i σ H->g x σ H λσ2 H2=>tb {D with nx:=Pv (i+1),ct:=Pv (i+1),bk:=D.nx} σ2 H2)(hd:∀σ H,Pv xs.length σ H->D.nx σ H):∃W:Nat->Nat->St->Hp->Prop,(∃m,W 0 m σ H)/\∀i m σ H,W i m σ H->((Hc K a).stop i H/\D.nx σ H)\/((Hc K a).go i H/\∃N:St->Hp->Prop,(∀σ' H',N σ' H'->∃m',m'<m/\W (i+1) m' σ' H')/\∀x H',(Hc K a).yld i H x H'->g x σ H' λσ2 H2=>tb {D with nx:=N,ct:=N,bk:=D.nx} σ2 H2):=by
 refine⟨λi m σ H=>m=xs.length - i/\i<=xs.length/\Pv i σ H,⟨xs.length,by simp,TZ _,h0⟩,?_⟩;rintro i m σ H ⟨rfl,hi,p⟩;have q:=hl i σ H hi p
 by_cases hlt:i<xs.length
 .refine .inr ⟨⟨xs,xs[i],q,by simp[hlt]⟩,Pv (i+1),λσ' H' p'=>⟨xs.length - (i+1),by omega,rfl,hlt,p'⟩,λx H' y=>?_⟩;obtain⟨e,y⟩:=y;subst e;exact hs i x σ _ (y xs q) p
 .have e:i=xs.length:=by omega
  subst e;exact .inl ⟨⟨xs,q,TX _⟩,hd σ H p⟩
theorem oB{lo:Int}{n:Nat}{g:TG}{tb:TS}{D:dW}{σ:St}{H:Hp}(Pv:Nat->St->Hp->Prop)(h0:Pv 0 σ H)(hs:∀i σ H,i<n->Pv i σ H->g (.int (lo+i)) σ H λσ2 H2=>tb {D with nx:=Pv (i+1),ct:=Pv (i+1),bk:=D.nx} σ2 H2)(hd:∀σ H,Pv n σ H->D.nx σ H):∃W:Nat->Nat->St->Hp->Prop,(∃m,W 0 m σ H)/\∀i m σ H,W i m σ H->((Jy lo n).stop i H/\D.nx σ H)\/((Jy lo n).go i H/\∃N:St->Hp->Prop,(∀σ' H',N σ' H'->∃m',m'<m/\W (i+1) m' σ' H')/\∀x H',(Jy lo n).yld i H x H'->g x σ H' λσ2 H2=>tb {D with nx:=N,ct:=N,bk:=D.nx} σ2 H2):=by
 refine⟨λi m σ H=>m=n - i/\i<=n/\Pv i σ H,⟨n,by simp,TZ _,h0⟩,?_⟩;rintro i m σ H ⟨rfl,hi,p⟩
 by_cases hlt:i<n
 .refine .inr ⟨hlt,Pv (i+1),λσ' H' p'=>⟨n - (i+1),by omega,rfl,hlt,p'⟩,λx H' y=>?_⟩;obtain⟨e,y⟩:=y;subst e y;exact hs i σ _ hlt p
 .have e:i=n:=by omega
  subst e;exact .inl ⟨TX _,hd σ H p⟩
abbrev R2:=V->V->Hp->VK->Prop
def jb(X:Cx)(f:VA->VA->RS VA)(r:R2):Prop:=
 ∀(gV:NZ)(s:N3)(σ:St)(H:Hp)(x y:V)(v u:VA)(Q:VK),aK X gV σ H s->aQ x v->aQ y u->r x y H Q->
  N8 (Od X.prog X.w) X.A (f v u) (EP X gV σ Q) X.xe s
def NK(X:Cx)(f:VA->RS VA)(r:V->Hp->VK->Prop):Prop:=
 ∀(gV:NZ)(s:N3)(σ:St)(H:Hp)(x:V)(v:VA)(Q:VK),aK X gV σ H s->aQ x v->r x H Q->
  N8 (Od X.prog X.w) X.A (f v) (EP X gV σ Q) X.xe s
def bf(X:Cx)(f:VA)(r:List V->Hp->VK->Prop):Prop:=
 ∀(gV:NZ)(s:N3)(σ:St)(H:Hp)(xs:List V)(us:List VA)(Q:VK),aK X gV σ H s->aX xs us->r xs H Q->
  N8 (Od X.prog X.w) X.A (call f us) (EP X gV σ Q) X.xe s
def Nl(r:R2)(ta tb:TE):TE:=λσ H Q=>ta σ H λx H1=>tb σ H1 λy H2=>r x y H2 Q
def rI(C:Int->Int->Prop)(g:Int->Int->V):R2:=λx y H Q=>∃i j,x=.int i/\y=.int j/\C i j/\Q (g i j) H
def GG(g:Int->Int->V):R2:=λx y H Q=>∃i j,x=.int i/\y=.int j/\Q (g i j) H
def rU(g:Int->V):V->Hp->VK->Prop:=λx H Q=>∃i,x=.int i/\Q (g i) H
section
variable{X:Cx}{a b c:Ol}{ta tb tc:TE}{pos:Qa}
theorem Ja(ha:PE X a ta)(hb:PE X b tb){gV:NZ}{s:N3}{σ:St}{H:Hp}{R:V->V->Hp->Prop}(I:aK X gV σ H s)(h:ta σ H λx H1=>tb σ H1 λy H2=>R x y H2){Q:NY}{f:VA->VA->RS VA}(hf:∀v u s2 x y H2,aK X gV σ H2 s2->aQ x v->aQ y u->R x y H2->N8 (Od X.prog X.w) X.A (f v u) Q X.xe s2):N8 (Od X.prog X.w) X.A (Ow a X.env) (λv s₁=>N8 (Od X.prog X.w) X.A (Ow b X.env) (λu s₂=>N8 (Od X.prog X.w) X.A (f v u) Q X.xe s₂) X.xe s₁) X.xe s:=by refine bM (ha gV s σ H _ I h) λv s1 ⟨x,H1,I1,r1,q1⟩=>?_;refine bM (hb gV s1 σ H1 _ I1 q1) λu s2 ⟨y,H2,I2,r2,q2⟩=>?_;exact hf v u s2 x y H2 I2 r1 r2 q2
theorem LC{op:RD}{r:R2}(ho:jb X (P3 op) r)(ha:PE X a ta)(hb:PE X b tb):PE X (.BinOp a op b pos) (Nl r ta tb):=by intro gV s σ H Q I h;exact wpAny_BinOp (Ja ha hb I h λv u s2 x y H2 I2 rx ry q=>ho gV s2 σ H2 x y v u Q I2 rx ry q)
theorem MH{f:VA->VA->RS VA}{C:Int->Int->Prop}{g:Int->Int->Int}(rule:∀(i j:Int)(t u:Rt)(s:N3)(Q:NY)(E:NY),C i j->Q (.int (g i j) s.toks) {s with toks:=s.toks+1}->N8 (Od X.prog X.w) X.A (f (.int i t) (.int j u)) Q E s):jb X f (rI C λi j=>.int (g i j)):=by intro gV s σ H x y v u Q I rx ry h;obtain⟨i,j,rfl,rfl,hc,q⟩:=h;obtain⟨t,rfl⟩:=rx;obtain⟨t',rfl⟩:=ry;exact rule i j t t' s _ _ hc ⟨.int (g i j),H,I.tok _,⟨_,rfl⟩,q⟩
theorem LN{f:VA->VA->RS VA}{g:Int->Int->Int}(rule:∀(i j:Int)(t u:Rt)(s:N3)(Q:NY)(E:NY),Q (.int (g i j) s.toks) {s with toks:=s.toks+1}->N8 (Od X.prog X.w) X.A (f (.int i t) (.int j u)) Q E s):jb X f (GG λi j=>.int (g i j)):=by intro gV s σ H x y v u Q I rx ry h;obtain⟨i,j,rfl,rfl,q⟩:=h;obtain⟨t,rfl⟩:=rx;obtain⟨t',rfl⟩:=ry;exact rule i j t t' s _ _ ⟨.int (g i j),H,I.tok _,⟨_,rfl⟩,q⟩
theorem Co{f:VA->VA->RS VA}{g:Int->Int->Bool}(rule:∀(i j:Int)(t u:Rt)(s:N3)(Q:NY)(E:NY),Q (.bool (g i j)) s->N8 (Od X.prog X.w) X.A (f (.int i t) (.int j u)) Q E s):jb X f (GG λi j=>.bl (g i j)):=by intro gV s σ H x y v u Q I rx ry h;obtain⟨i,j,rfl,rfl,q⟩:=h;obtain⟨t,rfl⟩:=rx;obtain⟨t',rfl⟩:=ry;exact rule i j t t' s _ _ ⟨.bl (g i j),H,I,rfl,q⟩
def Dp(i j:Int):Prop:=0<j/\j<1073741824
def Jo(i j:Int):Prop:=0<=j/\j<=1000000/\i.natAbs<2 ^ 64
def yX(i j:Int):Prop:=(-(2 ^ 64)<i/\i<2 ^ 64)\/(-(2 ^ 64)<j/\j<2 ^ 64)
theorem yX.ok{i j:Int}(h:yX i j):IntMulOk i j:=by
 rcases h with⟨h1,h2⟩|⟨h1,h2⟩
 .exact .of_left (intBits_le_64 h1 h2)
 .exact .of_right (intBits_le_64 h1 h2)
theorem Ig:jb X (P3 .Add) (GG λi j=>.int (i+j)):=LN λ_ _ _ _ _ _ _ q=>add_int q
theorem HU:jb X (P3 .Sub) (GG λi j=>.int (i - j)):=LN λ_ _ _ _ _ _ _ q=>sub_int q
theorem HX:jb X (P3 .Mult) (rI yX λi j=>.int (i*j)):=MH λ_ _ _ _ _ _ _ hc q=>mul_int q hc.ok
theorem Cn:jb X (P3 .FloorDiv) (rI Dp λi j=>.int (i / j)):=MH λi j _ _ _ _ _ hc q=>by have h1:(0:Int)<j:=hc.1;have h2:j<1073741824:=hc.2;exact floordiv_int (by omega) (by rw[Int.fdiv_eq_ediv_of_nonneg i (by omega)];exact q) (.inl (PyProof.noPylong_small (by omega)))
theorem HY:jb X (P3 .Mod) (rI (λ_ j=>0<j) λi j=>.int (i % j)):=MH λi j _ _ _ _ _ hc q=>by have h1:(0:Int)<j:=hc;exact mod_int' (by omega) (by rw[Int.fmod_eq_emod_of_nonneg i (by omega)];exact q)
theorem HV:jb X (P3 .Pow) (rI Jo λi j=>.int (i ^ j.toNat)):=MH λ_ _ _ _ _ _ _ hc q=>pow_int_small hc.1 hc.2.1 hc.2.2 q
theorem unI{f:VA->RS VA}{g:Int->Int}(rule:∀(i:Int)(t:Rt)(s:N3)(Q:NY)(E:NY),Q (.int (g i) s.toks) {s with toks:=s.toks+1}->N8 (Od X.prog X.w) X.A (f (.int i t)) Q E s):NK X f (rU λi=>.int (g i)):=by intro gV s σ H x v Q I rx h;obtain⟨i,rfl,q⟩:=h;obtain⟨t,rfl⟩:=rx;exact rule i t s _ _ ⟨.int (g i),H,I.tok _,⟨_,rfl⟩,q⟩
theorem Hj:NK X (unaryOp .USub) (rU λi=>.int (-i)):=unI λ_ _ _ _ _ q=>neg_int q
end
def scal:V->V->Bool
 | .non,.non=>true| .non,.int _=>true| .int _,.non=>true| .non,.bl _=>true| .bl _,.non=>true| .non,.str _=>true| .str _,.non=>true
 | .int _,.int _=>true| .bl _,.bl _=>true| .str _,.str _=>true| .byt _,.byt _=>true
 | .int _,.str _=>true| .str _,.int _=>true| .bl _,.str _=>true| .str _,.bl _=>true
 |_,_=>false
def rEq:R2:=λx y H Q=>scal x y=true/\Q (.bl (decide (x=y))) H
def rNe:R2:=λx y H Q=>scal x y=true/\Q (.bl (!decide (x=y))) H
theorem wZ{i j:Int}:decide (V.int i=V.int j)=(i == j):=by rw[UF];simp
theorem dec_bl{i j:Bool}:decide (V.bl i=V.bl j)=(i == j):=by rw[UF];simp
theorem wY{i j:Str}:decide (V.str i=V.str j)=(i == j):=by rw[UF];simp
theorem w5{i j:Array UInt8}:decide (V.byt i=V.byt j)=(i.toList == j.toList):=by rw[UF];cases i;cases j;simp
section
variable{X:Cx}{a b c:Ol}{ta tb tc:TE}{pos:Qa}
theorem fin_bl{gV:NZ}{σ:St}{H:Hp}{s:N3}{Q:VK}{k k':Bool}(I:aK X gV σ H s)(q:Q (.bl k) H)(e:k=k'):EP X gV σ Q (.bool k') s:=by subst e;exact⟨.bl k,H,I,rfl,q⟩
theorem LM:jb X (OC .Eq) rEq:=by
 intro gV s σ H x y v u Q I rx ry h;obtain⟨hs,q⟩:=h;cases x with
 |non=>
  cases rx;cases y with
  |non=>cases ry;exact PySem.EqNone.eq_none_none (fin_bl I q (by simp))
  |bl j=>cases ry;exact PySem.EqNone.eq_none_bool (fin_bl I q (by simp))
  |int j=>obtain⟨t',rfl⟩:=ry;exact PySem.EqNone.eq_none_int (fin_bl I q (by simp))
  |str j=>obtain⟨t',rfl⟩:=ry;exact PySem.EqNone.eq_none_str (fin_bl I q (by simp))
  |_=>exact NU (show false=true from hs) UC
 |bl i=>
  cases rx;cases y with
  |non=>cases ry;exact PySem.EqNone.eq_bool_none (fin_bl I q (by simp))
  |bl j=>cases ry;exact eq_bool (fin_bl I q dec_bl)
  |str j=>obtain⟨t',rfl⟩:=ry;exact PySem.EqMixed.eq_bool_str (fin_bl I q (by simp))
  |_=>exact NU (show false=true from hs) UC
 |int i=>
  obtain⟨t,rfl⟩:=rx;cases y with
  |non=>cases ry;exact PySem.EqNone.eq_int_none (fin_bl I q (by simp))
  |int j=>obtain⟨t',rfl⟩:=ry;exact eq_int (fin_bl I q wZ)
  |str j=>obtain⟨t',rfl⟩:=ry;exact PySem.EqMixed.eq_int_str (fin_bl I q (by simp))
  |_=>exact NU (show false=true from hs) UC
 |str i=>
  obtain⟨t,rfl⟩:=rx;cases y with
  |non=>cases ry;exact PySem.EqNone.eq_str_none (fin_bl I q (by simp))
  |bl j=>cases ry;exact PySem.EqMixed.eq_str_bool (fin_bl I q (by simp))
  |int j=>obtain⟨t',rfl⟩:=ry;exact PySem.EqMixed.eq_str_int (fin_bl I q (by simp))
  |str j=>obtain⟨t',rfl⟩:=ry;exact eq_str (fin_bl I q wY)
  |_=>exact NU (show false=true from hs) UC
 |byt i=>
  obtain⟨t,rfl⟩:=rx;cases y with
  |byt j=>obtain⟨t',rfl⟩:=ry;exact PySem.W.eq_bytes (fin_bl I q w5)
  |_=>exact NU (show false=true from hs) UC
 |_=>cases y<;>exact NU (show false=true from hs) UC
theorem LH:jb X (OC .NotEq) rNe:=by
 intro gV s σ H x y v u Q I rx ry h;obtain⟨hs,q⟩:=h;cases x with
 |non=>
  cases rx;cases y with
  |non=>cases ry;exact PySem.EqNone.ne_none_none (fin_bl I q (by simp))
  |bl j=>cases ry;exact PySem.EqNone.ne_none_bool (fin_bl I q (by simp))
  |int j=>obtain⟨t',rfl⟩:=ry;exact PySem.EqNone.ne_none_int (fin_bl I q (by simp))
  |str j=>obtain⟨t',rfl⟩:=ry;exact PySem.EqNone.ne_none_str (fin_bl I q (by simp))
  |_=>exact NU (show false=true from hs) UC
 |bl i=>
  cases rx;cases y with
  |non=>cases ry;exact PySem.EqNone.ne_bool_none (fin_bl I q (by simp))
  |bl j=>cases ry;exact ne_bool (fin_bl I q (NW not dec_bl))
  |str j=>obtain⟨t',rfl⟩:=ry;exact PySem.EqMixed.ne_bool_str (fin_bl I q (by simp))
  |_=>exact NU (show false=true from hs) UC
 |int i=>
  obtain⟨t,rfl⟩:=rx;cases y with
  |non=>cases ry;exact PySem.EqNone.ne_int_none (fin_bl I q (by simp))
  |int j=>obtain⟨t',rfl⟩:=ry;exact ne_int (fin_bl I q (NW not wZ))
  |str j=>obtain⟨t',rfl⟩:=ry;exact PySem.EqMixed.ne_int_str (fin_bl I q (by simp))
  |_=>exact NU (show false=true from hs) UC
 |str i=>
  obtain⟨t,rfl⟩:=rx;cases y with
  |non=>cases ry;exact PySem.EqNone.ne_str_none (fin_bl I q (by simp))
  |bl j=>cases ry;exact PySem.EqMixed.ne_str_bool (fin_bl I q (by simp))
  |int j=>obtain⟨t',rfl⟩:=ry;exact PySem.EqMixed.ne_str_int (fin_bl I q (by simp))
  |str j=>obtain⟨t',rfl⟩:=ry;exact ne_str (fin_bl I q (NW not wY))
  |_=>exact NU (show false=true from hs) UC
 |byt i=>
  obtain⟨t,rfl⟩:=rx;cases y with
  |byt j=>obtain⟨t',rfl⟩:=ry;exact PySem.W.ne_bytes (fin_bl I q (NW not w5))
  |_=>exact NU (show false=true from hs) UC
 |_=>cases y<;>exact NU (show false=true from hs) UC
theorem LI:jb X (OC .Lt) (GG λi j=>.bl (decide (i<j))):=Co λ_ _ _ _ _ _ _ q=>lt_int q
theorem LJ:jb X (OC .LtE) (GG λi j=>.bl (decide (i<=j))):=Co λ_ _ _ _ _ _ _ q=>le_int q
theorem LK:jb X (OC .Gt) (GG λi j=>.bl (decide (j<i))):=Co λ_ _ _ _ _ _ _ q=>gt_int q
theorem LL:jb X (OC .GtE) (GG λi j=>.bl (decide (j<=i))):=Co λ_ _ _ _ _ _ _ q=>ge_int q
theorem xW:jb X (OC .Lt) (λx y H Q=>∃i j,x=.str i/\y=.str j/\Q (.bl (decide (i.cps.toList<j.cps.toList))) H):=by intro gV s σ H x y v u Q I rx ry h;obtain⟨i,j,rfl,rfl,q⟩:=h;obtain⟨t,rfl⟩:=rx;obtain⟨t',rfl⟩:=ry;exact lt_str (fin_bl I q rfl)
theorem xY:jb X (OC .In) (λx y H Q=>∃i j,x=.str i/\y=.str j/\Q (.bl (!(OP j i 0 j.length 1).isEmpty)) H):=by intro gV s σ H x y v u Q I rx ry h;obtain⟨i,j,rfl,rfl,q⟩:=h;obtain⟨t,rfl⟩:=rx;obtain⟨t',rfl⟩:=ry;exact in_str (fin_bl I q rfl)
theorem HZ:jb X (OC .Is) (λx y H Q=>y=.non/\Q (.bl (decide (x=.non))) H):=by
 intro gV s σ H x y v u Q I rx ry h;obtain⟨rfl,q⟩:=h;cases ry;refine is_none_gen (fin_bl I q ?_);cases x<;>first
  |(cases rx;rfl)
  |(obtain⟨t,rfl⟩:=rx;rfl)
theorem Cm:jb X (OC .IsNot) (λx y H Q=>y=.non/\Q (.bl (!decide (x=.non))) H):=by
 intro gV s σ H x y v u Q I rx ry h;obtain⟨rfl,q⟩:=h;cases ry;refine isnot_none_gen (fin_bl I q ?_);cases x<;>first
  |(cases rx;rfl)
  |(obtain⟨t,rfl⟩:=rx;rfl)
theorem pZ:jb X (OC .NotIn) (λx y H Q=>∃i j,x=.str i/\y=.str j/\Q (.bl (!(!(OP j i 0 j.length 1).isEmpty))) H):=by intro gV s σ H x y v u Q I rx ry h;obtain⟨i,j,rfl,rfl,q⟩:=h;obtain⟨t,rfl⟩:=rx;obtain⟨t',rfl⟩:=ry;exact notIn_str (fin_bl I q rfl)
theorem mH(b:Ol){op:Po}(h:op≠.In:=by decide)(h2:op≠.NotIn:=by decide):behindInMarks op b=false:=by
 have e1:(op == CmpOp.In)=false:=by cases op<;>first|rfl|exact NU rfl h
 have e2:(op == CmpOp.NotIn)=false:=by cases op<;>first|rfl|exact NU rfl h2
 cases b<;>simp[behindInMarks,e1,e2]
theorem Ci{op:Po}{r:R2}(ho:jb X (OC op) r)(ha:PE X a ta)(hb:PE X b tb)(hm:behindInMarks op b=false):PE X (.Compare a [op] [b] pos) (Nl r ta tb):=by intro gV s σ H Q I h;exact wpAny_Compare1 (Ja ha hb I h λv u s2 x y H2 I2 rx ry q=>ho gV s2 σ H2 x y v u Q I2 rx ry q) hm
theorem kL:(v1:Nat)<2 ^ 63:=by rw[Oc];decide
theorem uL:jb X (P3 .Add) (λx y H Q=>∃i j,x=.str i/\y=.str j/\i.length+j.length<=v1/\Q (.str (i++j)) H):=by intro gV s σ H x y v u Q I rx ry h;obtain⟨i,j,rfl,rfl,hz,q⟩:=h;obtain⟨t,rfl⟩:=rx;obtain⟨t',rfl⟩:=ry;exact add_str (λt' tk=>⟨.str (i++j),H,I.tok _,⟨_,rfl⟩,q⟩) hz
theorem di{x:V}{us:List VA}(r:aX [x] us):∃u,us=[u]/\aQ x u:=by
 cases r with
 |cons r1 r2=>cases r2;exact⟨_,rfl,r1⟩
theorem Gp{x y:V}{us:List VA}(r:aX [x,y] us):∃u w',us=[u,w']/\aQ x u/\aQ y w':=by
 cases r with
 |cons r1 r2=>
  cases r2 with
  |cons r3 r4=>cases r4;exact⟨_,_,rfl,r1,r3⟩
theorem yN:bf X (.type "int") (λxs H Q=>(∃i,xs=[.int i]/\Q (.int i) H)\/∃k,xs=[.bl k]/\Q (.int (if k then 1 else 0)) H):=by
 intro gV s σ H xs us Q I r h
 rcases h with⟨i,rfl,q⟩|⟨k,rfl,q⟩
 .obtain⟨u,rfl,t,rfl⟩:=di r;exact call_int_int ⟨.int i,H,I,⟨_,rfl⟩,q⟩
 .obtain⟨u,rfl,r1⟩:=di r;cases r1;exact call_int_bool ⟨.int (if k then 1 else 0),H,I.tok _,⟨_,rfl⟩,q⟩
theorem qM:bf X (.type "str") (λxs H Q=>∃i,xs=[.int i]/\i.natAbs.log2<1920/\Q (.str (toString i)) H):=by intro gV s σ H xs us Q I r h;obtain⟨i,rfl,hz,q⟩:=h;obtain⟨u,rfl,t,rfl⟩:=di r;exact PySem.P.str_of_int hz ⟨.str _,H,I.tok _,⟨_,rfl⟩,q⟩
end
structure vR(h:Oe)(x dx C:VB)(mA:NX):Prop where
 obj:h.get? x=some (Vd C dx)
 ns:h.Ns1 dx mA
 ne:dx≠x
theorem yg{h:Oe}{dx:VB}{mA:NX}(n:h.Ns1 dx mA):∃od,h.get? dx=some od/\∀name,Vg name od=some (mA name):=by
 obtain⟨o,es,ep,ho,hd,hk,_,hm⟩:=n;refine⟨o,ho,λname=>?_⟩;have e:=hm name;unfold nsFind findBy at e;rw[<-Array.find?_toList]at e;unfold Vg;rw[hd];dsimp only;split
 .rename_i y q;rw[q]at e;exact NW some e
 .rename_i q;rw[q]at e;have a:es.toList.any (·.refKey)=false:=by rw[SF];intro y hy;obtain⟨z,t,hkey⟩:=hk y (UX.mp hy);simp[DictEntry.refKey,hkey]
  have a':¬es.toList.any (·.refKey)=true:=by rw[a];exact UC
  rw[NQ a'];exact NW some e
theorem vR.look{h:Oe}{x dx C:VB}{mA:NX}(I:vR h x dx C mA):∃od,PySem.W.InstAt h x (Vd C dx) C (some od)/\∀name,Vg name od=some (mA name):=
 let ⟨od,ho,hl⟩:=yg I.ns
 ⟨od,⟨I.obj,rfl,rfl,ho⟩,hl⟩
section
variable{prog:N5}{w:N9}{A:Oi}{E:NY}{s:N3}{K:Frag}{x dx C f:VB}{mA:NX}{name:Str}{v:VA}
theorem CP{expr:Bool}{Q:NY}(X:K.In s.heap)(I:vR s.heap x dx C mA)(hg:Ve K C name=true)(hh:Vf K C=true)(ha:U4 K (.ref C) name=some none)(hv:mA name=some v)(hv':Vr v=true)(h:Q v {s with toks:=s.toks+1}):N8 (Od prog w) A (getAttr (.ref x) name expr) Q E s:=by obtain⟨od,J,hl⟩:=I.look;exact PySem.W.get_value X J (Vn hg).1 (PySem.W.findObj_own hh ha rfl (by rw[hl,hv])) hv' h
theorem AW{pl:RS Bool}{Q:VA×List VA->N3->Prop}(X:K.In s.heap)(I:vR s.heap x dx C mA)(hg:Ve K C name=true)(hf:U4 K (.ref C) name=some (some (.ref f)))(ht:U9 K (.ref f)=true)(hv:mA name=none)(h:Q (.ref f,[.ref x]) s):N8 (Od prog w) A (getMethod (.ref x) name pl) Q E s:=by obtain⟨od,J,hl⟩:=I.look;exact PySem.W.method_fn X J (Vn hg).1 (Vn hg).2 hf (beq_iff_eq.mp ht) (by show(Vg name od).map (·.isSome)=some false;rw[hl,hv];rfl) h
theorem B0{ns:List Str}{Q:Unit->N3->Prop}(X:K.In s.heap)(I:vR s.heap x dx C mA)(hs:U4 K (.ref C) "__setattr__"=some (some (.builtin "object.__setattr__")))(hp:Vh K C=true)(ht:Vo K C name=some none)(hh:Vf K C=true)(hw:PySem.Within mA ns)(hsz:ns.length<=v1)(h:∀h',vR h' x dx C (λy=>if y=name then some v else mA y)->OH dx s.heap h'->Q () {s with heap:=h',toks:=s.toks+2}):N8 (Od prog w) A (setAttr (.ref x) name v) Q E s:=by obtain⟨od,J,hl⟩:=I.look;refine PySem.W.set_plain X J hs (PySem.W.osa_open (s:={s with toks:=s.toks+1}) (r:=none) X J hp ht λb=>?_);obtain⟨cd,hc,hd'⟩:=PySem.W.any_some hh;have hx:s.heap.get? x=some ⟨.ref C,some dx,.plain,#[]⟩:=I.obj;refine N0 (N2 (N0 (N0 (wpAny_loadPart hx (N0 (PySem.W.Looks.here (s:={s with toks:=s.toks+1}) (PySem.W.looks_clsIn X hc) ?_))))));rw[hd'];refine N2 (a:=some dx) (N0 (N2 (N0 ?_)));refine wpAny_nsSet1 (s:={s with toks:=s.toks+1}) I.ns λh' hn2 hs2=>?_;obtain⟨oD,esD,epD,hoD,hdD,hcD⟩:=hn2.count (PySem.Within.cons name v hw);refine N0 (wpAny_lookBehind hoD (by rw[hdD];exact pastItsLine_dict (T0 hcD (by rw[Sf];omega))) ?_);exact N2 (h _ ⟨(hs2.2 _ (Ne.symm I.ne)).trans I.obj,hn2,I.ne⟩ hs2)
theorem Ay{R:RL->N3->Prop}{vs:List VA}{kw:List (Str×VA)}(X:K.In s.heap)(hm:Vi K C=true)(hi:U4 K (.ref C) "__init__"=some (some (.ref f)))(hf:PySem.W.typeIn K (.ref f)=some (.type "function"))(h:PQ (Od prog w) (A.under (.builtin "type.__call__" ⟨.ref C::vs,kw⟩)) (.call (.ref f) ⟨.ref (s.heap.objs.size+1)::vs,kw⟩) (PySem.W.InitBack (s.heap.objs.size+1) R)
   {s with heap:=(s.heap.push Vb).push (Vd C s.heap.objs.size)}):PQ (Od prog w) A (.call (.ref C) ⟨vs,kw⟩) R s:=by
 obtain⟨hh,g,d,t,os⟩:=s;exact PySem.W.make_core (PySem.W.makes_of X hm) (PySem.W.looks_findIn X hi) (λself=>PySem.W.bind_fn X self hf) (.inl rfl) h
end
def putF(f:Str)(v:V):List (Str×V)->List (Str×V)
 | []=>[(f,v)]
 |(g,x)::r=>if g=f then(g,v)::r else(g,x)::putF f v r
theorem ay(f g:Str)(v:V):∀fs:List (Str×V),(putF f v fs).lookup g=if g=f then some v else fs.lookup g
 | []=>by
   show List.lookup g [(f,v)]=_
   by_cases h:g=f
   .have hb:(g == f)=true:=beq_iff_eq.mpr h;simp only[List.lookup,hb,NR h]
   .have hb:(g == f)=false:=beq_eq_false_iff_ne.mpr h;simp only[List.lookup,hb,NQ h]
 |(k,x)::r=>by
  have ih:=ay f g v r;rw[show putF f v ((k,x)::r)=(if k=f then(k,v)::r else(k,x)::putF f v r)from rfl]
  by_cases hk:k=f
  .rw[NR hk]
   by_cases h:g=k
   .have hb:(g == k)=true:=beq_iff_eq.mpr h;simp only[List.lookup,hb,NR (h.trans hk)]
   .have hb:(g == k)=false:=beq_eq_false_iff_ne.mpr h;simp only[List.lookup,hb,NQ (λe:g=f=>h (e.trans hk.symm))]
  .rw[NQ hk]
   by_cases h:g=k
   .have hb:(g == k)=true:=beq_iff_eq.mpr h;simp only[List.lookup,hb,NQ (λe:g=f=>hk (h.symm.trans e))]
   .have hb:(g == k)=false:=beq_eq_false_iff_ne.mpr h;simp only[List.lookup,hb];exact ih
theorem kM(f:Str)(v:V):∀fs:List (Str×V),f∈(putF f v fs).map (·.1)/\∀g,g∈fs.map (·.1)->g∈(putF f v fs).map (·.1)
 | []=>⟨by simp[putF],λg h=>by simp at h⟩
 |(k,x)::r=>by
  obtain⟨i1,i2⟩:=kM f v r;rw[show putF f v ((k,x)::r)=(if k=f then(k,v)::r else(k,x)::putF f v r)from rfl]
  by_cases hk:k=f
  .rw[NR hk];subst hk;exact⟨by simp,λg h=>by simpa using h⟩
  .rw[NQ hk];refine⟨?_,λg h=>?_⟩
   .rw[Sk];exact R7 _ i1
   .rw[Sk]at h ⊢
    rcases RV.mp h with e|e
    .exact RV.mpr (.inl e)
    .exact R7 _ (i2 g e)
theorem bQ(f:Str)(v:V):∀fs:List (Str×V),(putF f v fs).length<=fs.length+1
 | []=>by simp[putF]
 |(k,x)::r=>by
  have ih:=bQ f v r;rw[show putF f v ((k,x)::r)=(if k=f then(k,v)::r else(k,x)::putF f v r)from rfl]
  by_cases hk:k=f
  .rw[NR hk,Sf,Sf];omega
  .rw[NQ hk,Sf,Sf];omega
theorem kW.some_of{v:V}{o:Option VA}(r:kW (some v) o):∃u,o=some u/\aQ v u:=by
 cases o with
 |none=>exact(show False from r).elim
 |some u=>exact⟨u,rfl,r⟩
theorem kW.none_of{o:Option VA}(r:kW none o):o=none:=by
 cases o with
 |none=>rfl
 |some u=>exact(show False from r).elim
theorem yt{v:V}{u:VA}(r:aQ v u):Vr u=true:=by
 cases v with
 |non=>cases(show u=O8 from r);rfl
 |bl b=>cases(show u=Rr b from r);rfl
 |int i=>obtain⟨t,e⟩:=(show∃t,u=PH i t from r);cases e;rfl
 |str x=>obtain⟨t,e⟩:=(show∃t,u=Ps x t from r);cases e;rfl
 |byt b=>obtain⟨t,e⟩:=(show∃t,u=Value.bytes b t from r);cases e;rfl
 |flt b=>obtain⟨t,e⟩:=(show∃t,u=Value.float b t from r);cases e;rfl
 |ref a=>cases(show u=Of a from r);rfl
 |ty n=>cases(show u=Qv n from r);rfl
section
variable{P:N5}{w:N9}{H H':Hp}{h h':Oe}{a C dx:VB}{fs fs':List (Str×V)}
theorem lK(hok:kh P w H h)(e:H a=some (.ins C dx fs)):∃mA,vR h a dx C mA/\(∀f,kW (fs.lookup f) (mA f))/\PySem.Within mA (fs.map (·.1))/\fs.length<=1000/\H dx=some (.own a):=by obtain⟨d,z,ne,ob,mA,n,r,q⟩:=(show bD P w H h a (.ins C dx fs)from hok a _ e);exact⟨mA,⟨ob,n,ne⟩,r,q,z,d⟩
end
structure tX(K:Frag)(C:VB):Prop where
 pg:Ve K C Pu=true
 hd:Vf K C=true
 po:Vh K C=true
 sa:U4 K (.ref C) "__setattr__"=some (some (.builtin "object.__setattr__"))
theorem tX.get{K:Frag}{C:VB}(c:tX K C)(f:Str):Ve K C f=true:=c.pg
def cm(K:Frag)(C:VB)(f:Str):Prop:=U4 K (.ref C) f=some none
theorem cm.taker{K:Frag}{C:VB}{f:Str}(n:cm K C f):Vo K C f=some none:=by unfold Vo;rw[show U4 K (.ref C) f=some none from n];rfl
structure MC(K:Frag)(C:VB)(m:Str)(f:VB):Prop where
 at_:U4 K (.ref C) m=some (some (.ref f))
 fn:U9 K (.ref f)=true
 kp:Vc K (.ref f)=true
section
variable{X:Cx}{gV:NZ}{σ:St}{H:Hp}{s:N3}{a C dx:VB}{fs:List (Str×V)}{f:Str}{v:V}{A:Oi}{E:NY}
theorem vm{b:Bool}{Q:NY}(I:aK X gV σ H s)(e:H a=some (.ins C dx fs))(c:tX X.K C)(n:cm X.K C f)(l:fs.lookup f=some v)(h:∀u s',aK X gV σ H s'->aQ v u->Q u s'):N8 (Od X.prog X.w) A (getAttr (.ref a) f b) Q E s:=by obtain⟨mA,O,r,_,_,_⟩:=lK I.hok e;obtain⟨u,hu,ru⟩:=kW.some_of (v:=v) (o:=mA f) (by rw[<-l];exact r f);exact CP I.kIn O (c.get f) c.hd n hu (yt ru) (h u _ (I.tok _) ru)
theorem vk{m:Str}{g:VB}{pl:RS Bool}{Q:VA×List VA->N3->Prop}(I:aK X gV σ H s)(e:H a=some (.ins C dx fs))(c:tX X.K C)(k:MC X.K C m g)(l:fs.lookup m=none)(h:Q (.ref g,[.ref a]) s):N8 (Od X.prog X.w) A (getMethod (.ref a) m pl) Q E s:=by obtain⟨mA,O,r,_,_,_⟩:=lK I.hok e;have hn:mA m=none:=kW.none_of (by rw[<-l];exact r m);exact AW I.kIn O (c.get m) k.at_ k.fn hn h
theorem uq{y:V}{u:VA}{Q:Unit->N3->Prop}(I:aK X gV σ H s)(e:H a=some (.ins C dx fs))(c:tX X.K C)(n:cm X.K C f)(hl:fs.length<1000)(ry:aQ y u)(h:∀s',aK X gV σ (upd H a (.ins C dx (putF f y fs))) s'->Q () s'):N8 (Od X.prog X.w) A (setAttr (.ref a) f u) Q E s:=by
 obtain⟨mA,O,r,wi,_,ho⟩:=lK I.hok e;have hz:(fs.map (·.1)).length<=v1:=by rw[RT,Oc];omega
 refine B0 I.kIn O c.sa c.po n.taker c.hd wi hz λh' O' sb=>h _ ?_;have hd:∃o,h'.get? dx=some o:=let ⟨o,_,_,e',_⟩:=O'.ns;⟨o,e'⟩;refine I.write (x:=a) (e:=dx) (by rw[e];exact True.intro) (.inr ho) (λb q hb z=>(sb.2 b hb).trans z) hd ?_;refine⟨by rw[au O.ne];exact ho,?_,O.ne,O'.obj,_,O'.ns,λg=>?_,λg hg=>?_⟩
 .have:=bQ f y fs;omega
 .show kW ((putF f y fs).lookup g) (if g=f then some u else mA g);rw[ay]
  by_cases q:g=f
  .rw[NR q,NR q];exact ry
  .rw[NQ q,NQ q];exact r g
 .by_cases q:g=f
  .rw[q];exact(kM f y fs).1
  .refine(kM f y fs).2 g (wi g λz=>hg ?_);show(if g=f then some u else mA g)=none;rw[NQ q];exact z
theorem aK.made(I:aK X gV σ H s):aK X gV σ (upd (upd H s.heap.objs.size (.own (s.heap.objs.size+1))) (s.heap.objs.size+1) (.ins C s.heap.objs.size [])) {s with heap:=(s.heap.push Vb).push (Vd C s.heap.objs.size)}:=by
 have e1:(s.heap.push Vb).get? s.heap.objs.size=some Vb:=N7 s.heap rfl;have e2:((s.heap.push Vb).push (Vd C s.heap.objs.size)).get? (s.heap.objs.size+1)=some (Vd C s.heap.objs.size):=by
  have:=N7 (s.heap.push Vb) (o:=Vd C s.heap.objs.size) rfl
  rwa[Os]at this
 have e3:(s.heap.push Vb).Ns s.heap.objs.size (λ_=>none):=⟨Vb,#[],_,e1,rfl,(λe he=>NU he (by simp)),λ_=>rfl⟩;have I1:=I.laid (a:=s.heap.objs.size) (o:=.own (s.heap.objs.size+1)) (h':=s.heap.push Vb) (t':=s.toks) (λb u q=>N1 _ q) (TX _) ⟨_,e1⟩;refine I1.laid (a:=s.heap.objs.size+1) (o:=.ins C s.heap.objs.size []) (t':=s.toks) (λb u q=>N1 _ q) (T9 (Os _ _)) ?_;have ne:s.heap.objs.size≠s.heap.objs.size+1:=TY (Uc _);refine⟨by rw[au ne,ah],TZ _,ne,e2,λ_=>none,(Heap.Ns1.of_empty e3).at λo q=>N1 _ q,λ_=>True.intro,λy hy=>NU rfl hy⟩
theorem Di{prog:N5}{w:N9}{env:Rl}{e:Ol}{f:Str}{pos:Qa}{s:N3}{Q:NY}(hb:OE e f env (Ow e env)=Ow e env)(h:N8 (Od prog w) A (Ow e env) (λo s₁=>N8 (Od prog w) A (getAttr o f true) Q E s₁) E s):N8 (Od prog w) A (Ow (.Attribute e f pos) env) Q E s:=
 Attribute_any_ h (by rw[arm_eval_Attribute,hb])
end
def xG(K:Frag)(ta tv:TE)(f:Str):TS:=λD σ H=>tv σ H λy H1=>ta σ H1 λx H2=>∃a C dx fs,x=.ref a/\H2 a=some (.ins C dx fs)/\tX K C/\cm K C f/\fs.length<1000/\
 D.nx σ (upd H2 a (.ins C dx (putF f y fs)))
section
variable{X:Cx}{o e value:Ol}{f:Str}{pos pos' tpos:Qa}{ta tv:TE}
theorem HM(ha:PE X o ta)(hv:PE X value tv)(hs:QN value (some (.Attribute o f pos')) pos.line X.env=pure false):PS X (.Assign [.Attribute o f pos'] value pos) (xG X.K ta tv f):=by intro gV s σ H D I h;refine plainObj_wpAny_Assign_Attribute (bM (hv gV s σ H _ I h) λu s1 ⟨y,H1,I1,ry,q⟩=>bM (ha gV s1 σ H1 _ I1 q) λov s2 ⟨x,H2,I2,rx,a,C,dx,fs,ex,ea,c,n,l,q2⟩=>?_) hs;subst ex;obtain rfl:ov=Of a:=rx;exact uq I2 ea c n l ry λs3 I3=>⟨σ,_,I3,q2⟩
end
section
variable{X:Cx}{gV:NZ}{σ:St}{H:Hp}{s:N3}{A:Oi}{E:NY}{Q:NY}{c:VA}{b:Bool}
inductive kU(K:Frag)(H:Hp):V->VA->Prop where
 |non:kU K H .non (.type "NoneType")
 |bl (x:Bool):kU K H (.bl x) (.type "bool")
 |int (i:Int):kU K H (.int i) (.type "int")
 |str (x:Str):kU K H (.str x) (.type "str")
 |flt (x:UInt64):kU K H (.flt x) (.type "float")
 |lst {a:VB} {xs:List V} (e:H a=some (.lst xs)):kU K H (.ref a) (.type "list")
 |frz {a:VB} {o:Obj} {xs:List V} (e:H a=some (.frz o (.lst xs))):kU K H (.ref a) (.type "list")
 |tup {a:VB} {xs:List V} (e:H a=some (.tup xs)):kU K H (.ref a) (.type "tuple")
 |dK {a:VB} {kvs:List (Key×V)} (e:H a=some (.dK kvs)):kU K H (.ref a) (.type "dict")
 |dT {a:VB} {kvs:List (List Key×V)} (e:H a=some (.dT kvs)):kU K H (.ref a) (.type "dict")
 |ins {a C dx:VB} {fs:List (Str×V)} (e:H a=some (.ins C dx fs)) (cl:tX K C) (ha:U4 K (.ref C) "__class__"=some (some (.builtin "object.__class__")))
   (hn:PySem.W.specialIn K (.builtin "object.__class__") "__get__"=some (some (.builtin "getset_descriptor.__get__"))) (htk:PySem.W.takesIn K (.builtin "object.__class__")=some true)
   (hm:PySem.W.mroIn K C (.type "object")=some true):kU K H (.ref a) (.ref C)
theorem yo{x:V}{u t:VA}(I:aK X gV σ H s)(rx:aQ x u)(ty:kU X.K H x t)(e:Vj X.K t c=some b)(h:∀tk,Q (.bool b) {s with toks:=tk}):N8 (Od X.prog X.w) A (call (.builtin "isinstance") [u,c]) Q E s:=by
 cases ty with
 |non=>cases(show u=O8 from rx);exact U8 PySem.W.kitx_none I.kIn True.intro e (λz=>nomatch z) h
 |bl y=>cases(show u=Rr y from rx);exact U8 PySem.W.kitx_bool I.kIn True.intro e (λz=>nomatch z) h
 |int i=>obtain⟨t,q⟩:=(show∃t,u=PH i t from rx);cases q;exact U8 PySem.W.kitx_int I.kIn True.intro e (λz=>nomatch z) h
 |str y=>obtain⟨t,q⟩:=(show∃t,u=Ps y t from rx);cases q;exact U8 PySem.W.kitx_str I.kIn True.intro e (λz=>nomatch z) h
 |flt y=>obtain⟨t,q⟩:=(show∃t,u=Value.float y t from rx);cases q;exact U8 PySem.W.kitx_float I.kIn True.intro e (λz=>nomatch z) h
 | @lst a xs ea=>
   cases(show u=Of a from rx);obtain⟨_,_,n,_,h1⟩:=(show bD X.prog X.w H s.heap a (.lst xs)from I.hok a _ ea);exact U8 Vs I.kIn ⟨_,h1,rfl⟩ e (λz=>nomatch z) h
 | @frz a ob xs ea=>
   cases(show u=Of a from rx);obtain⟨_,_,_,n,_,h1⟩:=(show bD X.prog X.w H s.heap a (.frz ob (.lst xs))from I.hok a _ ea);exact U8 Vs I.kIn ⟨_,h1,rfl⟩ e (λz=>nomatch z) h
 | @tup a xs ea=>
   cases(show u=Of a from rx);obtain⟨_,_,_,p⟩:=(show bD X.prog X.w H s.heap a (.tup xs)from I.hok a _ ea);obtain⟨o,h1,h2,_⟩:=p;exact U8 PySem.W.kitx_tuple I.kIn ⟨o,h1,h2⟩ e (λz=>nomatch z) h
 | @dK a kvs ea=>
   cases(show u=Of a from rx);obtain⟨_,_,vs,_,p⟩:=(show bD X.prog X.w H s.heap a (.dK kvs)from I.hok a _ ea);obtain⟨o,es,ep,h1,h2,_⟩:=p;exact U8 Vt I.kIn ⟨o,h1,h2.1⟩ e (λz=>nomatch z) h
 | @dT a kvs ea=>
   cases(show u=Of a from rx);obtain⟨_,_,xs,_,o,es,ep,h1,h2,_⟩:=(show bD X.prog X.w H s.heap a (.dT kvs)from I.hok a _ ea);exact U8 Vt I.kIn ⟨o,h1,h2.1⟩ e (λz=>nomatch z) h
 | @ins a C dx fs ea cl ha hn htk hm=>
   cases(show u=Of a from rx);obtain⟨mA,O,_⟩:=lK I.hok ea;obtain⟨od,J,_⟩:=O.look;exact U8 (PySem.W.kitx_own (cl.get _) cl.hd ha hn htk hm) I.kIn J e (λz=>nomatch z) h
end
structure cY(k:Nat)(A:Oi):Prop where
 hd:A.handled=none
 dp:A.depth+3*k+5<recursionLimit
 un:A.units+16*k+200<Pf
theorem cY.mono{j k:Nat}{A:Oi}(r:cY k A)(h:j<=k):cY j A:=⟨r.hd,by have:=r.dp;omega,by have:=r.un;omega⟩
theorem cY.deeper{k:Nat}{A:Oi}(r:cY (k+1) A)(env:Rl):cY k (A.deeper env):=
 ⟨r.hd,by have:=r.dp;show A.depth+1+3*k+5<_;omega,by have:=r.un;show A.units+3+16*k+200<_;omega⟩
theorem vc{A:Oi}{C:VB}{us:List VA}{kw:List (Str×VA)}:(A.under (.builtin "type.__call__" ⟨.ref C::us,kw⟩)).depth=A.depth+1:=by
 first|rfl|simp[RH,Code.weight,Code.isCreation,Code.isGuard,Code.isCaller,Code.frames,RE,guardIds]
theorem vb{A:Oi}{C:VB}{us:List VA}{kw:List (Str×VA)}:(A.under (.builtin "type.__call__" ⟨.ref C::us,kw⟩)).units=A.units+1:=by
 first|rfl|simp[RH,Code.cUnits,Code.frames,RE]
theorem cY.make{k:Nat}{A:Oi}(r:cY (k+1) A)(C:VB)(us:List VA)(kw:List (Str×VA)):cY k (A.under (.builtin "type.__call__" ⟨.ref C::us,kw⟩)):=
 ⟨r.hd,by have:=r.dp;rw[vc];omega,by have:=r.un;rw[vb];omega⟩
theorem cY.depth{k:Nat}{A:Oi}(r:cY k A):A.depth<recursionLimit:=by have:=r.dp;omega
theorem cY.units{k:Nat}{A:Oi}(r:cY k A):A.units+64<Pf:=by have:=r.un;omega
def cL:TA:=λ_ H Q=>Q [] H
def bo(ta:TE)(tr:TA):TA:=λσ H Q=>ta σ H λx H1=>tr σ H1 λxs H2=>Q (x::xs) H2
section
variable{X:Cx}{e:Ol}{es:List Ol}{te:TE}{t:TA}{pos:Qa}
theorem pan:PA X [] cL:=λ_ _ _ _ H Q I h=>Calls.spliced_nil ⟨[],H,I,.nil,h⟩
theorem pa_cons(ha:PE X e te)(hr:PA X es t)(hs:N6 (e::es) X.env=(false,Ow e X.env)::N6 es X.env:=by rfl):PA X (e::es) (bo te t):=by intro pos gV s σ H Q I h;rw[hs];show N8 _ _ (spliced ((false,Ow e X.env)::Ot pos (N6 es X.env))) _ _ s;refine Calls.spliced_cons (bM (ha gV s σ H _ I h) λu s1 ⟨x,H1,I1,r1,q1⟩=>?_);exact bM (hr pos gV s1 σ H1 _ I1 q1) λus s2 ⟨xs,H2,I2,r2,q2⟩=>⟨x::xs,H2,I2,.cons r1 r2,q2⟩
def zm(t:TA):TE:=λσ H Q=>t σ H λxs H1=>xs.length<=v1/\∀p,H1 p=none->Q (.ref p) (upd H1 p (.tup xs))
def uf(t:TA):TE:=λσ H Q=>t σ H λxs H1=>xs.length<=v1/\∀p,H1 p=none->Q (.ref p) (upd H1 p (.lst xs))
theorem fj{x1}(h:PA X es t):PE X (.Tuple es x1 pos) (zm t):=by intro gV s σ H Q I hq;refine wpAny_Tuple_spliced (bM (h pos gV s σ H _ I hq) λus s1 ⟨xs,H1,I1,r,z,q⟩=>⟨by rw[<-r.length];exact z,?_⟩);have hf:H1 s1.heap.objs.size=none:=I1.hok.fresh (TX _);refine⟨.ref s1.heap.objs.size,upd H1 s1.heap.objs.size (.tup xs),I1.laid (t':=s1.toks) (λb u e=>N1 _ e) (TX _) ?_,rfl,q _ hf⟩;exact⟨z,us,r,⟨_,N7 _ rfl,rfl,_,rfl⟩⟩
theorem bz(h:PA X es t):PE X (.List es pos) (uf t):=by intro gV s σ H Q I hq;refine wpAny_List_spliced (bM (h pos gV s σ H _ I hq) λus s1 ⟨xs,H1,I1,r,z,q⟩=>⟨by rw[<-r.length];exact z,?_⟩);have hf:H1 s1.heap.objs.size=none:=I1.hok.fresh (TX _);refine⟨.ref s1.heap.objs.size,upd H1 s1.heap.objs.size (.lst xs),I1.laid (t':=s1.toks) (λb u e=>N1 _ e) (TX _) ?_,rfl,q _ hf⟩;exact⟨z,us,0,r,N7 _ rfl⟩
end
abbrev Sp:=List V->Hp->VK->XK->Prop
abbrev y6:=List Rl->Hp->N3->XK->VA->N3->Prop
structure vT(P:N5)(w:N9)(K:Frag)(mg:NX)(np:Oe)(A:Oi)(xc:List Rl)(s:N3)(H:Hp):Prop where
 frames:A.frames=some xc
 mod:Mod K mg np
 bs:∀b o,np.get? b=some o->s.heap.get? b=some o/\H b=none
 bsz:np.objs.size<=s.heap.objs.size
 funs:s.heap.FunFrames np xc
 frf:∀b∈wO xc,H b=none
 hok:kh P w H s.heap
 bare:QD s.gens
def CE(xc:List Rl)(P:N5)(w:N9)(H:Hp)(s:N3)(Q:VK)(u:VA)(s':N3):Prop:=
 ∃v H',s'.os=s.os/\QD s'.gens/\Un (wO xc) [] H H' s.heap s'.heap/\kh P w H' s'.heap/\aQ v u/\Q v H'
def CR(CX:y6)(xc:List Rl)(P:N5)(w:N9)(H:Hp)(s:N3)(Q:VK)(E:XK)(r:RL)(s':N3):Prop:=
 match r with
 | .ok (.ret u)=>CE xc P w H s Q u s'
 | .ok _=>False
 | .error e=>CX xc H s E e s'
structure aY(P:N5)(w:N9)(K:Frag)(mg:NX)(np:Oe)(CX:y6)(k:Nat)(f:VB)(fd:Oa)(ps:List Str)(sp:Sp):Prop where
 len:∀vs H Q E,sp vs H Q E->vs.length=ps.length
 run:∀(A:Oi)(xc:List Rl)(s:N3)(H:Hp)(args:Args)(us:List VA)(vs:List V)(Q:VK)(E:XK),cY k A->vT P w K mg np A xc s H->RF s fd args (ps.zip us)->aX vs us->sp vs H Q E->
  PQ (Od P w) A (.call (.ref f) args) (CR CX xc P w H s Q E) s
theorem aY.imp{P:N5}{w:N9}{K:Frag}{mg:NX}{np:Oe}{CX:y6}{k:Nat}{f:VB}{fd:Oa}{ps:List Str}{sp sp':Sp}(F:aY P w K mg np CX k f fd ps sp)(h:∀vs H Q E,sp' vs H Q E->sp vs H Q E):aY P w K mg np CX k f fd ps sp':=
 ⟨λvs H Q E q=>F.len vs H Q E (h _ _ _ _ q),λA xc s H args us vs Q E hr he hb hv hs=>F.run A xc s H args us vs Q E hr he hb hv (h _ _ _ _ hs)⟩
theorem vT.make{P:N5}{w:N9}{K:Frag}{mg:NX}{np:Oe}{A:Oi}{xc:List Rl}{s:N3}{H:Hp}(e:vT P w K mg np A xc s H)(C:VB)(us:List VA)(kw:List (Str×VA)):vT P w K mg np (A.under (.builtin "type.__call__" ⟨.ref C::us,kw⟩)) xc s H:=⟨by first|exact e.frames|(simpa[RH,Code.envs,RE,pushEnvs]using e.frames),e.mod,e.bs,e.bsz,e.funs,e.frf,e.hok,e.bare⟩
section
variable{X:Cx}{gV:NZ}{σ:St}{H:Hp}{s s':N3}
theorem aK.env0(I:aK X gV σ H s):vT X.prog X.w X.K X.mg X.np X.A X.stack s H:=
 ⟨I.ok.frames,I.ok.mod,I.bs,T0 I.ok.bsz I.sz,I.stack,I.stkFree,I.hok,I.bare⟩
theorem aK.after{Q:VK}{u:VA}(I:aK X gV σ H s)(h:CE X.stack X.prog X.w H s Q u s'):EP X gV σ Q u s':=by obtain⟨v,H',os,bare,un,hok,r,q⟩:=h;obtain⟨hh,g,d,t,os'⟩:=s';obtain rfl:os'=s.os:=os;exact⟨v,H',I.call (h':=hh) (g':=g) (d':=d) (t':=t) (ch:=[]) un hok bare (λb z=>NU z (by simp)),r,q⟩
end
def zp(sp:Sp)(dvs:List V)(E:XK)(t:TA):TE:=λσ H Q=>t σ H λvs H1=>sp (vs++dvs) H1 Q E
def zo(C:VB)(sp:Sp)(dvs:List V)(E:XK)(t:TA):TE:=λσ H Q=>t σ H λvs H1=>∀x dx,H1 x=none->H1 dx=none->dx≠x->
 sp (.ref x::(vs++dvs)) (upd (upd H1 dx (.own x)) x (.ins C dx [])) (λv H2=>v=.non/\Q (.ref x) H2) E
def jp(K:Frag)(fd:Oa)(ps:List Str)(ds:List VA):Prop:=
 ∀(s:N3)(us:List VA),K.In s.heap->(us++ds).length=ps.length->RF s fd ⟨us,[]⟩ (ps.zip (us++ds))
theorem jp.all{K:Frag}{fd:Oa}{ps:List Str}(h:∀us:List VA,us.length=ps.length->bindArgs fd ⟨us,[]⟩=pure (ps.zip us)):jp K fd ps []:=λs us _ hl=>by rw[Sw]at hl ⊢;exact .of_eq (h us hl)
def nc(CX:y6)(X:Cx)(E:XK):Prop:= ∀(gV:NZ)(σ:St)(H:Hp)(s:N3)(e:VA)(s':N3),aK X gV σ H s->CX X.stack H s E e s'->X.xe e s'
section
variable{X:Cx}{CX:y6}{k:Nat}{f C:VB}{fd:Oa}{ps:List Str}{sp:Sp}{dvs:List V}{ds:List VA}{E:XK}{x m:Str}{p pos apos:Qa}{e o:Ol}{es:List Ol}{ta:TE}{t:TA}
theorem zL{gV:NZ}{σ:St}{H:Hp}{s:N3}{Q:VK}{us:List VA}{vs:List V}(F:aY X.prog X.w X.K X.mg X.np CX k f fd ps sp)(hr:cY k X.A)(hb:jp X.K fd ps ds)(hd:aX dvs ds)(hx:nc CX X E)(I:aK X gV σ H s)(r:aX vs us)(h:sp (vs++dvs) H Q E):N8 (Od X.prog X.w) X.A (call (.ref f) us) (EP X gV σ Q) X.xe s:=by
 have r2:aX (vs++dvs) (us++ds):=r.append hd;have hl:(us++ds).length=ps.length:=by rw[<-r2.length];exact F.len _ _ _ _ h
 refine QR (OZ (F.run X.A X.stack s H ⟨us,[]⟩ (us++ds) (vs++dvs) Q E hr I.env0 (hb s us I.kIn hl) r2 h) λr s' hq=>?_);cases r with
 |error e=>exact hx gV σ H s e s' I hq
 |ok fl=>
  cases fl with
  |ret u=>exact I.after hq
  |next=>exact False.elim hq
  |brk=>exact False.elim hq
  |cont=>exact False.elim hq
theorem Cj(F:aY X.prog X.w X.K X.mg X.np CX k f fd ps sp)(hr:cY k X.A)(hg:Gl X x)(hm:X.mg x=some (.ref f))(hk:Vc X.K (.ref f)=true)(hb:jp X.K fd ps ds)(hd:aX dvs ds)(hx:nc CX X E)(ha:PA X (e::es) t)(hdb:(x == ("__debug__":Str))=false:=by decide)(he:N6 (e::es) X.env=(false,Ow e X.env)::N6 es X.env:=by rfl)(hpl:(Ot pos (N6 es X.env)).any (·.1)=false:=by rfl):PE X (.Call (.Name x p) (e::es) [] pos) (zp sp dvs E t):=by intro gV s σ H Q I h;refine O7 (qy I hg hm ?_ hdb);refine Vp (h₀:=X.np) I.ok.mod.kin hk (bM (ha pos gV s σ H _ I h) λus s1 ⟨vs,H1,I1,r,q⟩=>⟨I1.kIn,?_⟩) he hpl;exact zL F hr hb hd hx I1 r q
structure Mk(K:Frag)(C f:VB):Prop where
 makes:Vi K C=true
 init:U4 K (.ref C) "__init__"=some (some (.ref f))
 fn:U9 K (.ref f)=true
 kp:Vc K (.ref C)=true
theorem zK{gV:NZ}{σ:St}{H:Hp}{s:N3}{Q:VK}{us:List VA}{vs:List V}(M:Mk X.K C f)(F:aY X.prog X.w X.K X.mg X.np CX k f fd ps sp)(hr:cY (k+1) X.A)(hb:jp X.K fd ps ds)(hd:aX dvs ds)(hx:nc CX X E)(I:aK X gV σ H s)(r:aX vs us)(h:∀x dx,H x=none->H dx=none->dx≠x->sp (.ref x::(vs++dvs)) (upd (upd H dx (.own x)) x (.ins C dx [])) (λv H2=>v=.non/\Q (.ref x) H2) E):N8 (Od X.prog X.w) X.A (call (.ref C) us) (EP X gV σ Q) X.xe s:=by
 have hq:=h (s.heap.objs.size+1) s.heap.objs.size (I.hok.fresh (T3 _)) (I.hok.fresh (TX _)) (TY (Uc _));have I2:=aK.made (C:=C) I;have r2:aX (V.ref (s.heap.objs.size+1)::(vs++dvs)) (Of (s.heap.objs.size+1)::(us++ds)):=.cons rfl (r.append hd);have hl:(Of (s.heap.objs.size+1)::us++ds).length=ps.length:=by have e:=r2.length;rw[F.len _ _ _ _ hq]at e;exact e.symm
 refine QR (Ay (f:=f) I.kIn M.makes M.init (beq_iff_eq.mp M.fn) (OZ (F.run _ X.stack _ _ ⟨Of (s.heap.objs.size+1)::us,[]⟩ (Of (s.heap.objs.size+1)::(us++ds)) _ _ E (hr.make C us [])
  (I2.env0.make C us []) (hb _ (Of (s.heap.objs.size+1)::us) I2.kIn hl) r2 hq) λr s' hq'=>?_))
 cases r with
 |error e=>exact hx gV σ _ _ e s' I2 hq'
 |ok fl=>
  cases fl with
  |ret u=>
   obtain⟨v,H',I3,rv,ev,q3⟩:=I2.after hq';subst ev;exact⟨rv,⟨V.ref (s.heap.objs.size+1),H',I3,rfl,q3⟩⟩
  |next=>exact False.elim hq'
  |brk=>exact False.elim hq'
  |cont=>exact False.elim hq'
theorem Cf(M:Mk X.K C f)(F:aY X.prog X.w X.K X.mg X.np CX k f fd ps sp)(hr:cY (k+1) X.A)(hg:Gl X x)(hm:X.mg x=some (.ref C))(hb:jp X.K fd ps ds)(hd:aX dvs ds)(hx:nc CX X E)(ha:PA X (e::es) t)(hdb:(x == ("__debug__":Str))=false:=by decide)(he:N6 (e::es) X.env=(false,Ow e X.env)::N6 es X.env:=by rfl)(hpl:(Ot pos (N6 es X.env)).any (·.1)=false:=by rfl):PE X (.Call (.Name x p) (e::es) [] pos) (zo C sp dvs E t):=by intro gV s σ H Q I h;refine O7 (qy I hg hm ?_ hdb);refine Vp (h₀:=X.np) I.ok.mod.kin M.kp (bM (ha pos gV s σ H _ I h) λus s1 ⟨vs,H1,I1,r,q⟩=>⟨I1.kIn,?_⟩) he hpl;exact zK M F hr hb hd hx I1 r q
end
structure aD(N P:List Str)(sc:PF):Prop where
 kind:sc.kind=.function
 co:sc.isCoroutine=false
 gen:sc.isGenerator=false
 nd:N.Nodup
 pre:N.take P.length=P
 par:∀x∈P,sc.names.lookup x=some .local\/sc.names.lookup x=some .cell
 nofree:∀y∈sc.names,y.2≠.free
theorem oH{kindOf:Str->Option NameKind}{x:Str}:∀{binds:List (Str×VA)}{m:NX},(∀v,(x,v)∉binds)->RP kindOf binds m x=m x
 | [],_,_=>rfl
 |(n,v)::r,m,h=>by
  unfold RP;rw[oH λw hw=>h w (R7 _ hw)];split
  .have:x≠n:=by rintro rfl;exact h v R6
   simp[this]
  .rfl
theorem oM{kindOf:Str->Option NameKind}{x:Str}:∀{binds:List (Str×VA)}{m:NX},(∀v,(x,v)∉binds)->RQ kindOf binds m x=m x
 | [],_,_=>rfl
 |(n,v)::r,m,h=>by
  unfold RQ;rw[oM λw hw=>h w (R7 _ hw)];split
  .rfl
  .have:x≠n:=by rintro rfl;exact h v R6
   simp[this]
theorem oK{kindOf:Str->Option NameKind}{x:Str}{v:VA}:∀{P:List Str}{vs:List VA}{i:Nat}{m:NX},P.Nodup->P[i]? =some x->vs[i]? =some v->kindOf x=some .local->RP kindOf (P.zip vs) m x=some v
 | [],_,_,_,_,h,_,_=>by simp at h
 |_::_,[],_,_,_,_,h,_=>by simp at h
 |p::P,w::vs,0,m,nd,h1,h2,hk=>by simp at h1 h2;subst h1;subst h2;show RP kindOf ((p,w)::P.zip vs) m p=_;unfold RP;rw[oH λv hv=>(SH.mp nd).1 (Td hv).1,NR hk];simp
 |p::P,w::vs,i+1,m,nd,h1,h2,hk=>by show RP kindOf ((p,w)::P.zip vs) m x=_;unfold RP;exact oK (i:=i) (SH.mp nd).2 (by simpa using h1) (by simpa using h2) hk
theorem oN{kindOf:Str->Option NameKind}{x:Str}{v:VA}:∀{P:List Str}{vs:List VA}{i:Nat}{m:NX},P.Nodup->P[i]? =some x->vs[i]? =some v->kindOf x≠some .local->RQ kindOf (P.zip vs) m x=some v
 | [],_,_,_,_,h,_,_=>by simp at h
 |_::_,[],_,_,_,_,h,_=>by simp at h
 |p::P,w::vs,0,m,nd,h1,h2,hk=>by simp at h1 h2;subst h1;subst h2;show RQ kindOf ((p,w)::P.zip vs) m p=_;unfold RQ;rw[oM λv hv=>(SH.mp nd).1 (Td hv).1,NQ hk];simp
 |p::P,w::vs,i+1,m,nd,h1,h2,hk=>by show RQ kindOf ((p,w)::P.zip vs) m x=_;unfold RQ;exact oN (i:=i) (SH.mp nd).2 (by simpa using h1) (by simpa using h2) hk
def start(N:List Str)(vs:List V):St:=vs.map some++List.replicate (N.length - vs.length) none
def vB(CX:y6)(P:N5)(w:N9)(K:Frag)(mg:NX)(np:Oe)(N:List Str)(qual:Str)(scope:PF)(f:VB)(cd:VA)(A:Oi)(xc:List Rl)(s:N3)(H:Hp)(E:XK):Cx where
 prog:=P
 w:=w
 K:=K
 mg:=mg
 np:=np
 A:=A.deeper (QV qual scope s.heap.objs.size f cd)
 N:=N
 s₀:=s
 H₀:=H
 env:=QV qual scope s.heap.objs.size f cd
 xc:=xc
 stack:=QV qual scope s.heap.objs.size f cd::xc
 ex:=[]
 calm:=true
 fn:=λ_=>true
 pn:=[]
 xe:=λe s'=>N8 (Od P w) (A.deeper (QV qual scope s.heap.objs.size f cd)) (leaving (QV qual scope s.heap.objs.size f cd) e) (λ_ s''=>CX xc H s E e s'') (λe' s''=>CX xc H s E e' s'') s'
theorem tG{sc:PF}{n:Nat}{x:Str}(h:sc.names.lookup x=some .cell):∃c,(cellsFrom n sc.names []).lookup x=some c:=by have q:=Vu sc.names n [] (.inl h);exact Option.isSome_iff_exists.mp q
theorem yp{CX:y6}{P:N5}{w:N9}{K:Frag}{mg:NX}{np:Oe}{N ps:List Str}{qual:Str}{scope:PF}{f:VB}{cd:VA}{A:Oi}{xc:List Rl}{s s1:N3}{H:Hp}{E:XK}{us:List VA}{vs:List V}(S:aD N ps scope)(hd:A.handled=none)(e0:vT P w K mg np A xc s H)(hl:vs.length=ps.length)(r:aX vs us)(x:InCallC s s.heap.objs.size (RP (QV qual scope s.heap.objs.size f cd).kindOf (ps.zip us) λ_=>none) (cellsFrom (s.heap.objs.size+1) scope.names []) (RQ (QV qual scope s.heap.objs.size f cd).kindOf (ps.zip us) λ_=>none) s1):aK (vB CX P w K mg np N qual scope f cd A xc s H E) [] (start N vs) H s1:=by
 have hpl:ps.length<=N.length:=by have:=NW List.length S.pre;rw[Si]at this;omega
 obtain⟨h1,tk,rfl,hk⟩:=x.done;have noA:∀b:VB,b∉(vB CX P w K mg np N qual scope f cd A xc s H E).ex:=λb z=>NU (show b∈([]:List VB)from z) (by simp);refine⟨⟨e0.mod,S.kind,rfl,rfl,TX _,λy z c h1 h2=>?_,λy hy=>?_,λy c _ h=>?_,λ_=>hd,Around.frames_deeper e0.frames,.inr ⟨rfl,rfl⟩,λb z=>NU z (noA b),e0.bs,e0.bsz,λb _ _=>noA b,λb z=>NU z (noA b),e0.funs,e0.frf⟩,
  rfl,e0.bare,Un.kept hk,⟨_,x.toInCall.ns,λi y v h1 h2 h3=>?_⟩,λy c h=>⟨_,x.cell y c h⟩,e0.hok.fresh (TX _),λy c h=>?_,λp hp=>NU (show p∈([]:NZ)from hp) (by simp),e0.hok.kept hk,?_⟩
 .exact name_of_addr x.apart (PySem.mem_of_lookup h1) (PySem.mem_of_lookup h2)
 .have hy:scope.names.lookup y=some .cell\/scope.names.lookup y=some .free:=hy
  rcases hy with hy|hy
  .exact tG hy
  .exact NU rfl (S.nofree _ (PySem.mem_of_lookup hy))
 .exact Ub (x.above y c (PySem.mem_of_lookup h))
 .have hi:i<vs.length:=by
   unfold start at h2
   by_cases hi:i<vs.length
   .exact hi
   .rw[S4 (by simpa using hi)]at h2;rw[List.getElem?_replicate]at h2;split at h2<;>cases h2
  have ha:vs[i]? =some v:=by
   unfold start at h2;rw[SU (by simpa using hi),RX]at h2;cases e:vs[i]? with
   |none=>rw[e]at h2;cases h2
   |some a=>rw[e]at h2;cases h2;rfl
  obtain⟨u,hu,rv⟩:=r.get ha;have hp:ps[i]? =some y:=by rw[<-S.pre,Te (by omega)];exact h1
  have ndP:ps.Nodup:=by rw[<-S.pre];exact S.nd.sublist (TF _ _)
  refine⟨u,rv,?_⟩
  rcases S.par y (Sl hp)with k|k
  .exact .inl ⟨k,oK ndP hp hu k⟩
  .obtain⟨c,e⟩:=tG (n:=s.heap.objs.size+1) k;refine .inr ⟨.inl k,c,e,?_⟩;have q:=x.cell y c e;rw[oN ndP hp hu (by show scope.names.lookup y≠_;rw[k];decide)]at q;exact q
 .exact e0.hok.fresh (Ub (x.above y c (PySem.mem_of_lookup h)))
 .unfold start;show _=N.length;rw[R9,RT,List.length_replicate];omega
theorem Mb{CX:y6}{P:N5}{w:N9}{K:Frag}{mg:NX}{np:Oe}{k:Nat}{f:VB}{name qual:Str}{params:Arguments}{body:List Oo}{scope:PF}{dV kV doc pm cdv ct oc:VA}{an od:Option VB}{osl:Array (Option VA)}{N ps:List Str}{sp:Sp}(lk:K.lookup f=some ⟨oc,od,.func (Va name qual params body scope dV kV doc pm an cdv ct),osl⟩)(hcd:Vk K cdv qual=true)(S:aD N ps scope)(len:∀vs H Q E,sp vs H Q E->vs.length=ps.length)(hbody:∀(A:Oi)(xc:List Rl)(s:N3)(H:Hp)(vs:List V)(Q:VK)(E:XK),cY k (A.deeper (QV qual scope s.heap.objs.size f cdv))->sp vs H Q E->
   ∃t,t6 (vB CX P w K mg np N qual scope f cdv A xc s H E) body t/\t {nx:=λ_ H'=>Q .non H',rt:=Q} (start N vs) H):aY P w K mg np CX (k+1) f (Va name qual params body scope dV kV doc pm an cdv ct) ps sp:=by
 refine⟨len,λA xc s H args us vs Q E hr e0 hb r hsp=>?_⟩;have hl:=len _ _ _ _ hsp;have KX:K.In s.heap:=e0.mod.kin.keeps λb o e=>(e0.bs b o e).1;have lim:s.heap.NoLimit:=e0.mod.nolimit.keeps λb o e=>(e0.bs b o e).1;have hkind:∀y∈ps.zip us,scope.names.lookup y.1=some .local\/(scope.names.lookup y.1=some .cell/\((cellsFrom (s.heap.objs.size+1) scope.names []).lookup y.1).isSome=true):=λ⟨n,v⟩ hy=>by
  rcases S.par n (Td hy).1 with q|q
  .exact .inl q
  .exact .inr ⟨q,Vu _ _ _ (.inl q)⟩
 refine codeAny_call_function hr.depth (KX _ _ lk) rfl S.co S.gen rfl (PySem.W.codeRec_of KX hcd) (hb _ _ _ _ ?_);refine wpAny_newFunctionEnv_cells S.kind hkind λenv he s1 x=>?_;subst he;refine⟨lim.keeps x.toInCall.keep,codeAny_func ?_⟩;obtain⟨t,ht,hq⟩:=hbody A xc s H vs Q E (hr.deeper _) hsp;have I:aK (vB CX P w K mg np N qual scope f cdv A xc s H E) [] (start N vs) H s1:=yp S hr.hd e0 hl r x;refine O6 (ht [] s1 (start N vs) H _ I hq) (λfl s' hs=>?_) λe s' hs=>hs;have fin:∀{σ':St}{H':Hp}{v:V}{u:VA},aK (vB CX P w K mg np N qual scope f cdv A xc s H E) [] σ' H' s'->aQ v u->Q v H'->CE xc P w H s Q u s':=
  λ{σ' H' v u} J rv q=>⟨v,H',J.os,J.bare,J.np,J.hok,rv,q⟩
 cases fl with
 |ret u=>
  obtain⟨v,σ',H',J,rv,q⟩:=hs;exact fin J rv q
 |next=>
  obtain⟨σ',H',J,q⟩:=hs;exact fin (v:=V.non) (u:=O8) J rfl q
 |brk=>
  obtain⟨_,_,_,q⟩:=hs;exact False.elim q
 |cont=>
  obtain⟨_,_,_,q⟩:=hs;exact False.elim q
section
variable{X:Cx}{x:Str}{p pos:Qa}{e:Ol}{es:List Ol}{t:TA}{id T:String}{r:List V->Hp->VK->Prop}
def tCB(r:List V->Hp->VK->Prop)(t:TA):TE:=λσ H Q=>t σ H λvs H1=>r vs H1 Q
theorem Al(hc:bf X (.builtin id) r)(hg:Gl X x)(hm:X.mg x=none)(hv:Oh x=some (.builtin id))(ha:PA X (e::es) t)(hn:x≠"__name__":=by decide)(hdb:(x == ("__debug__":Str))=false:=by decide)(he:N6 (e::es) X.env=(false,Ow e X.env)::N6 es X.env:=by rfl)(hpl:(Ot pos (N6 es X.env)).any (·.1)=false:=by rfl):PE X (.Call (.Name x p) (e::es) [] pos) (tCB r t):=by intro gV s σ H Q I h;refine O7 (iH I hg hm hv ?_ hn hdb);exact PyProof.Rows.callWith_builtin1 (bM (ha pos gV s σ H _ I h) λus s1 ⟨vs,H1,I1,r1,q1⟩=>hc gV s1 σ H1 vs us Q I1 r1 q1) he hpl
theorem xU(hc:bf X (.type T) r)(hg:Gl X x)(hm:X.mg x=none)(hv:Oh x=some (.type T))(ha:PA X (e::es) t)(hn:x≠"__name__":=by decide)(hdb:(x == ("__debug__":Str))=false:=by decide)(he:N6 (e::es) X.env=(false,Ow e X.env)::N6 es X.env:=by rfl)(hpl:(Ot pos (N6 es X.env)).any (·.1)=false:=by rfl):PE X (.Call (.Name x p) (e::es) [] pos) (tCB r t):=by intro gV s σ H Q I h;refine O7 (iH I hg hm hv ?_ hn hdb);exact PyProof.Rows.callWith_type1 (bM (ha pos gV s σ H _ I h) λus s1 ⟨vs,H1,I1,r1,q1⟩=>hc gV s1 σ H1 vs us Q I1 r1 q1) he hpl
end
end L2
namespace HT
open PySem PyProof.Rows
section
variable{prog:N5}{w:N9}{A:Oi}{E:NY}{s:N3}
def sIx(n d:Nat):Option Int->Nat
 |none=>d
 |some v=>if v<0 then(v+(n:Int)).toNat else min v.toNat n
theorem sIx_none(n d:Nat):sIx n d none=d:=rfl
theorem sIx_nat(n d k:Nat):sIx n d (some (k:Int))=min k n:=by show(if(k:Int)<0 then((k:Int)+(n:Int)).toNat else min (k:Int).toNat n)=min k n;rw[NQ (by omega),Um]
theorem sIx_le(n d:Nat)(hd:d<=n)(o:Option Int):sIx n d o<=n:=by
 cases o with
 |none=>exact hd
 |some v=>
  show(if v<0 then(v+(n:Int)).toNat else min v.toNat n)<=n
  by_cases hv:v<0
  .rw[NR hv];omega
  .rw[NQ hv];exact Nat.min_le_right _ _
end
end HT
namespace L2
open PySem PySem.Spec PyProof.Rows
abbrev TO:=St->Hp->(Option Int->Hp->Prop)->Prop
def PO(X:Cx)(e:Option Ol)(t:TO):Prop:=
 ∀(gV:NZ)(s:N3)(σ:St)(H:Hp)(Q:Option Int->Hp->Prop),aK X gV σ H s->t σ H Q->
  N8 (Od X.prog X.w) X.A (evalPart e X.env) (λu s'=>∃o H',aK X gV σ H' s'/\RR u o/\Q o H') X.xe s
def lB:TO:=λ_ H Q=>Q none H
theorem mO{ns:List Int}:∀{us:List VA},aX (ns.map V.int) us->Rf us ns:=by
 induction ns with
 |nil=>intro us r;rw[Tf]at r;cases r;exact .nil
 |cons n ns ih=>
  intro us r;rw[Sk]at r;cases r with
  |cons r1 r2=>
   obtain⟨t,e⟩:=r1;subst e;exact .cons n t (ih r2)
section
variable{X:Cx}{e:Ol}{te:TE}{lo hi:Option Ol}{tl th:TO}{pos p2:Qa}
theorem gk:PO X none lB:=by intro gV s σ H Q I h;rw[evalPart_none];exact N2 ⟨none,H,I,.none,h⟩
def y0(X:Cx)(r:V->Option Int->Option Int->Hp->VK->Prop):Prop:=
 ∀(gV:NZ)(s:N3)(σ:St)(H:Hp)(x:V)(v vl vu:VA)(lo hi:Option Int)(sl:VB)(Q:VK),aK X gV σ H s->aQ x v->s.heap.IsSliceOf sl vl vu .none->RR vl lo->RR vu hi->r x lo hi H Q->
  ∃T id,Qq (.type T) "__getitem__"=pure (some (.builtin id))/\s.TypeIs v T/\N8 (Od X.prog X.w) X.A (getItem v (.ref sl)) (EP X gV σ Q) X.xe s
theorem y0.or{r r':V->Option Int->Option Int->Hp->VK->Prop}(h:y0 X r)(h':y0 X r'):y0 X (λx lo hi H Q=>r x lo hi H Q\/r' x lo hi H Q):=by
 intro gV s σ H x v vl vu lo hi sl Q I rx hs pl pu q
 rcases q with q|q
 .exact h gV s σ H x v vl vu lo hi sl Q I rx hs pl pu q
 .exact h' gV s σ H x v vl vu lo hi sl Q I rx hs pl pu q
def tSl(r:V->Option Int->Option Int->Hp->VK->Prop)(te:TE)(tl th:TO):TE:=λσ H Q=>te σ H λx H1=>tl σ H1 λl H2=>th σ H2 λu H3=>r x l u H3 Q
theorem Aj{r:V->Option Int->Option Int->Hp->VK->Prop}(hr:y0 X r)(he:PE X e te)(hl:PO X lo tl)(hu:PO X hi th):PE X (.Subscript e (.Slice lo hi none p2) pos) (tSl r te tl th):=by intro gV s σ H Q I h;refine Subscript_ (bM (he gV s σ H _ I h) λv s1 ⟨x,H1,I1,r1,q1⟩=>?_);refine wpAny_Slice (bM (hl gV s1 σ H1 _ I1 q1) λvl s2 ⟨l,H2,I2,pl,q2⟩=>bM (hu gV s2 σ H2 _ I2 q2) λvu s3 ⟨u,H3,I3,pu,q3⟩=>?_);rw[evalPart_none];refine N2 ?_;have I4:aK X gV σ H3 {s3 with heap:=s3.heap.push {cls:=.type "slice",data:=.fields #[vl,vu,.none]}}:=I3.kept (t':=s3.toks) λb ob q=>N1 _ q;obtain⟨T,id,hT,ht,hg⟩:=hr gV {s3 with heap:=s3.heap.push {cls:=.type "slice",data:=.fields #[vl,vu,.none]}} σ H3 x v vl vu l u s3.heap.objs.size Q I4 r1 (Heap.IsSliceOf.new ..) pl pu q3;show N8 (Od X.prog X.w) X.A (subscriptTail e (.Slice lo hi none p2) v (.ref s3.heap.objs.size)) (EP X gV σ Q) X.xe {s3 with heap:=s3.heap.push {cls:=.type "slice",data:=.fields #[vl,vu,.none]}};exact tail_any (ops:=[.ref s3.heap.objs.size,v]) ht hT hg (by with_unfolding_all rfl)
def fu(xs:List V)(lo hi:Option Int):List V:=(xs.drop (HT.sIx xs.length 0 lo)).take (HT.sIx xs.length xs.length hi - HT.sIx xs.length 0 lo)
theorem lg(xs:List V)(lo hi:Option Int):(fu xs lo hi).length<=xs.length:=by unfold fu;rw[Si,SI];omega
end
def ixN(n:Nat)(i:Int):Option Nat:=if 0<=i then(if i<n then some i.toNat else none)else if -(n:Int)<=i then some (i+n).toNat else none
def jn{α:Type}(xs:List α)(i:Int):Option α:=(ixN xs.length i).bind λj=>xs[j]?
theorem wH{n:Nat}{i:Int}{j:Nat}(h:ixN n i=some j):seqIndex? i n=some j/\j<n/\-(n:Int)<=i/\i<n:=by
 unfold ixN at h
 by_cases h0:0<=i
 .rw[NR h0]at h
  by_cases h1:i<n
  .rw[NR h1]at h;have e:i.toNat=j:=NV h;exact⟨by rw[seqIndex_of h0 h1,e],by omega,by omega,h1⟩
  .rw[NQ h1]at h;cases h
 .rw[NQ h0]at h
  by_cases h1: -(n:Int)<=i
  .rw[NR h1]at h;have e:(i+n).toNat=j:=NV h;exact⟨by rw[Rw (by omega) h1,e],by omega,h1,by omega⟩
  .rw[NQ h1]at h;cases h
theorem qU{α:Type}{xs:List α}{i:Int}{v:α}(h:jn xs i=some v):∃j,seqIndex? i xs.length=some j/\xs[j]? =some v/\j<xs.length/\-(xs.length:Int)<=i/\i<xs.length:=by
 unfold jn at h;cases e:ixN xs.length i with
 |none=>rw[e]at h;cases h
 |some j=>
  rw[e]at h;obtain⟨h1,h2,h3,h4⟩:=wH e;exact⟨j,h1,h,h2,h3,h4⟩
theorem bw{α:Type}{xs:List α}{j:Nat}{v:α}(h:xs[j]? =some v):jn xs (j:Int)=some v:=by
 have hj:j<xs.length:=(Sd.mp h).1;have e:ixN xs.length (j:Int)=some j:=by unfold ixN;rw[NR (by omega),NR (by omega)];simp
 unfold jn;rw[e];exact h
def qV(b:Ol):Prop:= ∀o i,subscripted b false o i=operate [o,i] (getItem o i)
def xj(X:Cx)(r:R2):Prop:=
 ∀(value slice:Ol)(gV:NZ)(s:N3)(σ:St)(H:Hp)(x y:V)(v u:VA)(Q:VK),aK X gV σ H s->aQ x v->aQ y u->r x y H Q->
  subscripted slice false v u=operate [v,u] (getItem v u)->N8 (Od X.prog X.w) X.A (subscriptTail value slice v u) (EP X gV σ Q) X.xe s
def qX(X:Cx)(id:String)(r:V->List V->Hp->VK->Prop):Prop:=
 ∀(gV:NZ)(s:N3)(σ:St)(H:Hp)(x:V)(xs:List V)(v:VA)(us:List VA)(Q:VK),aK X gV σ H s->aQ x v->aX xs us->r x xs H Q->
  N8 (Od X.prog X.w) X.A (call (.builtin id) (v::us)) (EP X gV σ Q) X.xe s
section
variable{X:Cx}{a b:Ol}{ta tb:TE}{pos:Qa}
theorem xj.or{r r':R2}(h:xj X r)(h':xj X r'):xj X (λx y H Q=>r x y H Q\/r' x y H Q):=by
 intro value slice gV s σ H x y v u Q I rx ry q hs
 rcases q with q|q
 .exact h value slice gV s σ H x y v u Q I rx ry q hs
 .exact h' value slice gV s σ H x y v u Q I rx ry q hs
theorem LD{r:R2}(hr:xj X r)(ha:PE X a ta)(hb:PE X b tb)(hs:qV b):PE X (.Subscript a b pos) (Nl r ta tb):=by intro gV s σ H Q I h;exact Subscript_ (Ja ha hb I h λv u s2 x y H2 I2 rx ry q=>hr a b gV s2 σ H2 x y v u Q I2 rx ry q (hs _ _))
def LA(K:Frag):R2:=λx y H Q=>∃p xs i v,x=.ref p/\y=.int i/\aN K H p xs/\jn xs i=some v/\Q v H
def Ly(K:Frag):R2:=λx y H Q=>∃p xs i v,x=.ref p/\y=.int i/\cJ K H p xs/\jn xs i=some v/\Q v H
def Lz:R2:=λx y H Q=>∃z i c,x=.str z/\y=.int i/\z.length<=v1/\jn z.cps.toList i=some c/\Q (.str ⟨#[c]⟩) H
theorem CH:xj X (LA X.K):=by
 intro value slice gV s σ H x y v u Q I rx ry h hs;obtain⟨p,xs,i,z,rfl,rfl,hq,he,q⟩:=h;cases rx;obtain⟨t,rfl⟩:=ry;obtain⟨its,r,pl,hz⟩:=I.list hq;obtain⟨j,h1,h2,h3,h4,h5⟩:=qU he;obtain⟨w,ew,rw'⟩:=r.get h2;have hl:=r.length;have hn:=kL;have fin:EP X gV σ Q w s:=⟨z,H,I,rw',q⟩
 by_cases h0:0<=i
 .have hj:i.toNat=j:=by rw[seqIndex_of h0 h5]at h1;exact NV h1
  exact item_listR pl.isList h0 (by omega) (by rw[hj];simpa using ew) fin hs
 .have hj:(i+(its.toArray.size:Int)).toNat=j:=by rw[Rw (by omega) h4]at h1;rw[RZ,<-hl];exact NV h1
  exact QS (x:=w) pl.isList.typeIs slot_list_getitem.lookup
   (wpAny_getItem_list_neg (Q:=λr s'=>r=w/\EP X gV σ Q r s') pl.isList (by omega) (by rw[RZ]<;>omega) (by omega) (by rw[hj];simpa using ew) ⟨rfl,fin⟩) hs
theorem Iy:xj X (Ly X.K):=by
 intro value slice gV s σ H x y v u Q I rx ry h hs;obtain⟨p,xs,i,z,rfl,rfl,hq,he,q⟩:=h;cases rx;obtain⟨t,rfl⟩:=ry;obtain⟨its,r,pl,hz⟩:=I.tuple hq;obtain⟨j,h1,h2,h3,h4,h5⟩:=qU he;obtain⟨w,ew,rw'⟩:=r.get h2;have hl:=r.length;have hn:=kL;have fin:EP X gV σ Q w s:=⟨z,H,I,rw',q⟩;exact QS (x:=w) pl.typeIs slot_tuple_getitem.lookup
  (getItem_tuple (j:=j) (Q:=λr s'=>r=w/\EP X gV σ Q r s') pl (by omega) (by omega) (by rw[RZ,<-hl];exact h1) (by simpa using ew) ⟨rfl,fin⟩) hs
theorem Iz:xj X Lz:=by
 intro value slice gV s σ H x y v u Q I rx ry h hs;obtain⟨z,i,c,rfl,rfl,hz,he,q⟩:=h;obtain⟨t,rfl⟩:=rx;obtain⟨t',rfl⟩:=ry;obtain⟨j,h1,h2,h3,h4,h5⟩:=qU he;have hl:z.cps.toList.length=z.length:=by simp[Str.length]
 rw[hl]at h1 h4 h5;have hn:=kL;exact tail_any (Qb s z t) slot_str_getitem.lookup (getItem_str (c:=c) (by
  have e1:decide (i< -(2 ^ 63:Int))=false:=NP (by omega);have e2:decide (i≥2 ^ 63)=false:=NP (by omega);rw[e1,e2,UK]) (by rw[h1];simpa using h2) ⟨.str ⟨#[c]⟩,H,I.tok _,⟨_,rfl⟩,q⟩) hs
def rIx(K:Frag):R2:=λx y H Q=>LA K x y H Q\/Ly K x y H Q\/Lz x y H Q
theorem IA:xj X (rIx X.K):=CH.or (Iy.or Iz)
theorem u9(its:List VA)(n j:Nat)(u:VA):OU (·.setIfInBounds j u) {cls:=.type "list",data:=.seq its.toArray n}={cls:=.type "list",data:=.seq (its.set j u).toArray n}:=by simp[OU]
theorem aK.lst{gV:NZ}{σ:St}{H:Hp}{s:N3}{p:VB}{xs:List V}(I:aK X gV σ H s)(h:H p=some (.lst xs)):∃(its:List VA)(n:Nat),aX xs its/\s.heap.get? p=some {cls:=.type "list",data:=.seq its.toArray n}/\xs.length<=v1:=by obtain⟨z,its,n,r,e⟩:=I.hok p _ h;exact⟨its,n,r,e,z⟩
theorem aK.lstUpd{gV:NZ}{σ:St}{H:Hp}{s:N3}{p:VB}{xs ys:List V}{its its':List VA}{n n':Nat}{f:Obj->Obj}(I:aK X gV σ H s)(h:H p=some (.lst xs))(ho:s.heap.get? p=some {cls:=.type "list",data:=.seq its.toArray n})(hf:f {cls:=.type "list",data:=.seq its.toArray n}={cls:=.type "list",data:=.seq its'.toArray n'})(r:aX ys its')(hz:ys.length<=v1)(t:Nat):aK X gV σ (upd H p (.lst ys)) {s with heap:=s.heap.update p f,toks:=t}:=by
 have e:(s.heap.update p f).get? p=some {cls:=.type "list",data:=.seq its'.toArray n'}:=by rw[Pa f ho (by rw[hf]<;>rfl),hf]
 refine I.write (x:=p) (e:=p) (by rw[h];trivial) (.inl rfl) (λb u hb q=>(O0 _ _ (Ne.symm hb)).trans q) ⟨_,e⟩ ?_;exact⟨hz,its',n',r,e⟩
def GF:V->V->V->Hp->(Hp->Prop)->Prop:=λo i v H Q=>∃p xs k j,o=.ref p/\i=.int k/\H p=some (.lst xs)/\ixN xs.length k=some j/\Q (upd H p (.lst (xs.set j v)))
theorem zH:MB X GF:=by
 intro gV s σ H o i v ov iv u Q I ro ri rv h;obtain⟨p,xs,k,j,rfl,rfl,hp,hj,q⟩:=h;cases ro;obtain⟨t,rfl⟩:=ri;obtain⟨its,n,r,ho,hz⟩:=I.lst hp;obtain⟨h1,h2,h3,h4⟩:=wH hj;have hl:=r.length;have hn:=kL;have I':aK X gV σ (upd H p (.lst (xs.set j v))) {s with heap:=s.heap.update p (OU (·.setIfInBounds j u))}:=
  I.lstUpd hp ho (u9 its n j u) (r.set rv j) (by rw[Sy];exact hz) s.toks
 by_cases h0:0<=k
 .have hk:k.toNat=j:=by rw[seqIndex_of h0 h4]at h1;exact NV h1
  exact PySem.W.ki_setAt ho h0 (by omega) (by rw[RZ,<-hl];exact h4) (by rw[hk];exact⟨_,I',q⟩)
 .have hk:(k+(its.toArray.size:Int)).toNat=j:=by rw[Rw (by omega) h3]at h1;rw[RZ,<-hl];exact NV h1
  exact PySem.W.ki_setBack ho (by omega) (by rw[RZ,<-hl];exact h3) (by omega) (by rw[hk];exact⟨_,I',q⟩)
theorem pc(lo hi:Option Int)(n:Nat):(Pn lo hi none n).1=((HT.sIx n 0 lo:Nat):Int)/\(Pn lo hi none n).2.1=((HT.sIx n n hi:Nat):Int)/\(Pn lo hi none n).2.2=1:=by
 refine⟨?_,?_,rfl⟩
 .cases lo with
  |none=>simp[Pn,HT.sIx]
  |some i=>
   simp only[Pn,HT.sIx,U2,show(1:Int) > 0 by decide,if_true]
   by_cases h:i<0
   .simp only[h,if_true]<;>omega
   .simp only[h,if_false]<;>omega
 .cases hi with
  |none=>simp[Pn,HT.sIx]
  |some i=>
   simp only[Pn,HT.sIx,U2,show(1:Int) > 0 by decide,if_true]
   by_cases h:i<0
   .simp only[h,if_true]<;>omega
   .simp only[h,if_false]<;>omega
theorem nu(its:List VA)(lo hi:Option Int):slicePick its.toArray lo hi none=((its.drop (HT.sIx its.length 0 lo)).take (HT.sIx its.length its.length hi - HT.sIx its.length 0 lo)).toArray:=by obtain⟨h1,h2,h3⟩:=pc lo hi its.toArray.size;unfold slicePick;rw[h1,h2,h3];simp only[sliceRange_one,pick_run,RZ]<;>rfl
def Nt(K:Frag):V->Option Int->Option Int->Hp->VK->Prop:=λx lo hi H Q=>∃a xs,x=.ref a/\aN K H a xs/\∀p,H p=none->Q (.ref p) (upd H p (.lst (fu xs lo hi)))
theorem BZ:y0 X (Nt X.K):=by intro gV s σ H x v vl vu lo hi sl Q I rx hs pl pu h;obtain⟨a,xs,rfl,hx,q⟩:=h;cases rx;obtain⟨its,r,ht,hz⟩:=I.list hx;have hlen:=r.length;refine⟨"list",_,slot_list_getitem.lookup,ht.isList.typeIs,?_⟩;refine wpAny_getItem_list_slice ht.isList hs pl pu .none (by simp) ?_ (by rw[RZ]<;>omega);rw[nu,<-hlen];refine⟨.ref s.heap.objs.size,_,I.laid (t':=s.toks) (o:=.lst (fu xs lo hi)) (λb ob q=>N1 _ q) (TX _) ?_,rfl,q _ (I.hok.fresh (TX _))⟩;exact⟨T0 (lg xs lo hi) hz,_,0,(r.drop (HT.sIx xs.length 0 lo)).take (HT.sIx xs.length xs.length hi - HT.sIx xs.length 0 lo),N7 _ rfl⟩
def flatV:V->Bool
 | .non=>true
 | .bl _=>true
 | .int _=>true
 | .str _=>true
 |_=>false
def eqV:V->V->Bool
 | .non,.non=>true
 | .bl a,.bl b=>a == b
 | .bl a,.int b=>(if a then 1 else 0) == b
 | .int a,.bl b=>a == (if b then 1 else 0)
 | .int a,.int b=>a == b
 | .str a,.str b=>a == b
 |_,_=>false
theorem Bb{A:Oi}{s:N3}{y x:V}{u v:VA}(ry:aQ y u)(rx:aQ x v)(fy:flatV y=true)(fx:flatV x=true):Rs A s u v (eqV y x):=by
 cases y with
 |non=>
  cases ry;cases x with
  |non=>cases rx;exact SeqAt.EqAt.same _
  |bl b=>cases rx;exact SeqAt.EqAt.none_bool b
  |int b=>obtain⟨t,rfl⟩:=rx;exact SeqAt.EqAt.none_int b t
  |str b=>obtain⟨t,rfl⟩:=rx;exact SeqAt.EqAt.none_str b t
  |_=>exact NU (show false=true from fx) UC
 |bl a=>
  cases ry;cases x with
  |non=>cases rx;exact SeqAt.EqAt.bool_none a
  |bl b=>cases rx;exact SeqAt.EqAt.bool_bool a b
  |int b=>obtain⟨t,rfl⟩:=rx;exact SeqAt.EqAt.bool_int a b t
  |str b=>obtain⟨t,rfl⟩:=rx;exact SeqAt.EqAt.bool_str a b t
  |_=>exact NU (show false=true from fx) UC
 |int a=>
  obtain⟨t',rfl⟩:=ry;cases x with
  |non=>cases rx;exact SeqAt.EqAt.int_none a t'
  |bl b=>cases rx;exact SeqAt.EqAt.int_bool a t' b
  |int b=>obtain⟨t,rfl⟩:=rx;exact SeqAt.EqAt.int_int a t' b t
  |str b=>obtain⟨t,rfl⟩:=rx;exact SeqAt.EqAt.int_str a t' b t
  |_=>exact NU (show false=true from fx) UC
 |str a=>
  obtain⟨t',rfl⟩:=ry;cases x with
  |non=>cases rx;exact SeqAt.EqAt.str_none a t'
  |bl b=>cases rx;exact SeqAt.EqAt.str_bool a t' b
  |int b=>obtain⟨t,rfl⟩:=rx;exact SeqAt.EqAt.str_int a t' b t
  |str b=>obtain⟨t,rfl⟩:=rx;exact SeqAt.EqAt.str_str a t' b t
  |_=>exact NU (show false=true from fx) UC
 |_=>exact NU (show false=true from fy) UC
def tj(x:V)(u:VA):Bool:=match u with
 | .none=>eqV .non x
 | .bool b=>eqV (.bl b) x
 | .int i _=>eqV (.int i) x
 | .str z _=>eqV (.str z) x
 |_=>false
theorem vx{x y:V}{u:VA}(r:aQ y u)(f:flatV y=true):tj x u=eqV y x:=by
 cases y with
 |non=>cases r;rfl
 |bl b=>cases r;rfl
 |int i=>obtain⟨t,rfl⟩:=r;rfl
 |str z=>obtain⟨t,rfl⟩:=r;rfl
 |_=>exact NU (show false=true from f) UC
theorem j7{x:V}:∀{xs:List V}{us:List VA},aX xs us->xs.all flatV=true->us.any (tj x)=xs.any λy=>eqV y x
 |_,_,.nil,_=>rfl
 |y::xs,u::us,.cons r t,f=>by rw[So,UD]at f;rw[SQ,SQ,vx r f.1,j7 t f.2]
theorem gX{A:Oi}{s:N3}{x:V}{v:VA}(rx:aQ x v)(fx:flatV x=true):∀{xs:List V}{us:List VA},aX xs us->xs.all flatV=true->∀u∈us,Rs A s u v (tj x u)
 |_,_,.nil,_=>λu hu=>by cases hu
 |y::xs,u::us,.cons r t,f=>λu' hu=>by
  rw[So,UD]at f
  rcases RV.mp hu with rfl|hu
  .rw[vx r f.1];exact Bb r rx f.1 fx
  .exact gX rx fx t f.2 u' hu
def CK(x:V)(xs:List V):Bool:=xs.any λy=>eqV y x
def wo(K:Frag)(neg:Bool):R2:=λx y H Q=>∃p xs,y=.ref p/\(aN K H p xs\/cJ K H p xs)/\flatV x=true/\xs.all flatV=true/\Q (.bl (if neg then !CK x xs else CK x xs)) H
theorem xZ:jb X (OC .In) (wo X.K false):=by
 intro gV s σ H x y v u Q I rx ry h;obtain⟨p,xs,rfl,hq,fx,fs,q⟩:=h;cases ry
 rcases hq with hq|hq
 .obtain⟨its,r,pl,hz⟩:=I.list hq;refine SeqAt.in_listAt (tj x) pl.isList (λw hw=>gX rx fx r fs w (by simpa using hw)) ⟨.bl _,H,I,rfl,?_⟩;rw[show its.toArray.any (tj x)=its.any (tj x) by simp,j7 r fs];exact q
 .obtain⟨its,r,pl,hz⟩:=I.tuple hq;refine SeqAt.in_tupleAt (tj x) pl (λw hw=>gX rx fx r fs w (by simpa using hw)) ⟨.bl _,H,I,rfl,?_⟩;rw[show its.toArray.any (tj x)=its.any (tj x) by simp,j7 r fs];exact q
theorem qb:jb X (OC .NotIn) (wo X.K true):=by
 intro gV s σ H x y v u Q I rx ry h;obtain⟨p,xs,rfl,hq,fx,fs,q⟩:=h;cases ry
 rcases hq with hq|hq
 .obtain⟨its,r,pl,hz⟩:=I.list hq;refine SeqAt.notIn_listAt (tj x) pl.isList (λw hw=>gX rx fx r fs w (by simpa using hw)) ⟨.bl _,H,I,rfl,?_⟩;rw[show its.toArray.any (tj x)=its.any (tj x) by simp,j7 r fs];exact q
 .obtain⟨its,r,pl,hz⟩:=I.tuple hq;refine SeqAt.notIn_tupleAt (tj x) pl (λw hw=>gX rx fx r fs w (by simpa using hw)) ⟨.bl _,H,I,rfl,?_⟩;rw[show its.toArray.any (tj x)=its.any (tj x) by simp,j7 r fs];exact q
theorem qP:bf X (.builtin "len") (λxs H Q=>∃p ys,xs=[.ref p]/\(aN X.K H p ys\/cJ X.K H p ys)/\Q (.int ys.length) H):=by
 intro gV s σ H xs us Q I r h;obtain⟨p,ys,rfl,hq,q⟩:=h;obtain⟨u,rfl,rx⟩:=di r;cases rx;have hn:=kL
 rcases hq with hq|hq
 .obtain⟨its,r',pl,hz⟩:=I.list hq;have hlen:=r'.length;exact Calls.call_len_list pl.isList (by simp only[RZ]<;>omega) ⟨.int ys.length,H,I.tok _,⟨s.toks+1,by rw[RZ,hlen]⟩,q⟩
 .obtain⟨its,r',pl,hz⟩:=I.tuple hq;have hlen:=r'.length;exact len_tuple pl (by simp only[RZ]<;>omega) ⟨.int ys.length,H,I.tok _,⟨s.toks+1,by rw[RZ,hlen]⟩,q⟩
theorem qO:bf X (.builtin "len") (λxs H Q=>∃z,xs=[.str z]/\z.length<=v1/\Q (.int z.length) H):=by intro gV s σ H xs us Q I r h;obtain⟨z,rfl,hz,q⟩:=h;obtain⟨u,rfl,t,rfl⟩:=di r;have hn:=kL;exact len_str (by omega) ⟨.int z.length,H,I.tok _,⟨_,rfl⟩,q⟩
theorem bf.or{f:VA}{r r':List V->Hp->VK->Prop}(h:bf X f r)(h':bf X f r'):bf X f (λxs H Q=>r xs H Q\/r' xs H Q):=by
 intro gV s σ H xs us Q I rs q
 rcases q with q|q
 .exact h gV s σ H xs us Q I rs q
 .exact h' gV s σ H xs us Q I rs q
theorem qN:bf X (.type "list") (λxs H Q=>∃p ys,xs=[.ref p]/\(aN X.K H p ys\/cJ X.K H p ys)/\∀l,H l=none->Q (.ref l) (upd H l (.lst ys))):=by
 intro gV s σ H xs us Q I r h;obtain⟨p,ys,rfl,hq,q⟩:=h;obtain⟨u,rfl,rx⟩:=di r;cases rx;have fin:∀(its:List VA),aX ys its->ys.length<=v1->∀(h':Oe)(c':Nat),(∀b o',s.heap.get? b=some o'->h'.get? b=some o')->
   h'.get? s.heap.objs.size=some {cls:=.type "list",dict:=none,data:=.seq its.toArray c',slots:= #[]}->EP X gV σ Q (.ref s.heap.objs.size) {s with heap:=h'}:=λits r' hz h' c' kp e=>
  ⟨.ref s.heap.objs.size,_,I.laid (t':=s.toks) kp (TX _) (show bD X.prog X.w _ h' _ (.lst ys)from⟨hz,its,c',r',e⟩),rfl,q _ (I.hok.fresh (TX _))⟩
 rcases hq with hq|hq
 .obtain⟨its,r',pl,hz⟩:=I.list hq;have hlen:=r'.length;obtain⟨o,ho,hc,n,hd⟩:=pl.isList;exact call_list_seq p (.inl rfl) ho hc hd (λh' c' kp e=>fin its r' hz h' c' kp e) (by simp only[RZ]<;>omega)
 .obtain⟨its,r',pl,hz⟩:=I.tuple hq;have hlen:=r'.length;obtain⟨o,ho,hc,n,hd⟩:=pl;exact call_list_seq p (.inr rfl) ho hc hd (λh' c' kp e=>fin its r' hz h' c' kp e) (by simp only[RZ]<;>omega)
def Gq(K:Frag)(T:String)(x:V)(H:Hp):Prop:=match x with
 | .str _=>T="str"
 | .int _=>T="int"
 | .ref p=>(T="list"/\∃xs,aN K H p xs)\/(T="tuple"/\∃o,K.lookup p=some o/\o.cls=.type "tuple"/\o.dict=none)\/
   (T="dict"/\((∃kvs,H p=some (.dK kvs))\/∃kvs,H p=some (.dT kvs)))\/(T="set"/\∃S n,H p=some (.set S n))
 |_=>False
theorem jq{gV:NZ}{σ:St}{H:Hp}{s:N3}{T:String}{x:V}{v:VA}(I:aK X gV σ H s)(r:aQ x v)(ty:Gq X.K T x H):s.TypeIs v T/\∀a,v=.ref a->∃ob,s.heap.get? a=some ob/\ob.dict=none:=by
 cases x with
 |str z=>
  obtain⟨t,rfl⟩:=r;cases(show T="str"from ty);exact⟨Qb s z t,λ_ e=>nomatch e⟩
 |int i=>
  obtain⟨t,rfl⟩:=r;cases(show T="int"from ty);exact⟨typeIs_int s i t,λ_ e=>nomatch e⟩
 |ref p=>
  cases r
  rcases ty with⟨rfl,xs,hq⟩|⟨rfl,o,hk,hc,hd⟩|⟨rfl,hk⟩|⟨rfl,S,n,hk⟩
  .obtain⟨its,_,pl,_⟩:=I.list hq;refine⟨pl.isList.typeIs,λa e=>?_⟩;cases e;obtain⟨o,n,e,c,hd,_⟩:=pl;exact⟨o,e,hd⟩
  .refine⟨⟨o,I.kIn p o hk,hc⟩,λa e=>?_⟩;cases e;exact⟨o,I.kIn _ o hk,hd⟩
  .have z:∃o,s.heap.get? p=some o/\o.ExactDict:=by
    rcases hk with⟨kvs,hk⟩|⟨kvs,hk⟩
    .obtain⟨_,_,_,_,o,_,_,e,ex,_⟩:=I.hok p _ hk;exact⟨o,e,ex⟩
    .obtain⟨_,_,_,_,o,_,_,e,ex,_⟩:=I.hok p _ hk;exact⟨o,e,ex⟩
   obtain⟨o,e,ex⟩:=z;refine⟨⟨o,e,ex.1⟩,λa e2=>?_⟩;cases e2;exact⟨o,e,ex.2.1⟩
  .obtain⟨o,_,_,_,e,ex,_⟩:=I.hok p _ hk;refine⟨⟨o,e,ex.1⟩,λa e2=>?_⟩;cases e2;exact⟨o,e,ex.2.1⟩
 |_=>exact False.elim ty
def Nm(K:Frag)(T:String)(r:V->List V->Hp->VK->Prop)(to:TE)(t:TA):TE:=λσ H Q=>to σ H λx H1=>Gq K T x H1/\t σ H1 λxs H2=>r x xs H2 Q
variable{o e:Ol}{es:List Ol}{to:TE}{t:TA}{name:Str}{apos cpos:Qa}{T id:String}{r:V->List V->Hp->VK->Prop}
theorem LF(pa:PlainAttrs T)(slot:Slot T name id)(hty:typeOf (.builtin id)=pure (.type "method_descriptor"))(hm:qX X id r)(ho:PE X o to)(ha:PA X (e::es) t)(hbase:OE o name X.env (Ow o X.env)=Ow o X.env:=by rfl)(hfew:((Ot cpos (N6 (e::es) X.env)).all (λx=> !x.1)&&(P4 cpos (Pe [] X.env)).all (λx=>x.1.isSome)
   &&decide ((e::es).length+([]:List Pg).length+(if([]:List Pg).isEmpty then 0 else 1)<30))=true:=by rfl) (hline:(apos.endLine == cpos.line)=true:=by rfl) (hs:N6 (e::es) X.env=(false,Ow e X.env)::N6 es X.env:=by rfl) (hplain:(Ot cpos (N6 es X.env)).any (·.1)=false:=by rfl):PE X (.Call (.Attribute o name apos) (e::es) [] cpos) (Nm X.K T r to t):=by
 intro gV s σ H Q I h;refine OQ hbase hfew hline rfl (bM (ho gV s σ H _ I h) λv s1 ⟨x,H1,I1,r1,ty,q1⟩=>?_);obtain⟨h1,h2⟩:=jq I1 r1 ty;refine⟨T,id,pa,slot,hty,h1,h2,?_⟩;have hA:=ha cpos gV s1 σ H1 _ I1 q1;rw[hs]at hA ⊢;refine OJ (by show(false||(Ot cpos (N6 es X.env)).any (·.1))=false;rw[hplain]<;>rfl) (OW ?_)
 exact bM hA λus s2 ⟨vs,H2,I2,r2,q2⟩=>hm gV s2 σ H2 x vs v us Q I2 r1 r2 q2
end
def NM(X:Cx)(id:String)(r:V->List V->Hp->VK->Prop):Prop:=
 ∀(gV:NZ)(s:N3)(σ:St)(H:Hp)(x:V)(xs:List V)(v:VA)(us:List VA)(Q:VK),aK X gV σ H s->aQ x v->aX xs us->r x xs H Q->
  N8 (Od X.prog X.w) X.A (call (.builtin id) (v::us)) (EP X gV σ Q) X.xe s
theorem aX.one:∀{x:V}{us:List VA},aX [x] us->∃u,us=[u]/\aQ x u
 |_,_,.cons r .nil=>⟨_,rfl,r⟩
section
variable{X:Cx}{gV:NZ}{σ:St}{H:Hp}{s:N3}{l b:VB}{xs ys zs:List V}
theorem aK.lset{its its':List VA}{n:Nat}{f:Array VA->Array VA}{t':Nat}(I:aK X gV σ H s)(hH:H l=some (.lst xs))(e:s.heap.get? l=some {cls:=.type "list",data:=.seq its.toArray n})(hf:f its.toArray=its'.toArray)(hv:aX ys its')(hz:ys.length<=v1):aK X gV σ (upd H l (.lst ys)) {s with heap:=s.heap.update l (OU f),toks:=t'}:=by have q:=PySem.IsL.update e f;rw[hf]at q;refine I.write (x:=l) (e:=l) (by rw[hH];exact trivial) (.inl rfl) (λb' u hb hu=>(O0 s.heap (OU f) (Ne.symm hb)).trans hu) ⟨_,q⟩ ?_;exact⟨hz,its',_,hv,q⟩
theorem aK.lnew{its:List VA}{t':Nat}(I:aK X gV σ H s)(hv:aX ys its)(hz:ys.length<=v1):aK X gV σ (upd H s.heap.objs.size (.lst ys)) {s with heap:=s.heap.push {cls:=.type "list",data:=.seq its.toArray},toks:=t'}:=
 I.laid (λ_ _ q=>N1 _ q) (TX _) ⟨hz,its,0,hv,N7 _ rfl⟩
theorem aK.fresh(I:aK X gV σ H s):H s.heap.objs.size=none:=I.hok.fresh (TX _)
theorem aK.lstM(I:aK X gV σ H s)(hH:H l=some (.lst xs)):xs.length<=v1/\∃(its:List VA)(n:Nat),aX xs its/\xs.length=its.length/\s.heap.get? l=some {cls:=.type "list",data:=.seq its.toArray n}:=by obtain⟨z,its,n,r,e⟩:=I.hok l _ hH;exact⟨z,its,n,r,r.length,e⟩
theorem mG{n:Nat}(h:n<=v1):PM n=false:=by unfold PM;exact NP (by omega)
end
section
variable{X:Cx}
def Cb:V->List V->Hp->VK->Prop:=λx vs H Q=>∃l xs y,x=.ref l/\vs=[y]/\H l=some (.lst xs)/\xs.length<v1/\Q .non (upd H l (.lst (xs++[y])))
theorem yf:NM X "list.append" Cb:=by intro gV s σ H x vs v us Q I rx rv h;obtain⟨l,xs,y,rfl,rfl,hH,hz,q⟩:=h;cases rx;obtain⟨u,rfl,ru⟩:=rv.one;obtain⟨z,its,n,r,hl,e⟩:=I.lstM hH;refine QW F.slot_list_append ⟨_,e,rfl⟩ F.entry_list_append (F.args_list_append_2 _ _) (PySem.list_append l its.toArray n u (by rw[RZ];omega)) ⟨e,?_⟩;refine⟨.non,_,I.lset (its':=its++[u]) hH e (by simp) (r.append (.cons ru .nil)) ?_,rfl,q⟩;rw[R9,Tg];omega
def lI:V->List V->Hp->VK->Prop:=λx vs H Q=>∃l b xs zs,x=.ref l/\vs=[.ref b]/\H l=some (.lst xs)/\H b=some (.lst zs)/\xs.length+zs.length<=v1/\Q .non (upd H l (.lst (xs++zs)))
theorem yd:NM X "list.extend" lI:=by
 intro gV s σ H x vs v us Q I rx rv h;obtain⟨l,b,xs,zs,rfl,rfl,hH,hB,hz,q⟩:=h;cases rx;obtain⟨u,rfl,ru⟩:=rv.one;cases ru;obtain⟨z,its,n,r,hl,e⟩:=I.lstM hH;obtain⟨z2,its2,n2,r2,hl2,e2⟩:=I.lstM hB;have hsz:its.toArray.size+its2.toArray.size<=v1:=by rw[RZ,RZ];omega
 have hlong:¬(!its.toArray.isEmpty&&PM (its.toArray.size+its2.toArray.size))=true:=by rw[mG hsz,UL];exact UC
 refine QW F.slot_list_extend ⟨_,e,rfl⟩ F.entry_list_extend (F.args_list_extend_2 _ _)
  (AutoSeq1.list_extend_list_list_0 l its.toArray n b its2.toArray n2 hlong (by rw[RZ];omega) (by omega)) ⟨e,e2,?_⟩
 refine⟨.non,_,I.lset (its':=its++its2) hH e (by simp) (r.append r2) ?_,rfl,q⟩;rw[R9];omega
def HK:R2:=λx y H Q=>∃l b xs zs,x=.ref l/\y=.ref b/\H l=some (.lst xs)/\H b=some (.lst zs)/\xs.length+zs.length<=v1/\∀p,H p=none->Q (.ref p) (upd H p (.lst (xs++zs)))
theorem Ic:jb X (P3 .Add) HK:=by
 intro gV s σ H x y v u Q I rx ry h;obtain⟨l,b,xs,zs,rfl,rfl,hH,hB,hz,q⟩:=h;cases rx;cases ry;obtain⟨z,its,n,r,hl,e⟩:=I.lstM hH;obtain⟨z2,its2,n2,r2,hl2,e2⟩:=I.lstM hB;refine PySem.P.add_list e e2 ?_ (by rw[RZ,RZ];omega);have ea:its.toArray++its2.toArray=(its++its2).toArray:=by simp
 rw[ea];exact⟨.ref _,_,I.lnew (t':=s.toks) (r.append r2) (by rw[R9];omega),rfl,q _ I.fresh⟩
end
section
variable{prog:N5}{w:N9}{A:Oi}{E:NY}{s:N3}
theorem vK{a c n:Nat}(hac:a<=c)(hc:c<=n):Pn (some (a:Int)) (some (c:Int)) none n=((a:Int),(c:Int),1):=by
 simp only[Pn,U2];have h1:¬((a:Int)<0):=by omega
 have h2:¬((c:Int)<0):=by omega
 simp only[h1,h2,if_false,show(1:Int) > 0 by decide,if_true];congr 1
 .omega
 .congr 1;omega
set_option maxRecDepth 100000 in
theorem BF{l b sl:VB}{items new:Array VA}{n n2:Nat}{vl vu:VA}{a c:Nat}{Q:Unit->N3->Prop}(e:s.heap.get? l=some {cls:=.type "list",data:=.seq items n})(e2:s.heap.get? b=some {cls:=.type "list",data:=.seq new n2})(hne:l≠b)(hs:s.heap.IsSliceOf sl vl vu .none)(pl:RR vl (some (a:Int)))(pu:RR vu (some (c:Int)))(hac:a<=c)(hc:c<=items.size)(hsz:items.size+new.size<=v1)(h:Q () {s with heap:=s.heap.update l (OU λxs=>xs.extract 0 a++new++xs.extract c xs.size)}):N8 (Od prog w) A (setItem (.ref l) (.ref sl) (.ref b)) Q E s:=by
 have hl:s.heap.IsList l items:=PySem.IsL.isList e;have hb:s.heap.IsList b new:=PySem.IsL.isList e2;obtain⟨os,hos,hcs,hds⟩:=id hs;have hTs:s.TypeIs (.ref sl) "slice":=⟨os,hos,hcs⟩;have hstep:¬((rawPart none == Qh 0)=true):=UC;have hsame:ON (.ref l) (.ref b)=false:=by unfold ON;exact beq_eq_false_iff_ne.mpr hne
 have hmax:(max (a:Int) (c:Int)).toNat=c:=by omega
 have hz':((λxs:Array VA=>xs.extract 0 a++new++xs.extract c xs.size) items).size<=v1+1:=by simp only[UY,Array.size_extract];omega
 unfold setItem
 try with_reducible refine On ?_
 first|refine N0 (N2 ?_)|skip
 refine N0 (wpAny_sequenceKey hl.typeIs (by decide) ?_);refine N0 (Ov (name:=OG "__setitem__") hl.typeIs slot_list_setitem
  (Oz slot_list_setitem hl.typeIs entry_list_setitem ?_ (args_list_setitem _ _ _)))
 show N8 _ _ (Ql (.ref sl) >>= _) _ _ s;refine N0 ?_;unfold Ql;refine N0 (PN hTs slice_no_index ?_);simp only[Option.isNone_none,if_true];refine N2 ?_;show N8 _ _ (typeOf (.ref sl) >>= _) _ _ s;refine N0 (Pc hTs ?_)
 first
  |rw[NQ (by decide)]
  |refine PySem.W.KFB.if_not (by decide) ?_
 rw[listSliceParts_eq];refine N0 (N0 (OV hos hds (x:=.none) rfl (N0 (Rc .none ?_))));rw[NQ hstep];refine N0 (OV hos hds (x:=vl) rfl (N0 (Rc pl ?_)));refine N0 (OV hos hds (x:=vu) rfl (N0 (Rc pu (N2 ?_))))
 first
  |simp only[hsame,UE,if_false]
  |refine PySem.W.KFB.if_not hsame ?_
  |(dsimp only
    rw[NQ (by rw[hsame];exact UC)])
 refine N0 (m:=Qy (.ref b) "must assign iterable to extended slice") ?_;unfold Qy;refine N0 (Pc hb.typeIs ?_)
 first
  |refine PySem.W.KFB.if_so (by decide) ?_
  |rw[NR (by decide)]
  |simp only[beq_self_eq_true,Bool.true_or,if_true]
 unfold Builtin.List.listItems;refine N0 (OD e2 rfl (N2 ?_));refine N0 (N0 (OD e rfl (N2 ?_)));refine N0 (Rb ((sliceIndices_raw (some (a:Int)) (some (c:Int)) none items.size (by simp)).trans (NW (pure:Int×Int×Int->RS (Int×Int×Int)) (vK hac hc))) ?_);show N8 _ _ (if((1:Int) == 1)=true then _ else _) _ _ s;rw[NR (by decide)];refine N0 (QP ?_)
 first
  |simp only[mG hsz,UE,if_false]
  |refine PySem.W.KFB.if_not (mG hsz) ?_
 first|refine N0 (N2 ?_)|skip
 show N8 _ _ (updateSeq l (λxs=>xs.extract 0 ((a:Int)).toNat++new++xs.extract (max (a:Int) (c:Int)).toNat xs.size) >>= _) _ _ s;rw[hmax,Um];refine N0 (QY (hz:=T0 (T7 _ _) hsz) (_hz':=hz') e rfl ?_);refine N0 (wpAny_letGo ?_)
 first
  |exact N0 (N2 (N2 ⟨.none,rfl,N2 h⟩))
  |exact N2 ⟨.none,rfl,N2 h⟩
end
section
variable{κ:Type}[DecidableEq κ]
def valV(kvs:List (κ×V))(k:κ):Option V:=(kvs.find? λkv=>decide (kv.1=k)).map (·.2)
def pV(kvs:List (κ×V))(k:κ)(v:V):List (κ×V):=
 if(kvs.any λkv=>decide (kv.1=k))=true then kvs.map (λkv=>if kv.1=k then(kv.1,v)else kv)else kvs++[(k,v)]
theorem zd{p:κ×V}{r:List (κ×V)}{k:κ}(e:p.1=k):valV (p::r) k=some p.2:=by simp[valV,S5,e]
theorem zf{p:κ×V}{r:List (κ×V)}{k:κ}(e:¬p.1=k):valV (p::r) k=valV r k:=by simp[valV,S5,e]
theorem sS(kvs:List (κ×V))(k:κ)(v:V):(pV kvs k v).length<=kvs.length+1:=by
 unfold pV;split
 .rw[RT];omega
 .rw[R9,Sf,List.length_nil];omega
theorem kW.getD{o:Option V}{u:Option VA}{d:V}{d':VA}(r:kW o u)(rd:aQ d d'):aQ (o.getD d) (u.getD d'):=by
 cases o with
 |none=>cases u with
  |none=>exact rd
  |some _=>exact(show False from r).elim
 |some _=>cases u with
  |none=>exact(show False from r).elim
  |some _=>exact r
theorem KV.val{kvs:List (κ×V)}{vs:List (κ×VA)}(r:KV kvs vs)(k:κ):kW (valV kvs k) (Ru vs k):=by
 unfold KV at r
 induction r with
 |nil=>exact True.intro
 | @cons p q ps qs h t ih=>
   obtain⟨h1,h2⟩:=h
   by_cases e:p.1=k
   .have e':q.1=k:=h1.symm.trans e;have b:Ru (q::qs) k=some q.2:=by simp[Ru,S5,e']
    rw[zd e,b];exact h2
   .have e':¬q.1=k:=λz=>e (h1.trans z);have b:Ru (q::qs) k=Ru qs k:=by simp[Ru,S5,e']
    rw[zf e,b];exact ih
theorem KV.any{kvs:List (κ×V)}{vs:List (κ×VA)}(r:KV kvs vs)(k:κ):(kvs.any λkv=>decide (kv.1=k))=vs.any λkv=>decide (kv.1=k):=by
 unfold KV at r
 induction r with
 |nil=>rfl
 |cons h t ih=>rw[SQ,SQ,ih,h.1]
theorem KV.repl{kvs:List (κ×V)}{vs:List (κ×VA)}(r:KV kvs vs)(k:κ){y:V}{u:VA}(ry:aQ y u):KV (kvs.map λkv=>if kv.1=k then(kv.1,y)else kv) (vs.map λkv=>if kv.1=k then(kv.1,u)else kv):=by
 unfold KV at r ⊢
 induction r with
 |nil=>exact .nil
 | @cons p q ps qs h t ih=>
   rw[Sk,Sk];refine .cons ?_ ih;obtain⟨h1,h2⟩:=h
   by_cases e:p.1=k
   .rw[NR e,NR (h1.symm.trans e)];exact⟨h1,ry⟩
   .rw[NQ e,NQ (λz=>e (h1.trans z))];exact⟨h1,h2⟩
theorem KV.put{kvs:List (κ×V)}{vs:List (κ×VA)}(r:KV kvs vs)(k:κ){y:V}{u:VA}(ry:aQ y u):KV (pV kvs k y) (RO vs k u):=by
 unfold pV RO;rw[r.any k]
 by_cases e:(vs.any λkv=>decide (kv.1=k))=true
 .rw[NR e,NR e];exact r.repl k ry
 .rw[NQ e,NQ e];exact Paired.snoc r ⟨rfl,ry⟩
end
theorem GS{P:N5}{w:N9}{k:Key}{u:VA}(r:aQ (kV k) u):(dM P w).is k u=true:=by
 cases k with
 |inl i=>obtain⟨t,e⟩:=(show∃t,u=PH i t from r);subst e;exact sN P w i t
 |inr x=>obtain⟨t,e⟩:=(show∃t,u=Ps x t from r);subst e;exact sM P w x t
section
variable{P:N5}{w:N9}{H:Hp}{h:Oe}{a:VB}
theorem Lj{u:HO}(ok:kh P w H h)(e:Rd H a u):bD P w H h a u:=e.ok ok
theorem Mi{kvs:List (Key×V)}(ok:kh P w H h)(e:Rd H a (.dK kvs)):kvs.length<=v1/\(a == Qr)=false/\∃vs,KV kvs vs/\h.DictOf (dM P w) a vs:=
 show bD P w H h a (.dK kvs)from Lj ok e
theorem Mj{kvs:List (Key×V)}(ok:kh P w H h)(e:H a=some (.dK kvs)):kvs.length<=v1/\(a == Qr)=false/\∃vs,KV kvs vs/\h.DictOf (dM P w) a vs:=Mi ok (.inl e)
end
section
variable{X:Cx}{gV:NZ}{σ:St}{H:Hp}{s:N3}{a:VB}{y v:V}{u r:VA}{o:Option V}{A:Oi}{E:NY}
theorem aK.big(I:aK X gV σ H s):Qr<s.heap.objs.size:=by have h:Ob<s.heap.objs.size:=(I.mod.glob.keeps I.bk).lt;exact T6 (by decide) h
theorem IQ{P:N5}{w:N9}{H':Hp}{h':Oe}{kvs:List (Key×V)}{vs:List (Key×VA)}(z:kvs.length<=v1)(hd:(a == Qr)=false)(rel:KV kvs vs)(dd:h'.DictOf (dM P w) a vs):bD P w H' h' a (.dK kvs):=⟨z,hd,vs,rel,dd⟩
end
structure M1(X:Cx)(o:Ol)(m:Str)(apos:Qa)(e:Ol)(cpos:Qa):Prop where
 np:OE o m X.env (Ow o X.env)=Ow o X.env
 few:((Ot cpos (N6 [e] X.env)).all (λx=> !x.1)&&(P4 cpos (Pe [] X.env)).all (λx=>x.1.isSome)
  &&decide (([e]:List Ol).length+([]:List Pg).length+(if([]:List Pg).isEmpty then 0 else 1)<30))=true
 line:(apos.endLine == cpos.line)=true
 trees:Ot cpos (N6 [e] X.env)=[(false,Ow e X.env)]
end L2
namespace Att
open PySem PySem.W PySem.Calls PyProof.Rows
theorem ly{P:Qi}{h:Oe}:∀(ns:List Int)(vs:List VA),WellAll P h vs (ns.map WData.int)->Rf vs ns:=by
 intro ns
 induction ns with
 |nil=>
  intro vs w;rw[Tf]at w;cases w;exact .nil
 |cons n ns ih=>
  intro vs w;rw[Sk]at w;cases w with
  |cons a b=>
   cases a;exact .cons _ _ (ih _ b)
theorem xD{l:OpenLaw}{n:Nat}(hn:l.most=some n){P:Qi}{h:Oe}{args:List WData}{vals:List VA}(hpre:l.row.toRowW.claim.pre args=true)(hwl:WellAll P h vals args):∃a vs ns,vals=[Of a]/\args=[WData.list (ns.map WData.int)]/\h.get? a=some {cls:=.type "list",data:=.seq vs.toArray}/\Rf vs ns/\ns.length<=n:=by
 have hsh:WShape.hasAll [] args [.list .int]=true:=(pre_splitW hpre).1;have hc:l.pre.holds [] {args:=args}=true:=(pre_splitW hpre).2;obtain⟨d,r,rfl,h1,h2⟩:=hasAllW_cons hsh;obtain rfl:=hasAllW_nil h2;obtain⟨xs,rfl,h3⟩:=hasW_list h1;obtain⟨ns,rfl⟩:=items_int h3;have hlen:ns.length<=n:=by
  unfold OpenLaw.pre at hc;have h4:(WTm.not (.lt (.lit (.int (n:Int))) (.len (.arg 0)))).holds [] {args:=[.list (ns.map .int)]}=true:=by have h4:=(holds_andW hc).1;rw[hn]at h4;exact h4
  have h5:=condW_of h4 (w_not (w_lt w_lit (w_len_list (w_arg rfl))));rw[RT]at h5;refine Nat.le_of_not_lt λq=>?_;have q':(n:Int)<((ns.length:Nat):Int):=by omega
  first
   |(rw[C0 q']at h5;exact NU h5 (by decide))
   |(simp at h5;omega)
 cases hwl with
 |cons w1 w2=>
  cases w2;cases w1 with
  |list ho hall=>exact⟨_,_,ns,rfl,rfl,ho,ly ns _ hall,hlen⟩
theorem xQ(l:OpenLaw)(args:List WData):l.row.toRowW.claim.post args (.bool true) args=true:=
 postW_of (r:=l.row.toRowW) (X:=(true == true))
  (show WShape.has [] (.bool true) .bool=true by first|rfl|decide|simp[WShape.has,WShape.arms,WShape.armsAll])
  (show(WTm.eq .res (.lit (.bool true))).value [] {args:=args,res:=some (.bool true),after:=args}=some (.bool (true == true))from w_eq_bool (w_res rfl) w_lit) rfl
theorem attach_call{l:OpenLaw}{n:Nat}{q:N5}{loose:List Str}{XP:(NX)->Oe->Prop}{YP:N9->Oe->Prop}{d:DefRec}(hn:l.most=some n)(hdf:d.params.defaults=[])(call:∀(w:N9)(s₀ s₁:N3)(mg mb:NX)(fa:VB)(o:Obj)(pm cd doc:VA)(a:VB)(vs:List VA)(ns:List Int),
   Ground q loose [] XP w s₀ mg mb s₁.heap->YP w s₁.heap->
   s₁.heap.get? fa=some o->o.data=.func (docDef d.name d.params d.body d.scope pm cd doc)->s₁.heap.CodeRec cd d.name->mg d.name=some (.ref fa)->
   s₁.heap.get? a=some {cls:=.type "list",data:=.seq vs.toArray}->Rf vs ns->ns.length<=n->s₁.gens= #[]->
   PQ (Od l.prog w) Re (.call (.ref fa) ⟨[.ref a],[]⟩) (λr s'=>r=.ok (.ret (.bool true))/\OldK s₁.heap s'.heap/\s'.os=s₁.os/\QD s'.gens) s₁):WalkO q loose XP YP l.row.toRowW d [] (λf vs=>PySem.call f vs):=by
 intro w s₀ s₁ mg mb G Y fa o pm cd doc dV kV ho hd hcd hD hmg hg args vals as hpre hlay hrd hwl hlo;obtain rfl:dV=.none:=Dflts.none hD hdf;obtain rfl:kV=.none:=Dflts.noKw hD;obtain⟨a,vs,ns,rfl,rfl,hobj,hints,hlen⟩:=xD hn hpre hwl;refine enter_call (OZ (call w s₀ s₁ mg mb fa o pm cd doc a vs ns G Y ho (fd_plain hd) hcd hmg hobj hints hlen hg) λr s' hq=>?_);obtain⟨rfl,h2,h3,h4⟩:=hq;exact⟨.inl ⟨.bool true,.bool true,[],rfl,λ_=>rfl,.bool true,xQ l _,λ_=>⟨List.Pairwise.nil,λ_ hm=>(nomatch hm)⟩⟩,h2,h3,h4⟩
end Att
namespace L2
open PySem PySem.Spec PyProof.Rows
theorem kj:∀{vs:List VA}{ns:List Int},Rf vs ns->aX (ns.map V.int) vs
 |_,_,.nil=>.nil
 |_,_,.cons n t h=>.cons ⟨t,rfl⟩ (kj h)
def Jl(H:Hp):Prop:= ∀b,H b=none\/∃o xs,H b=some (.frz o (.lst xs))
theorem AD{P:N5}{w:N9}{K:Frag}{mg mb:NX}{CX:y6}{k:Nat}{fa a:VB}{fd:Oa}{x:Str}{sp:Sp}{s₁:N3}{vs:List VA}{ns:List Int}(KX:K.In s₁.heap)(hns:s₁.heap.Ns Ob mg)(hb:s₁.heap.Ns builtinsNs mb)(hbb:∀x:Str,x≠"__name__"->mb x=Oh x)(hlim:s₁.heap.NoLimit)(hg:s₁.gens= #[])(ha:s₁.heap.get? a=some {cls:=.type "list",data:=.seq vs.toArray})(hi:Rf vs ns)(hl:ns.length<=v1)(hr:cY k Re)(F:∀np:Oe,K.In np->np.Ns Ob mg->aY P w K mg np CX k fa fd [x] sp)(hbind:∀(s:N3)(u:VA),RF s fd ⟨[u],[]⟩ [(x,u)])(hsp:∀H:Hp,Jl H->aN K H a (ns.map V.int)->sp [.ref a] H (λv _=>v=.bl true) λ_ _ _=>False)(hCX:∀H e s',CX [] H s₁ (λ_ _ _=>False) e s'->False):PQ (Od P w) Re (.call (.ref fa) ⟨[.ref a],[]⟩) (λr s'=>r=.ok (.ret (.bool true))/\OldK s₁.heap s'.heap/\s'.os=s₁.os/\QD s'.gens) s₁:=by
 have rv:=kj hi;have lenV:=hi.length;have core:∀H:Hp,Jl H->aN K H a (ns.map V.int)->kh P w H s₁.heap->(∀b,H b≠none->b=a)->(H a≠none->K.lookup a=none)->
   PQ (Od P w) Re (.call (.ref fa) ⟨[.ref a],[]⟩) (λr s'=>r=.ok (.ret (.bool true))/\OldK s₁.heap s'.heap/\s'.os=s₁.os/\QD s'.gens) s₁:=by
  intro H hO hS hok hA hK;have base_of:∀{b:VB}{o:Obj},s₁.heap.get? b=some o->H b=none->(qA s₁.heap H).get? b=some o:=λe n=>AN e n;have noA:∀{b:VB}{o:Obj}{es:Array DictEntry}{ep:Nat},s₁.heap.get? b=some o->o.data=.dict es ep->H b=none:=λ{b o es ep} e d=>by
   cases q:H b with
   |none=>rfl
   |some u=>
    have e':b=a:=hA b (by rw[q];simp);subst e';rw[ha]at e;cases e;have d':Data.seq vs.toArray _=Data.dict es ep:=d;cases d'
  have nsK:∀{b:VB}{m:NX},s₁.heap.Ns b m->(qA s₁.heap H).Ns b m:=λ{b m} ⟨o,es,ep,e,d,r⟩=>⟨o,es,ep,base_of e (noA e d),d,r⟩;have hKb:K.In (qA s₁.heap H):=λb o e=>base_of (KX b o e) (by
   cases q:H b with
   |none=>rfl
   |some u=>
    have e':b=a:=hA b (by rw[q];simp);subst e';rw[hK (by rw[q];simp)]at e;cases e)
  have hM:Mod K mg (qA s₁.heap H):=⟨hKb,nsK hns,⟨mb,nsK hb,hbb⟩,let ⟨mc,h1,h2⟩:=hlim;⟨mc,nsK h1,h2⟩⟩;have e0:vT P w K mg (qA s₁.heap H) Re [] s₁ H:=⟨rfl,hM,λb o e=>Cs e,T9 (yr _ _),trivial,λb hb=>NU (show b∈([]:List VB)from hb) (by simp),hok,.of_eq hg⟩;refine OZ ((F _ hKb (nsK hns)).run Re [] s₁ H ⟨[.ref a],[]⟩ [.ref a] [.ref a] _ _ hr e0 (hbind s₁ (.ref a)) (.cons rfl .nil) (hsp H hO hS)) λr s' h=>?_;cases r with
  |error e=>exact(hCX H e s' h).elim
  |ok fl=>
   cases fl with
   |next=>exact False.elim h
   |brk=>exact False.elim h
   |cont=>exact False.elim h
   |ret u=>
    obtain⟨v,H',os,bare,un,hok',r',q⟩:=h;have q':v=.bl true:=q;subst q';obtain rfl:u=Rr true:=r';refine⟨rfl,OldK.of_keep λb o e=>?_,os,bare⟩;cases q:H b with
    |none=>exact un.keep b o e q (by intro z;exact NU (show b∈([]:List VB)from z) (by simp)) (by simp)
    |some u=>
     rcases hO b with z|⟨ob,xs,z⟩
     .rw[q]at z;cases z
     .have z2:=un.frzs b ob _ z;obtain⟨e1,_⟩:=hok b _ z;obtain⟨e2,_⟩:=hok' b _ z2;rw[e]at e1;cases e1;exact e2
 cases hk:K.lookup a with
 |some o=>
  have e:=KX a o hk;rw[ha]at e;cases e;refine core (λ_=>none) (λ_=>.inl rfl) (.inr ⟨_,vs.toArray,_,hk,rfl,rfl,rfl,by rw[RZ,lenV];exact hl,by simpa using rv⟩) (λb u z=>by have z':(none:Option HO)=some u:=z;cases z') (λb z=>NU rfl z) λz=>NU rfl z
 |none=>
  refine core (λb=>if b=a then some (.frz {cls:=.type "list",data:=.seq vs.toArray} (.lst (ns.map V.int)))else none) (λb=>?_) (.inl (.inr ⟨{cls:=.type "list",data:=.seq vs.toArray},NR rfl⟩)) (λb u z=>?_) (λb z=>?_) λ_=>hk
  .by_cases hb:b=a
   .exact .inr ⟨_,_,NR hb⟩
   .exact .inl (NQ hb)
  .by_cases hb:b=a
   .have z':=(NR hb).symm.trans z;cases z';subst hb;exact⟨ha,by rw[RT];exact hl,vs,_,rv,ha⟩
   .have z':=(NQ hb).symm.trans z;cases z'
  .by_cases hb:b=a
   .exact hb
   .exact NU (NQ hb) z
theorem BL{l:PySem.W.OpenLaw}{n k:Nat}{q:N5}{loose:List Str}{XP:(NX)->Oe->Prop}{YP:N9->Oe->Prop}{d:DefRec}{K:Qi->Frag}{CX:N9->y6}{sp:N9->Sp}{x:Str}(hn:l.most=some n)(hn2:n<=v1)(hdf:d.params.defaults=[])(hr:cY k Re)(hY:∀(w:N9)(h:Oe),YP w h->(K w.params).In h)(F:∀(w:N9)(mg:NX)(fa:VB)(h:Oe),(K w.params).In h->h.Ns Ob mg->mg d.name=some (.ref fa)->
   ∃fd:Oa,(∀(s:N3)(u:VA),RF s fd ⟨[u],[]⟩ [(x,u)])/\
    ∀np:Oe,(K w.params).In np->np.Ns Ob mg->aY l.prog w (K w.params) mg np (CX w) k fa fd [x] (sp w)) (hsp:∀(w:N9)(H:Hp)(a:VB)(ns:List Int),ns.length<=n->Jl H->aN (K w.params) H a (ns.map V.int)->sp w [.ref a] H (λv _=>v=.bl true) λ_ _ _=>False) (hCX:∀(w:N9)(H:Hp)(s:N3)(e:VA)(s':N3),CX w [] H s (λ_ _ _=>False) e s'->False):PySem.W.WalkO q loose XP YP l.row.toRowW d [] (λf vs=>PySem.call f vs):=by
 refine Att.attach_call hn hdf λw s₀ s₁ mg mb fa o pm cd doc a vs ns G Y ho hd hcd hmg hobj hints hlen hg=>?_;have KX:=hY w _ Y;obtain⟨fd,hb,hF⟩:=F w mg fa _ KX G.T.g hmg;exact AD KX G.T.g G.T.b G.T.builtins G.T.nolimit hg hobj hints (T0 hlen hn2) hr hF hb (λH hO hS=>hsp w H a ns hlen hO hS) λH e s'=>hCX w H s₁ e s'
def gq(s:Oo)(j:Nat):Oo:=match s with
 | .ClassDef _ _ _ body _ _ _ _ _ _ _=>body.getD j (.Pass ⟨0,0,0,0⟩)
 |_=>.Pass ⟨0,0,0,0⟩
def fG(s:Oo):Arguments:=match s with
 | .FunctionDef _ a _ _ _ _ _ _ _ _=>a
 |_=>{posonlyargs:=[],args:=[],vararg:=none,kwonlyargs:=[],kw_defaults:=[],kwarg:=none,defaults:=[]}
def dO(s:Oo):List Oo:=match s with
 | .FunctionDef _ _ b _ _ _ _ _ _ _=>b
 |_=>[]
def al(s:Oo):PF:=match s with
 | .FunctionDef _ _ _ _ _ _ sc _ _ _=>sc
 |_=>{kind:=.function,names:=[],isGenerator:=false,isCoroutine:=false}
abbrev cK:y6:=λ_ _ _ _ _ _=>False
abbrev E0:XK:=λ_ _ _=>False
theorem Am{X:Cx}:nc cK X E0:=λ_ _ _ _ _ _ _ h=>h.elim
structure cF(K:Frag)(x qual:Str)(st:Oo)(f:VB)(fd:Oa):Prop where
 ex:∃(oc:VA)(od:Option VB)(kV doc pm:VA)(an:Option VB)(cdv ct:VA)(osl:Array (Option VA)),
  fd=Va x qual (fG st) (dO st) (al st) .none kV doc pm an cdv ct/\K.lookup f=some ⟨oc,od,.func fd,osl⟩/\Vk K cdv qual=true
 kp:Vc K (.ref f)=true
section
variable{P:N5}{w:N9}{K:Frag}{mg:NX}{np:Oe}
theorem cF.ok{x qual:Str}{st:Oo}{f:VB}{fd:Oa}{N ps:List Str}{k:Nat}{sp:Sp}(F:cF K x qual st f fd)(S:aD N ps (al st))(len:∀vs H Q E,sp vs H Q E->vs.length=ps.length)(hbody:∀(cdv:VA)(A:Oi)(xc:List Rl)(s:N3)(H:Hp)(vs:List V)(Q:VK)(E:XK),cY k (A.deeper (QV qual (al st) s.heap.objs.size f cdv))->sp vs H Q E->
   ∃t,t6 (vB cK P w K mg np N qual (al st) f cdv A xc s H E).nox (dO st) t/\t {nx:=λ_ H'=>Q .non H',rt:=Q} (start N vs) H):aY P w K mg np cK (k+1) f fd ps sp:=by
 obtain⟨oc,od,kV,doc,pm,an,cdv,ct,osl,rfl,lk,hcd⟩:=F.ex;refine Mb lk hcd S len λA xc s H vs Q E hr hsp=>?_;obtain⟨t,h,q⟩:=hbody cdv A xc s H vs Q E hr hsp;exact⟨t,h.nox,q⟩
theorem cF.ok1{x qual:Str}{st:Oo}{f:VB}{fd:Oa}{N ps:List Str}{k:Nat}{sp:Sp}(F:cF K x qual st f fd)(S:aD N ps (al st))(hbody:∀(cdv:VA)(A:Oi)(xc:List Rl)(s:N3)(H:Hp)(vs:List V)(Q:VK)(E:XK),cY k (A.deeper (QV qual (al st) s.heap.objs.size f cdv))->sp vs H Q E->
   ∃t,t6 (vB cK P w K mg np N qual (al st) f cdv A xc s H E).nox (dO st) t/\t {nx:=λ_ H'=>Q .non H',rt:=Q} (start N vs) H) (len:∀vs H Q E,sp vs H Q E->vs.length=ps.length:=by intro _ _ _ _ h;(repeat rcases h with⟨_,h⟩);subst_vars;rfl):aY P w K mg np cK (k+1) f fd ps sp:=F.ok S len hbody
theorem cF.binds{x qual:Str}{st:Oo}{f:VB}{fd:Oa}{ps:List Str}(F:cF K x qual st f fd)(h:∀(kV doc pm:VA)(an:Option VB)(cdv ct:VA)(us:List VA),us.length=ps.length->bindArgs (Va x qual (fG st) (dO st) (al st) .none kV doc pm an cdv ct) ⟨us,[]⟩=pure (ps.zip us)):jp K fd ps []:=by obtain⟨oc,od,kV,doc,pm,an,cdv,ct,osl,rfl,lk,hcd⟩:=F.ex;exact .all (h kV doc pm an cdv ct)
theorem vo{x qual:Str}{st:Oo}{f:VB}{oc:VA}{od an:Option VB}{osl:Array (Option VA)}{kV doc pm cdv ct:VA}(l:K.lookup f=some ⟨oc,od,.func (Va x qual (fG st) (dO st) (al st) .none kV doc pm an cdv ct),osl⟩)(c:Vk K cdv qual=true)(k:Vc K (.ref f)=true):cF K x qual st f (Va x qual (fG st) (dO st) (al st) .none kV doc pm an cdv ct):=⟨⟨oc,od,kV,doc,pm,an,cdv,ct,osl,rfl,l,c⟩,k⟩
end
theorem iJ{A B:Prop}(h:B):if false=true then A else B:=by rw[NQ UC];exact h
theorem iI{A B:Prop}(h:A):if true=true then A else B:=by rw[NR rfl];exact h
def ak(H H':Hp):Prop:= ∀b o,H b=some o->H' b=some o
theorem ak.refl(H:Hp):ak H H:=λ_ _ h=>h
theorem ak.trans{H H1 H2:Hp}(a:ak H H1)(b:ak H1 H2):ak H H2:=λc o h=>b c o (a c o h)
theorem ak.free{H H':Hp}(e:ak H H'){l:VB}(h:H' l=Option.none):H l=Option.none:=by
 cases q:H l with
 |none=>rfl
 |some o=>
  rw[e l o q]at h;cases h
theorem ak.seq{K:Frag}{H H':Hp}{a:VB}{xs:List V}(e:ak H H')(h:aN K H a xs):aN K H' a xs:=by
 rcases h with(h|⟨o,h⟩)|h
 .exact .inl (.inl (e _ _ h))
 .exact .inl (.inr ⟨o,e _ _ h⟩)
 .exact .inr h
def j3(env:Rl):List (Str×NameKind)->List (Str×VB)->List (Str×VB)
 | [],cs=>cs
 |(n,k)::r,cs=>j3 env r (if k == .free then(match env.cells.lookup n with|some a=>(n,a)::cs|none=>cs)else cs)
theorem gD(env:Rl):∀(l:List (Str×NameKind))(cs:List (Str×VB)),(∀x∈l,x.2=.free->∃c,env.cells.lookup x.1=some c)->(forIn l cs λ(x:Str×NameKind) r=>if(x.2 == Pi)=true then do let a<-cellOf env x.1;pure (ForInStep.yield ((x.1,a)::r))else pure (ForInStep.yield r):RS (List (Str×VB)))=pure (j3 env l cs)
 | [],cs,_=>rfl
 |(n,k)::r,cs,h=>by
  have hr:∀x∈r,x.2=.free->∃c,env.cells.lookup x.1=some c:=λx hx=>h x (R7 _ hx);rw[Th,j3]
  by_cases hk:(k == Pi)=true
  .obtain⟨c,hc⟩:=h (n,k) R6 (by simpa using hk);have hc':env.cells.lookup n=some c:=hc;have e:cellOf env n=pure c:=by unfold cellOf;rw[hc']
   simp only[hk,if_true,e,pure_bind,hc'];exact gD env r _ hr
  .simp only[hk,if_false,pure_bind];exact gD env r _ hr
theorem jl{scope:PF}{env:Rl}(h:∀x∈scope.names,x.2=.free->∃c,env.cells.lookup x.1=some c):closureFor scope env=pure (j3 env scope.names []):=by have e:=gD env scope.names [] h;unfold closureFor;show(forIn scope.names ([]:List (Str×VB)) _ >>= λr=>pure r:RS (List (Str×VB)))=_;rw[bind_pure];exact e
theorem tF(env:Rl):∀(l:List (Str×NameKind))(cs:List (Str×VB))(x:Str)(c:VB),cs.lookup x=some c->env.cells.lookup x=some c->(j3 env l cs).lookup x=some c
 | [],_,_,_,h,_=>h
 |(n,k)::r,cs,x,c,h,e=>by
  rw[j3];refine tF env r _ x c ?_ e;split
  .cases q:env.cells.lookup n with
   |none=>exact h
   |some a=>
    show List.lookup x ((n,a)::cs)=some c;rw[SB];cases hx:x == n with
    |false=>exact h
    |true=>
     have:x=n:=by simpa using hx
     subst this;rw[q]at e;exact e
  .exact h
theorem m5(env:Rl):∀(l:List (Str×NameKind))(cs:List (Str×VB))(x:Str)(c:VB),(∀y d,cs.lookup y=some d->env.cells.lookup y=some d)->(j3 env l cs).lookup x=some c->env.cells.lookup x=some c
 | [],cs,x,c,h,e=>h x c e
 |(n,k)::r,cs,x,c,h,e=>by
  rw[j3]at e;refine m5 env r _ x c ?_ e;intro y d q;split at q
  .cases z:env.cells.lookup n with
   |none=>rw[z]at q;exact h y d q
   |some a=>
    rw[z]at q;have q2:List.lookup y ((n,a)::cs)=some d:=q;rw[SB]at q2;cases hx:y == n with
    |false=>rw[hx]at q2;exact h y d q2
    |true=>
     rw[hx]at q2;have hyn:y=n:=by simpa using hx
     rw[hyn,z];exact q2
  .exact h y d q
theorem m6(env:Rl):∀(l:List (Str×NameKind))(cs:List (Str×VB))(x:Str)(c:VB),(x,Pi)∈l->env.cells.lookup x=some c->(j3 env l cs).lookup x=some c
 | [],_,_,_,h,_=>by simp at h
 |(n,k)::r,cs,x,c,h,e=>by
  rw[j3]
  rcases RV.mp h with h|h
  .have h1:n=x:=(NW Prod.fst h).symm;have h2:k=Pi:=(NW Prod.snd h).symm;subst h1 h2;refine tF env r _ n c ?_ e;rw[e];show List.lookup n (if(Pi == Pi)=true then(n,c)::cs else cs)=some c;rw[NR (by decide),SB];simp
  .exact m6 env r _ x c h e
theorem jO(scope:PF)(env:Rl)(x:Str):(Rx scope env).names.lookup x=(scope.names.lookup x).map λk=>if(k == .free&&env.scope.kind == .function&&env.kindOf x == some .cell)=true then QH else k:=by
 show(scope.names.map λ(p:Str×NameKind)=>if(p.2 == .free&&env.scope.kind == .function&&env.kindOf p.1 == some .cell)=true then(p.1,QH)else(p.1,p.2)).lookup x=_
 induction scope.names with
 |nil=>rfl
 |cons p r ih=>
  obtain⟨n,k⟩:=p;rw[Sk];show List.lookup x ((if(k == .free&&env.scope.kind == .function&&env.kindOf n == some .cell)=true then(n,QH)else(n,k))::_)=_;cases hx:x == n with
  |false=>
   have e1:List.lookup x ((n,k)::r)=List.lookup x r:=by rw[SB,hx]
   rw[e1];split<;>(rw[SB,hx];exact ih)
  |true=>
   have:x=n:=by simpa using hx
   subst this;have e1:List.lookup x ((x,k)::r)=some k:=by rw[SB,hx]
   rw[e1];show _=some _;split
   .rename_i hc;rw[SB,hx];show some QH=some (if _ then _ else _);rw[NR hc]
   .rename_i hc;rw[SB,hx];show some k=some (if _ then _ else _);rw[NQ hc]
structure cp(X:Cx)(N:List Str)(src:List (Option Nat))(scope:PF):Prop where
 kind:scope.kind=.function
 nocell:∀y∈scope.names,y.2≠.cell
 names:∀y∈scope.names,y.2=.local->scope.names.lookup y.1=some .local
 fre:∀y∈scope.names,y.2=.free->X.env.kindOf y.1=some .cell\/X.env.kindOf y.1=some .free
 len:src.length=N.length
 nd:N.Nodup
 src:∀(j i:Nat)(x:Str),N[j]? =some x->src[j]? =some (some i)->X.N[i]? =some x/\scope.names.lookup x=some .free
def vD(dsc:PF)(XN N:List Str)(src:List (Option Nat))(scope:PF):Bool:=
 decide (scope.kind=.function)&&scope.names.all (λy=>decide (y.2≠.cell))&&scope.names.all (λy=> !decide (y.2=.local)||decide (scope.names.lookup y.1=some .local))&&
 scope.names.all (λy=> !decide (y.2=.free)||decide (dsc.names.lookup y.1=some .cell)||decide (dsc.names.lookup y.1=some .free))&&decide (src.length=N.length)&&decide N.Nodup&&
 (N.zip src).all λp=>match p.2 with
  |none=>true
  |some i=>decide (XN[i]? =some p.1)&&decide (scope.names.lookup p.1=some .free)
theorem cp.of{X:Cx}{dsc:PF}{XN N:List Str}{src:List (Option Nat)}{scope:PF}(he:X.env.scope=dsc)(hN:X.N=XN)(h:vD dsc XN N src scope=true):cp X N src scope:=by
 subst he hN;unfold vD at h;simp only[UD,decide_eq_true_eq,Sh,UI,UG,decide_eq_false_iff_not]at h;obtain⟨⟨⟨⟨⟨⟨h1,h2⟩,h3⟩,h4⟩,h5⟩,h6⟩,h7⟩:=h;refine⟨h1,h2,λy hy e=>?_,λy hy e=>?_,h5,h6,λj i x e1 e2=>?_⟩
 .rcases h3 y hy with q|q
  .exact NU e q
  .exact q
 .rcases h4 y hy with(q|q)|q
  .exact NU e q
  .exact .inl q
  .exact .inr q
 .have hm:(x,some i)∈N.zip src:=by
   have:(N.zip src)[j]? =some (x,some i):=by rw[List.getElem?_zip_eq_some];exact⟨e1,e2⟩
   exact Sl this
  have q:=h7 _ hm;simpa using q
def cxC(X:Cx)(scope:PF)(N:List Str)(s:N3)(H:Hp)(ex:List VB):Cx:=
 {X with
  N:=N
  s₀:=s
  H₀:=H
  env:=compEnvC scope (j3 X.env scope.names []) s.heap.objs.size X.env
  xc:=X.stack
  ex:=ex
  fn:=λ_=>false
  pn:=[]
  xe:=λ_ _=>False}
def dX(src:List (Option Nat))(σ:St):St:=src.map λo=>match o with|none=>none|some i=>(σ[i]?).join
section
variable{X:Cx}{gV:NZ}{σ:St}{H:Hp}{s:N3}{N:List Str}{src:List (Option Nat)}{scope:PF}{ex:List VB}
theorem cp.cells(S:cp X N src scope)(ok:X.Ok):∀x∈scope.names,x.2=.free->∃c,X.env.cells.lookup x.1=some c:=λx hx e=>ok.has _ (S.fre x hx e)
theorem aK.enterC(I:aK X gV σ H s)(S:cp X N src scope)(hf:∀b∈ex,iq X gV H b)(hlt:∀b∈ex,b<s.heap.objs.size){h1:Oe}{m:NX}{tk:Nat}(hns:h1.Ns s.heap.objs.size m)(hk:∀b o,s.heap.get? b=some o->h1.get? b=some o):aK (cxC X scope N s H ex) [] (dX src σ) H {s with heap:=h1,toks:=tk}:=by
 have neC:∀b o,s.heap.get? b=some o->b≠s.heap.objs.size:=λb o e=>TY (N4 e);have sub:∀x c,(j3 X.env scope.names []).lookup x=some c->X.env.cells.lookup x=some c:=λx c e=>m5 X.env _ _ x c (λy d z=>by simp at z) e;refine⟨⟨I.ok.mod,S.kind,I.ok.glob,I.ok.blt,TX _,λx y c e1 e2=>I.ok.inj x y c (sub x c e1) (sub y c e2),λx hx=>?_,λx c z=>NU z (by simp[cxC]),I.ok.hd,I.ok.frames,.inl rfl,λb hb=>?_,I.bs,T0 I.ok.bsz I.sz,λb o e hb=>?_,λb hb hz=>?_,I.stack,I.stkFree⟩,
  rfl,I.bare,Un.kept hk,⟨m,hns,λj x v e1 e2 e3=>?_⟩,λx c e=>?_,I.hok.fresh (TX _),λx c e=>I.freeC x c (sub x c e),λp hp=>NU (show p∈([]:NZ)from hp) (by simp),I.hok.kept hk,?_⟩
 .have hx:(Rx scope X.env).names.lookup x=some .cell\/(Rx scope X.env).names.lookup x=some .free:=hx;have hm:(x,Pi)∈scope.names:=by
   rw[jO]at hx;cases q:scope.names.lookup x with
   |none=>rw[q]at hx;simp at hx
   |some k=>
    have hm:=PySem.mem_of_lookup q;cases k with
    |free=>exact hm
    |cell=>exact NU rfl (S.nocell _ hm)
    |_=>rw[q]at hx;simp at hx
  obtain⟨c,hc⟩:=S.cells I.ok _ hm rfl;exact⟨c,m6 X.env _ _ x c hm hc⟩
 .obtain⟨f0,f1,f2,f3,f4,f5⟩:=hf b hb;exact⟨TY (hlt b hb),λx c e=>f4 x c (sub x c e)⟩
 .obtain⟨f0,f1,f2,f3,f4,f5⟩:=hf b hb
  rcases f3 with z|z
  .exact I.ok.noex b o e z
  .exact NU (T2 (N4 (I.ok.bs b o e).1) z) (T5 _)
 .obtain⟨f0,f1,f2,f3,f4,f5⟩:=hf b hb
  rcases RV.mp (I.stkSub b hz)with z|z
  .exact f1 z
  .exact f2 z
 .have e2:(dX src σ)[j]? =some (some v):=e2;unfold dX at e2;rw[RX]at e2;cases q:src[j]? with
  |none=>rw[q]at e2;simp at e2
  |some o=>
   rw[q]at e2;cases o with
   |none=>simp at e2
   |some i=>
    have e2:(σ[i]?).join=some v:=by simpa using e2
    have e2:σ[i]? =some (some v):=by
     cases z:σ[i]? with
     |none=>rw[z]at e2;simp at e2
     |some w=>rw[z]at e2;simp at e2;rw[e2]
    obtain⟨hX,hfr⟩:=S.src j i x e1 q;have hm:=PySem.mem_of_lookup hfr;have hk2:=S.fre _ hm rfl;obtain⟨mX,hnX,hl⟩:=I.loc;have hvis:MN X.env.scope x:=.inr hk2;obtain⟨u,r,l⟩:=hl i x v hX e2 hvis;refine⟨u,r,?_⟩
    rcases l with⟨l1,_⟩|⟨_,c,hc,hcell⟩
    .rcases hk2 with z|z
     .have:X.env.kindOf x=some .cell:=z;rw[l1]at this;cases this
     .have:X.env.kindOf x=some .free:=z;rw[l1]at this;cases this
    .refine .inr ⟨?_,c,m6 X.env _ _ x c hm hc,?_⟩
     .show(Rx scope X.env).names.lookup x=some .cell\/(Rx scope X.env).names.lookup x=some .free;rw[jO,hfr]
      by_cases hcc:(Pi == .free&&X.env.scope.kind == .function&&X.env.kindOf x == some .cell)=true
      .left
       show some (if _ then _ else _)=_;rw[NR hcc]
      .right
       show some (if _ then _ else _)=_;rw[NQ hcc]
     .exact hcell.keeps hk
 .obtain⟨v,z⟩:=I.cell x c (sub x c e);exact⟨v,z.keeps hk⟩
 .show(dX src σ).length=N.length;unfold dX;rw[RT];exact S.len
end
def tV(X:Cx)(ifs:List Ol)(t:TT):Prop:=
 ∀(gV:NZ)(s:N3)(σ:St)(H:Hp)(Q:Bool->Hp->Prop),aK X gV σ H s->t σ H Q->
  N8 (Od X.prog X.w) X.A (forIn ifs true λc r=>if r=true then do let ok<-isTrue c X.env (Ow c X.env);pure (ForInStep.yield ok)else pure (ForInStep.yield r)) (TP X gV σ Q) X.xe s
def je:TT:=λ_ H Q=>Q true H
theorem bL{X:Cx}:tV X [] je:=λ_ _ _ H _ I h=>wpAny_tests_nil ⟨H,I,h⟩
theorem jR{X:Cx}{c:Ol}{t:TT}(h:PT X c t):tV X [c] t:=λgV s σ H Q I hw=>wpAny_tests_one (h gV s σ H Q I hw)
def df(g:TG)(tt:TT)(te:TE)(src:List (Option Nat))(σ:St)(Q:VK)(J:It)(H1:Hp):Prop:=
 ∃W:Nat->Nat->List V->St->Hp->Prop,(∃m,W 0 m [] (dX src σ) H1)/\∀i m ys σ' H',W i m ys σ' H'->
  (J.stop i H'/\∀p,H' p=none->Q (.ref p) (upd H' p (.lst ys)))\/
  (J.go i H'/\ys.length<v1/\∀x H2,J.yld i H' x H2->g x σ' H2 λσ3 H3=>tt σ3 H3 λb H4=>
   if b=true then te σ3 H4 λv H5=>∃m',m'<m/\W (i+1) m' (ys++[v]) σ3 H5 else∃m',m'<m/\W (i+1) m' ys σ3 H4)
def tComp(wi:TI)(g:TG)(tt:TT)(te:TE)(src:List (Option Nat)):TE:=λσ H Q=>wi σ H (df g tt te src σ Q)
def xk(X:Cx)(gV:NZ)(σ:St)(Q:VK)(acc:VA)(C:VB)(r:RL)(s':N3):Prop:=
 (∃f,r=.ok f)/\∃D H',acc=.ref D/\aK X gV σ H' s'/\(∃m,s'.heap.Ns C m)/\iq X gV H' C/\Q (.ref D) H'
theorem qJ{prog:N5}{w:N9}{A:Oi}{R:RL->N3->Prop}{s:N3}{elt target iter:Ol}{ifs:List Ol}{scope:PF}{pos:Qa}{it acc:VA}{env:Rl}(I:Nat->N3->Prop)(turn:∀n s,I n s->N8 (Od prog w) A (Ph it) (λr s₁=>match r with
   |none=>R (.ok .next) s₁
   |some v=>N8 (Od prog w) A (PP target it v) (λ_ s₂=>N8 (Od prog w) A (Rp target env v) (λ_ s₃=>
     N8 (Od prog w) A (forIn ifs true λc r=>if r=true then do let ok<-isTrue c env (Ow c env);pure (ForInStep.yield ok)else pure (ForInStep.yield r)) (λok s₄=>
      if ok=true then N8 (Od prog w) A (Ow elt env) (λx s₅=>N8 (Od prog w) A (call (.builtin "list.append") [acc,x]) (λ_ s₆=>∃m,m<n/\I m s₆) (λ_ _=>False) s₅) (λ_ _=>False) s₄
      else∃m,m<n/\I m s₄) (λ_ _=>False) s₃) (λ_ _=>False) s₂) (λ_ _=>False) s₁) (λ_ _=>False) s) (n:Nat) (h:I n s):PQ (Od prog w) A (.compLoop (.ListComp elt [⟨target,iter,ifs,0⟩] scope pos) 0 it acc env) R s:=by
 refine codeAny_loop rfl I (λn s hI=>?_) n h;show N8 _ A ((compTurn (.ListComp elt [⟨target,iter,ifs,0⟩] scope pos) 0 it acc env).onRaise (λx=>do noteFrame x env;theTreesLotGoes x)) _ _ s;refine wpAny_noted ?_;rw[compTurn_list];refine N0 (Rg (N0 (O6 (turn n s hI) (λr s₁ h₁=>?_) λ_ _ f=>f.elim)));cases r with
 |none=>exact N2 h₁
 |some v=>
  refine N0 (O6 h₁ (λ_ s₂ h₂=>?_) λ_ _ f=>f.elim);refine N0 (O6 h₂ (λ_ s₃ h₃=>N0 (O6 h₃ (λok s₄ h₄=>?_) λ_ _ f=>f.elim)) λ_ _ f=>f.elim);cases ok with
  |false=>exact N2 ⟨rfl,h₄⟩
  |true=>
   exact N0 (N0 (O6 h₄ (λx s₅ h₅=>N0 (O6 h₅ (λ_ s₆ h₆=>N2 (N2 ⟨rfl,h₆⟩)) λ_ _ f=>f.elim)) λ_ _ f=>f.elim))
abbrev jd(us:List VA)(k:Nat):Obj:={cls:=.type "list",data:=.seq us.toArray k}
section
variable{X:Cx}{N:List Str}{src:List (Option Nat)}{scope:PF}{elt tg iter:Ol}{ifs:List Ol}{pos:Qa}{wi:TI}{g:TG}{tt:TT}{te:TE}
theorem tz(hc:X.calm=true)(S:cp X N src scope)(hg:∀s H ex,PG (cxC X scope N s H ex) tg g)(ht:∀s H ex,tV (cxC X scope N s H ex) ifs tt)(he:∀s H ex,PE (cxC X scope N s H ex) elt te){gV:NZ}{σ:St}{Q:VK}{itv:VA}{s2:N3}{E:NY}(h:NL X gV σ tg (df g tt te src σ Q) itv s2):N8 (Od X.prog X.w) X.A (newList []) (λacc s₃=>N8 (Od X.prog X.w) X.A (newFunctionEnv scope X.env.globals (j3 X.env scope.names []) [] X.env.qual none .none (some X.env)) (λcenv s₄=>
   PQ (Od X.prog X.w) X.A (.compStart (.ListComp elt [⟨tg,iter,ifs,0⟩] scope pos) 0 itv acc {cenv with scope:=Rx scope X.env}) (xk X gV σ Q acc cenv.locals) s₄) E s₃) E s2:=by
 obtain⟨it,fp,tn,J,H1,e,I2,T,st2,f2,W,⟨m0,w0⟩,turn⟩:=h;subst e;refine OL (wpAny_newFunctionEnv S.nocell (by intro y hy;simp at hy) (λh₁ hns₁ hsb₁=>?_) S.kind);dsimp only at hns₁ hsb₁ ⊢;generalize hH2:s2.heap.push {cls:=.type "list",dict:=none,data:=.seq ([]:List VA).toArray}=H2 at hns₁ hsb₁ ⊢;have hC:H2.objs.size=s2.heap.objs.size+1:=by rw[<-hH2,Os]
 have push:∀b o,s2.heap.get? b=some o->H2.get? b=some o:=λb o e=>hH2▸N1 _ e;have hD2:H2.get? s2.heap.objs.size=some (jd [] 0):=hH2▸N7 _ rfl;have hk:∀b o,H2.get? b=some o->h₁.get? b=some o:=λb o e=>hsb₁.extBut b o (TY (N4 e)) (N1 _ e);generalize hD:s2.heap.objs.size=D at*;have I3:aK X gV σ H1 {s2 with heap:=H2}:=I2.kept (t':=s2.toks) push;have fD:iq X gV H1 D:=I2.fpOk (T9 hD) (I2.hok.fresh (T9 hD));have fpl:∀b∈fp,b<D:=λb hb=>by obtain⟨o,e,_⟩:=T.obj _ _ st2 b hb;rw[<-hD];exact N4 e
 have fex:∀b∈D::fp,iq X gV H1 b:=λb hb=>by
  rcases RV.mp hb with z|z
  .rw[z];exact fD
  .exact f2 b z
 have lex:∀b∈D::fp,b<({s2 with heap:=H2}:N3).heap.objs.size:=λb hb=>by
  show b<H2.objs.size
  rcases RV.mp hb with z|z
  .rw[z,hC];exact Uc _
  .rw[hC];exact Ua (fpl b z)
 have I4:=I3.enterC (N:=N) S fex lex (h1:=h₁) (tk:=s2.toks+([]:List (Str×VA)).length) hns₁ hk;generalize hY:cxC X scope N {s2 with heap:=H2} H1 (D::fp)=Y at*;have yP:Y.prog=X.prog:=by rw[<-hY];rfl
 have yw:Y.w=X.w:=by rw[<-hY];rfl
 have yA:Y.A=X.A:=by rw[<-hY];rfl
 have yC:Y.env.locals=H2.objs.size:=by rw[<-hY];rfl
 have yK:Y.K=X.K:=by rw[<-hY];rfl
 have yc:Y.calm=true:=by rw[<-hY];exact hc
 have yfs:Y.fs=wO X.stack:=by rw[<-hY];rfl
 have yex:Y.ex=D::fp:=by rw[<-hY];rfl
 have ypn:Y.pn=[]:=by rw[<-hY];rfl
 have yxe:Y.xe=λ_ _=>False:=by rw[<-hY];rfl
 have ycl:∀x c,Y.env.cells.lookup x=some c->X.env.cells.lookup x=some c:=by rw[<-hY];exact λx c e=>m5 X.env _ _ x c (λy d z=>by simp at z) e
 have ye:Y.env=compEnvC scope (j3 X.env scope.names []) H2.objs.size X.env:=by rw[<-hY];rfl
 have ys0:Y.s₀={s2 with heap:=H2}:=by rw[<-hY];rfl
 have yH0:Y.H₀=H1:=by rw[<-hY];rfl
 have hgY:PG Y tg g:=by rw[<-hY];exact hg _ _ _
 have htY:tV Y ifs tt:=by rw[<-hY];exact ht _ _ _
 have heY:PE Y elt te:=by rw[<-hY];exact he _ _ _
 have nfs:∀b∈D::fp,b∉Y.fs:=λb hb z=>by
  rw[yfs]at z;obtain⟨f0,f1,f2',_⟩:=fex b hb
  rcases RV.mp (I2.stkSub b z)with q|q
  .exact f1 q
  .exact f2' q
 have ncl:∀b∈D::fp,∀x c,Y.env.cells.lookup x=some c->c≠b:=λb hb x c e=>(fex b hb).2.2.2.2.1 x c (ycl x c e);have nC:∀b∈D::fp,b≠Y.env.locals:=λb hb=>by rw[yC];exact TY (lex b hb)
 have stat:∀{H':Hp}{us:List VA}{k:Nat},(∀b∈fp,H' b=none)->∀b∈fp,iq Y [(D,jd us k)] H' b:=λ{H' us k} hn b hb=>
  ⟨hn b hb,nC b (R7 _ hb),nfs b (R7 _ hb),.inl (by rw[yex];exact R7 _ hb),ncl b (R7 _ hb),λp hp=>by
   rw[ypn]at hp;have hp1:p=(D,jd us k):=by simpa using hp
   rw[hp1];exact T4 (fpl b hb)⟩
 have pinD:∀{σ':St}{H':Hp}{s':N3}{pl:NZ}{us:List VA}{k:Nat},aK Y pl σ' H' s'->s'.heap.get? D=some (jd us k)->H' D=none->aK Y [(D,jd us k)] σ' H' s':=λ{σ' H' s' pl us k} I' e n=>
  I'.pins_of λp hp=>by
   have hp1:p=(D,jd us k):=by simpa using hp
   subst hp1;exact⟨e,n,nC D R6,nfs D R6,λv z=>by cases z⟩
 have I4':aK Y [(D,jd [] 0)] (dX src σ) H1 {s2 with heap:=h₁,toks:=s2.toks+([]:List (Str×VA)).length}:=pinD I4 (hk _ _ hD2) fD.1;have loop:PQ (Od X.prog X.w) X.A (.compLoop (.ListComp elt [⟨tg,iter,ifs,0⟩] scope pos) 0 (.ref it) (.ref D) Y.env) (xk X gV σ Q (.ref D) H2.objs.size) {s2 with heap:=h₁,toks:=s2.toks+([]:List (Str×VA)).length}:=by
  refine qJ (λn s'=>∃i ys us k σ' H',aK Y [(D,jd us k)] σ' H' s'/\tn i s'.heap/\(∀b∈fp,H' b=none)/\aX ys us/\ys.length<=v1/\W i n ys σ' H') ?_ m0
   ⟨0,[],[],0,_,H1,I4',T.keep _ _ _ st2 λb hb o e=>hk _ _ (push b o e),λb hb=>(f2 b hb).1,.nil,TZ _,w0⟩
  rintro n s3 ⟨i,ys,us,k,σ3,H3,I3',st3,fr3,rv,hz,w3⟩
  rcases turn i n ys σ3 H3 w3 with⟨stop,q⟩|⟨go,hlen,step⟩
  .have hd:=T.done Y yP yw yK yc i _ s3 σ3 H3 (λ_ _=>False) I3' (stat fr3) st3 stop;rw[yA]at hd;refine bM hd λr s4 ⟨hr,I4⟩=>?_;subst hr;obtain⟨eD,nD,_⟩:=I4.pin (D,jd us k) (by simp);have eD:s4.heap.get? D=some (jd us k):=eD;have nD:H3 D=none:=nD;have np:Un (wO X.stack) (D::fp) H1 H3 H2 s4.heap:=by have b:=I4.np;rw[yex,yH0,ys0,yfs]at b;exact b
   have hnD:∀b o,s2.heap.get? b=some o->b≠D:=λb o e=>by rw[<-hD];exact TY (N4 e)
   have nx:∀b o,s2.heap.get? b=some o->b∉fp->b∉D::fp:=λb o e hb z=>(RV.mp z).elim (hnD b o e) hb;have un:Un (wO X.stack) fp H1 (upd H3 D (.lst ys)) s2.heap s4.heap:=
    ⟨λb o e n hb hx=>np.keep b o (push b o e) n hb (nx b o e hx),λb o e n hb hx=>np.slot b o (push b o e) n hb (nx b o e hx),λb o e n hx=>by rw[au (hnD b o e)];exact np.free b o (push b o e) n (nx b o e hx),
     λb o e hx=>np.there b o (push b o e) (nx b o e hx),λb xs e=>by rw[au (aw e fD.1)];exact np.tups b xs e,λb o u e=>by rw[au (aw e fD.1)];exact np.frzs b o u e,
     λb ps e=>by rw[au (aw e fD.1)];exact np.tbls b ps e⟩
   have hok:kh X.prog X.w (upd H3 D (.lst ys)) s4.heap:=λb u e=>by
    by_cases hb:b=D
    .subst hb;rw[ah]at e;cases e;exact⟨hz,us,k,rv,eD⟩
    .rw[au hb]at e;have x:=I4.hok b u e;rw[yP,yw]at x;exact x.stay (λc v _ z=>z) (λc z=>by rw[au (aw z nD)];exact z) λc xs z=>by rw[au (aw z nD)];exact z
   have ho:s4.os=s2.os:=by rw[I4.os,ys0]
   have J':aK X gV σ (upd H3 D (.lst ys)) s4:=I2.call' (ch:=fp) ho un hok I4.bare λb hb=>⟨(f2 b hb).2.2.2.1,(f2 b hb).2.1,(f2 b hb).2.2.2.2.1,(f2 b hb).2.2.2.2.2⟩;refine⟨⟨_,rfl⟩,D,_,rfl,J',?_,?_,q D nD⟩
   .obtain⟨m,hm,_⟩:=I4.loc;rw[yC]at hm;exact⟨m,hm⟩
   .refine I2.fpOk (by rw[hC,hD];exact T3 _) ?_;rw[au (by rw[hC];exact Ud D)];have z:=I4.free;rw[yC]at z;exact z
  .have hd:=T.item Y yP yw yK yc i _ s3 σ3 H3 (λ_ _=>False) I3' (stat fr3) st3 go;rw[yA]at hd;refine bM hd λr s4 ⟨u,hr,h4⟩=>?_;subst hr;refine bM h4 λ_ s5 ⟨x,H5,I5,r5,y5,st5,fr5⟩=>?_;have I5':=I5.pinned (stat fr5) (T.obj _ _ st5);have hg':=hgY _ s5 σ3 H5 x u _ I5' r5 (step x H5 y5);rw[yP,yw,yA,yxe]at hg';refine bM hg' λ_ s6 ⟨σ6,H6,I6,q6⟩=>?_;have ht':=htY _ s6 σ6 H6 _ I6 q6;rw[yP,yw,yA,yxe]at ht';refine bM ht' λok s7 ⟨H7,I7,q7⟩=>?_;have again:∀{σ8:St}{H8:Hp}{s8:N3}{ys':List V}{us':List VA}{k' m':Nat},aK Y ([(D,jd us' k')]++iF fp s5.heap) σ8 H8 s8->aX ys' us'->ys'.length<=v1->m'<n->W (i+1) m' ys' σ8 H8->
     ∃m,m<n/\∃i ys us k σ' H',aK Y [(D,jd us k)] σ' H' s8/\tn i s8.heap/\(∀b∈fp,H' b=none)/\aX ys us/\ys.length<=v1/\W i m ys σ' H':=λ{σ8 H8 s8 ys' us' k' m'} I8 rv' hz' hm w8=>by
    refine⟨m',hm,i+1,ys',us',k',σ8,H8,I8.unpinned,T.keep _ _ _ st5 λb hb o e=>(I8.pin (b,o) (Sj _ (Sj _ (hZ hb e)))).1,λb hb=>?_,rv',hz',w8⟩;obtain⟨o,e,d⟩:=T.obj _ _ st5 b hb;exact(I8.pin (b,o) (Sj _ (Sj _ (hZ hb e)))).2.1
   cases ok with
   |false=>
    obtain⟨m',hm,w8⟩:=q7;exact again I7 rv hz hm w8
   |true=>
    rw[NR rfl];have he':=heY _ s7 σ6 H7 _ I7 q7;rw[yP,yw,yA,yxe]at he';refine bM he' λu8 s8 ⟨v,H8,I8,r8,m',hm,w8⟩=>?_;obtain⟨eD,nD,_⟩:=I8.pin (D,jd us k) (by simp);have eD:s8.heap.get? D=some (jd us k):=eD;have nD:H8 D=none:=nD;have hl:=rv.length;refine QW F.slot_list_append ⟨_,eD,rfl⟩ F.entry_list_append (F.args_list_append_2 _ _) (PySem.list_append D us.toArray k u8 (by rw[RZ];omega)) ⟨eD,?_⟩;have q:=PySem.IsL.update eD (λa=>a.push u8);have eu:us.toArray.push u8=(us++[u8]).toArray:=by simp
    rw[eu]at q;obtain⟨k',q⟩:∃k',(s8.heap.update D (OU λa=>a.push u8)).get? D=some (jd (us++[u8]) k'):=⟨_,q⟩;have I8':aK Y (iF fp s5.heap) σ6 H8 s8:=I8.pins_of λp hp=>I8.pin p (Sj _ (Sj _ hp));have I9:aK Y (iF fp s5.heap) σ6 H8 {s8 with heap:=s8.heap.update D (OU λa=>a.push u8)}:=I8'.turned (it:=D) (t':=s8.toks) (λb o hb e=>(O0 s8.heap _ (Ne.symm hb)).trans e) nD (nC D R6)
     (.inl (by rw[yex];exact R6)) (ncl D R6) λp hp=>by
      rw[ypn]at hp;have hp:p∈iF fp s5.heap:=by simpa using hp
      exact TY (fpl _ (n9 hp).1)
    refine again (us':=us++[u8]) (ys':=ys++[v]) (m':=m') (k':=k') (I9.pins_of λp hp=>?_) (rv.append (.cons r8 .nil)) (by rw[R9,Tg];omega) hm w8
    rcases Sa.mp hp with z|z
    .have hp1:p=(D,jd (us++[u8]) k'):=by simpa using z
     subst hp1;exact⟨q,nD,nC D R6,nfs D R6,λv z=>by cases z⟩
    .exact I9.pin p (Sj _ z)
 rw[ye]at loop;exact codeAny_compStart_list loop (T.self _ 0 _ _ _ (T.keep _ _ _ st2 λb hb o e=>hk _ _ (push b o e)) loop)
theorem Ch(hc:X.calm=true)(S:cp X N src scope)(hi:PI X tg iter wi)(hg:∀s H ex,PG (cxC X scope N s H ex) tg g)(ht:∀s H ex,tV (cxC X scope N s H ex) ifs tt)(he:∀s H ex,PE (cxC X scope N s H ex) elt te)(hs:∀x,PZ iter X.env x=pure x:=by intro _;rfl):PE X (.ListComp elt [⟨tg,iter,ifs,0⟩] scope pos) (tComp wi g tt te src):=by intro gV s σ H Q I h;rw[eval_ListComp];refine QE (use:=none) rfl hs (jl (S.cells I.ok)) S.kind S.names (bM (hi gV s σ H _ I h) λv s1 h1=>bM h1 λit s2 h2=>?_);refine bM (tz hc S hg ht he h2) λacc s3 h3=>bM h3 λcenv s4 h4=>OZ h4 λr s' hr=>?_;obtain⟨⟨f,rfl⟩,D,H',rfl,J,⟨m,hm⟩,hf,q⟩:=hr;refine⟨m,hm,λh' sb=>?_⟩;exact⟨.ref D,H',J.turned (t':=s'.toks) (λb o hb e=>(sb.2 b hb).trans e) hf.1 hf.2.1 hf.2.2.2.1 hf.2.2.2.2.1 hf.2.2.2.2.2,rfl,q⟩
theorem lJ{i:Nat}{y:Str}{py spos:Qa}(hc:X.calm=true)(S:cp X N src scope)(hi:PI X tg iter wi)(hg:∀s H ex,PG (cxC X scope N s H ex) tg g)(ht:∀s H ex,tV (cxC X scope N s H ex) ifs tt)(he:∀s H ex,PE (cxC X scope N s H ex) elt te)(hN:X.N.Nodup)(hy:X.N[i]? =some y)(hx:Hb X.env.scope y)(hsw:QN (.ListComp elt [⟨tg,iter,ifs,0⟩] scope pos) (some (.Name y py)) spos.line X.env=pure true)(hf:X.fn y=true\/X.env.scope.names.lookup y=some .local)(hs:∀x,PZ iter X.env x=pure x:=by intro _;rfl):PS X (.Assign [.Name y py] (.ListComp elt [⟨tg,iter,ifs,0⟩] scope pos) spos) (tAsg (tComp wi g tt te src) (gName i)):=by
 intro gV s σ H D I h;rw[exec_Assign_Name_used _ _ _ _ hsw];refine N0 (Rg (N0 ?_));show N8 _ X.A (do let _<-comprehension (.ListComp elt [⟨tg,iter,ifs,0⟩] scope pos) scope X.env _ (newList []) false (Ow iter X.env) (some (Rp (.Name y py) X.env))) _ _ s;refine N0 (O6 (QE (use:=some (Rp (.Name y py) X.env)) (Q:=λ_ s'=>SP X gV D .next s') rfl hs (jl (S.cells I.ok)) S.kind S.names (bM (hi gV s σ H _ I h) λv s1 h1=>bM h1 λit s2 h2=>?_)) (λ_ s' hq=>N2 (N2 hq)) λ_ _ e=>e);refine bM (tz hc S hg ht he h2) λacc s3 h3=>bM h3 λcenv s4 h4=>OZ h4 λr s' hr=>?_;obtain⟨⟨f,rfl⟩,D',H',rfl,J,⟨m,hm⟩,hfp,q⟩:=hr;show N8 _ X.A (Rp (.Name y py) X.env (.ref D')) _ _ _;refine wpAny_assign_Name (nO J hN hy hx (v:=.ref D') rfl (λs5 I5 ⟨a,sb,ha⟩=>?_) hf);have hne:cenv.locals≠a:=by
  rcases ha with z|z
  .rw[z];exact hfp.2.1
  .exact Ne.symm (hfp.2.2.2.2.1 y a z)
 refine⟨m,hm.sameBut sb hne,λh' sb'=>?_⟩;exact⟨_,H',I5.turned (t':=s5.toks) (λb o hb e=>(sb'.2 b hb).trans e) hfp.1 hfp.2.1 hfp.2.2.2.1 hfp.2.2.2.2.1 hfp.2.2.2.2.2,q⟩
end
section
variable{X:Cx}
theorem PE.imp{e:Ol}{t t':TE}(h:PE X e t)(i:∀σ H Q,t' σ H Q->t σ H Q):PE X e t':=λgV s σ H Q I q=>h gV s σ H Q I (i σ H Q q)
theorem bf.imp{f:VA}{r r':List V->Hp->VK->Prop}(h:bf X f r)(i:∀xs H Q,r' xs H Q->r xs H Q):bf X f r':=λgV s σ H xs us Q I r q=>h gV s σ H xs us Q I r (i xs H Q q)
theorem qX.imp{id:String}{r r':V->List V->Hp->VK->Prop}(h:qX X id r)(i:∀x xs H Q,r' x xs H Q->r x xs H Q):qX X id r':=λgV s σ H x xs v us Q I rx r q=>h gV s σ H x xs v us Q I rx r (i x xs H Q q)
abbrev Str.tl(x:Str):List Nat:=x.cps.toList
theorem lC{x y:Str}(h:x.cps.toList=y.cps.toList):x=y:=by obtain⟨a⟩:=x;obtain⟨b⟩:=y;have:a=b:=UV.mp h;rw[this]
theorem dC(x:Str):x.length=x.cps.toList.length:=by simp[Str.length]
theorem dg(x y:Str):(x++y).cps.toList=x.cps.toList++y.cps.toList:=by show(x.cps++y.cps).toList=_;simp
theorem xX:jb X (OC .LtE) (λx y H Q=>∃i j,x=.str i/\y=.str j/\Q (.bl (!decide (j.cps.toList<i.cps.toList))) H):=by intro gV s σ H x y v u Q I rx ry h;obtain⟨i,j,rfl,rfl,q⟩:=h;obtain⟨t,rfl⟩:=rx;obtain⟨t',rfl⟩:=ry;exact PySem.P.le_str (fin_bl I q rfl)
theorem At:qX X "str.upper" (λx vs H Q=>∃a,x=.str a/\vs=[]/\a.length<=v1/\(∀c∈a.cps.toList,c<128)/\Q (.str ⟨a.cps.map up1⟩) H):=by
 intro gV s σ H x xs v us Q I rx r h;obtain⟨a,rfl,rfl,hz,ha,q⟩:=h;obtain⟨t,rfl⟩:=rx;cases r;have e:placed a (λ_ c=>Unicode.upperOf c)=a.cps.map up1:=placed_single a _ up1 λi c hc=>upperOf_ascii c (ha c (Sl hc));have hfit:PK (placed a λ_ c=>Unicode.upperOf c).size=false:=by rw[e,UU];unfold PK;exact NP (by show¬a.cps.size > v1;have:a.length=a.cps.size:=rfl;omega)
 refine call_gives F.slot_str_upper (Qb _ _ _) F.entry_str_upper (F.args_str_upper_1 _) (gives_str_upper a t hfit) ?_;rw[e];exact⟨by show(a.cps.map up1).size<=v1;rw[UU];exact hz,⟨.str _,H,I.tok _,⟨_,rfl⟩,q⟩⟩
def jB(x:Str)(lo hi:Option Int):Str:=⟨((x.cps.toList.drop (HT.sIx x.length 0 lo)).take (HT.sIx x.length x.length hi - HT.sIx x.length 0 lo)).toArray⟩
theorem wq(l:List Nat):∀(k i:Nat),i+k<=l.length->(List.range' i k).filterMap (λm=>l[m]?)=(l.drop i).take k
 |0,i,_=>by simp
 |k+1,i,h=>by have ih:=wq l k (i+1) (by omega);rw[List.range'_succ,SO,RU (by omega),Ti (by omega),List.take_succ_cons];show l[i]::_=_;rw[ih]
theorem Ag(x:Str)(i k:Nat)(h:i+k<=x.length):((List.range k).map λ(m:Nat)=>i+m).filterMap (x.cps[·]?)=(x.cps.toList.drop i).take k:=by have hx:x.cps.toList.length=x.length:=(dC x).symm;rw[<-List.range'_eq_map_range,<-wq _ _ _ (by omega)];congr 1;funext m;rw[UR]
theorem wK(lo hi:Option Int)(n:Nat):OB lo hi 1 n=(List.range (HT.sIx n n hi - HT.sIx n 0 lo)).map λm=>HT.sIx n 0 lo+m:=by
 have cl:∀(v:Int)(d:Nat),max 0 (min (if v<0 then v+(n:Int)else v) (n:Int))=((HT.sIx n d (some v):Nat):Int):=λv d=>by
  show _=(((if v<0 then(v+(n:Int)).toNat else min v.toNat n):Nat):Int)
  by_cases hv:v<0
  .simp only[NR hv];omega
  .simp only[NQ hv];omega
 have main:∀(a b:Nat),Rn (a:Int) (b:Int) 1=(List.range (b - a)).map λm=>a+m:=λa b=>by
  have e:(if(1:Int) > 0 then(if(a:Int)<(b:Int)then((b:Int) - a+1 - 1) / 1 else 0)else(if(a:Int) > b then((a:Int) - b - 1 - 1) / (-1)else 0)).toNat=b - a:=by rw[NR (by decide)];split<;>omega
  show(List.range (if(1:Int) > 0 then(if(a:Int)<(b:Int)then((b:Int) - a+1 - 1) / 1 else 0)else(if(a:Int) > b then((a:Int) - b - 1 - 1) / (-1)else 0)).toNat).map (λ(k:Nat)=>((a:Int)+1*(k:Int)).toNat)=_;rw[e];apply Sq;intro m _;omega
 have e1:HT.sIx n 0 none=0:=rfl;have e2:HT.sIx n n none=n:=rfl;unfold OB;simp only[show(1:Int) > 0 by decide,if_true];cases lo with
 |none=>
  cases hi with
  |none=>exact main 0 n
  |some h=>show Rn ((0:Nat):Int) (max 0 (min (if h<0 then h+(n:Int)else h) (n:Int))) 1=_;rw[cl h n];exact main _ _
 |some l=>
  cases hi with
  |none=>show Rn (max 0 (min (if l<0 then l+(n:Int)else l) (n:Int))) (n:Int) 1=_;rw[cl l 0];exact main _ _
  |some h=>show Rn (max 0 (min (if l<0 then l+(n:Int)else l) (n:Int))) (max 0 (min (if h<0 then h+(n:Int)else h) (n:Int))) 1=_;rw[cl l 0,cl h n];exact main _ _
theorem xy(x:Str)(lo hi:Option Int):(⟨((OB lo hi 1 x.length).filterMap (x.cps[·]?)).toArray⟩:Str)=jB x lo hi:=by
 unfold jB;rw[wK];have h1:=HT.sIx_le x.length 0 (TZ _) lo;have h2:=HT.sIx_le x.length x.length (TX _) hi
 by_cases h:HT.sIx x.length 0 lo<=HT.sIx x.length x.length hi
 .rw[Ag x _ _ (by omega)]
 .have e:HT.sIx x.length x.length hi - HT.sIx x.length 0 lo=0:=by omega
  rw[e];simp
theorem i8(x:Str)(lo hi:Option Int):(jB x lo hi).cps.toList=(x.cps.toList.drop (HT.sIx x.length 0 lo)).take (HT.sIx x.length x.length hi - HT.sIx x.length 0 lo):=by unfold jB;simp
theorem mY(x:Str)(lo hi:Option Int):(jB x lo hi).length<=x.length:=by rw[dC,i8,dC x,Si,SI];omega
theorem vC{x:Str}{lo hi:Option Int}(h:(OB lo hi 1 x.length).length=x.length):jB x lo hi=x:=by
 rw[wK,RT,Sx]at h;have h1:=HT.sIx_le x.length 0 (TZ _) lo;have h2:=HT.sIx_le x.length x.length (TX _) hi;apply lC;rw[i8]
 by_cases z:x.length=0
 .have e:x.cps.toList=[]:=Tj.mp (by rw[<-dC];exact z);rw[e];simp
 .have e1:HT.sIx x.length 0 lo=0:=by omega
  rw[h,e1,SV,SJ (by rw[<-dC];exact TX _)]
def Nr:V->Option Int->Option Int->Hp->VK->Prop:=λx lo hi H Q=>∃z,x=.str z/\z.length<=v1/\Q (.str (jB z lo hi)) H
theorem sB{v:VA}{o:Option Int}(p:RR v o):∃q:Option (Int×Rt),v=partValue q/\q.map (·.1)=o:=by
 cases p with
 |none=>exact⟨none,rfl,rfl⟩
 |int i t=>exact⟨some (i,t),rfl,rfl⟩
theorem Hy:y0 X Nr:=by
 intro gV s σ H x v vl vu lo hi sl Q I rx hs pl pu h;obtain⟨z,rfl,hz,q⟩:=h;obtain⟨t,rfl⟩:=rx;obtain⟨l,rfl,el⟩:=sB pl;obtain⟨u,rfl,eu⟩:=sB pu;refine⟨"str",_,F.slot_str_getitem.lookup,Qb _ _ _,?_⟩;obtain⟨o,ho,hc,hd⟩:=hs;refine wpAny_getItem_str_slice (l:=l) (u:=u) (st:=none) ⟨o,ho,hc,hd⟩ rfl ?_;unfold sliceMade slicePicked;rw[el,eu];split
 .rename_i hw;have hw:(OB lo hi 1 z.length).length=z.length:=by simpa using hw
  rw[vC hw]at q;exact⟨.str z,H,I,⟨t,rfl⟩,q⟩
 .have e:=xy z lo hi;have e':(⟨((OB lo hi ((Option.map (·.1) (none:Option (Int×Rt))).getD 1) z.length).filterMap (z.cps[·]?)).toArray⟩:Str)=jB z lo hi:=e;rw[e'];exact⟨T0 (mY z lo hi) hz,⟨.str _,H,I.tok _,⟨_,rfl⟩,q⟩⟩
theorem nJ:bf X (.type "int") (λxs H Q=>∃x n,xs=[.str x]/\PySem.intText? x=some n/\x.length<=640/\Q (.int n) H):=by intro gV s σ H xs us Q I r h;obtain⟨x,n,rfl,hn,hl,q⟩:=h;obtain⟨u,rfl,t,rfl⟩:=di r;exact PySem.W.KIN.call_text hn hl ⟨.int n,H,I.tok _,⟨_,rfl⟩,q⟩
theorem jr:∀{ys:List Str}{us:List VA},aX (ys.map V.str) us->RN us ys
 | [],us,r=>by rw[Tf]at r;cases r;exact .nil
 |y::ys,us,r=>by
  rw[Sk]at r;cases r with
  |cons r1 r2=>
   obtain⟨t,e⟩:=r1;subst e;exact .cons y t (jr r2)
theorem Cy:qX X "str.join" (λx vs H Q=>∃sep p ys,x=.str sep/\vs=[.ref p]/\aN X.K H p (ys.map V.str)/\(ys.map (·.length)).sum+ys.length*sep.length<=16777216/\Q (.str (P5 sep ys)) H):=by intro gV s σ H x xs v us Q I rx r h;obtain⟨sep,p,ys,rfl,rfl,hp,hz,q⟩:=h;obtain⟨t,rfl⟩:=rx;obtain⟨u,rfl,ru⟩:=di r;cases ru;obtain⟨its,rv,pl,hl⟩:=I.list hp;exact join_list pl.isList (by simpa using jr rv) hz λt' k=>⟨.str _,H,I.tok _,⟨t',rfl⟩,q⟩
theorem qZ{P:N5}{w:N9}{A:Oi}{its:List VA}{ks:List Bool}(r:aX (ks.map V.bl) its):TruthOf P w A (λi v=>its.toArray[i]? =some v) (λi=>ks.getD i false):=by
 intro i v s Q E hv hq;have hv:its[i]? =some v:=by simpa using hv
 have hlen:=r.length;rw[RT]at hlen;have hi:i<its.length:=(Sd.mp hv).1;have hk:(ks.map V.bl)[i]? =some (V.bl (ks.getD i false)):=by rw[RX,RU (by omega),RY,RU (by omega)];rfl
 obtain⟨u,hu,ru⟩:=r.get hk;rw[hv]at hu;cases hu;cases ru;exact OA hq
theorem xL(ks:List Bool):(List.range ks.length).all (λi=>ks.getD i false)=ks.all id:=by
 rw[UF,Sh,Sh]
 constructor
 .intro h b hb;obtain⟨i,hi,e⟩:=TH.mp hb;have:=h i (R8.mpr hi);rw[RY,RU hi]at this;rw[<-e];exact this
 .intro h i hi;have hi:=R8.mp hi;rw[RY,RU hi];exact h _ (Se hi)
theorem Bp(hc:X.calm=true):bf X (.builtin "all") (λxs H Q=>∃(p:VB)(ks:List Bool),xs=[.ref p]/\aN X.K H p (ks.map V.bl)/\Q (.bl (ks.all id)) H):=by
 intro gV s σ H xs us Q I r h;obtain⟨p,ks,rfl,hp,q⟩:=h;obtain⟨u,rfl,ru⟩:=di r;cases ru;obtain⟨its,rv,pl,hl⟩:=I.list hp;have hlen:=rv.length;rw[RT]at hlen;refine call_all_walk (Pd pl.isList ?_);have hne:p≠s.heap.objs.size:=by obtain⟨o,ho,_⟩:=pl.isList;exact TY (N4 ho)
 have W:=Rq (prog:=X.prog) (w:=X.w) (A:=X.A.in1) (show X.A.in1.handled=none from I.ok.hd hc) s.heap.objs.size p hne its.toArray;have hpush:∀o b ob,s.heap.get? b=some ob->(s.heap.push o).get? b=some ob:=λo b ob e=>N1 _ e;refine⟨_,_,_,_,_,_,λi=>ks.getD i false,rfl,W,⟨⟨_,N7 _ rfl,rfl,rfl⟩,pl.isList.at λo e=>hpush _ _ o e⟩,qZ rv,λh' tk k=>?_⟩;have e:(List.range its.toArray.size).all (λi=>ks.getD i false)=ks.all id:=by rw[<-xL,RZ,<-hlen]
 rw[e];refine⟨.bl _,H,I.kept (t':=tk) (h':=h') λb ob e=>k b ob ?_ (hpush _ b ob e),rfl,q⟩;intro hb;have:b=s.heap.objs.size:=by simpa using hb
 subst this;exact NU (N4 e) (T5 _)
end
inductive t7(K:Frag)(H:Hp):Nat->V->V->Bool->Prop
 |flat {n:Nat} {x y:V} (hx:flatV x=true) (hy:flatV y=true):t7 K H n x y (eqV x y)
 |same {n:Nat} {a:VB}:t7 K H n (.ref a) (.ref a) true
 |len {n:Nat} {a b:VB} {xs ys:List V} (ha:aN K H a xs) (hb:aN K H b ys) (hab:a≠b) (hl:xs.length≠ys.length):t7 K H (n+1) (.ref a) (.ref b) false
 |lst {n:Nat} {a b:VB} {xs ys:List V} {es:Nat->Bool} (ha:aN K H a xs) (hb:aN K H b ys) (hab:a≠b) (hl:xs.length=ys.length)
   (he:∀i x y,xs[i]? =some x->ys[i]? =some y->t7 K H n x y (es i)):t7 K H (n+1) (.ref a) (.ref b) ((List.range xs.length).all es)
 |tup {n:Nat} {a b:VB} {xs ys:List V} {es:Nat->Bool} (ha:cJ K H a xs) (hb:cJ K H b ys) (hab:a≠b)
   (he:∀i x y,xs[i]? =some x->ys[i]? =some y->t7 K H n x y (es i)):t7 K H (n+1) (.ref a) (.ref b) ((List.range (min xs.length ys.length)).all es&&xs.length == ys.length)
 |nref {n:Nat} {x:V} {a:VB} {xs:List V} (hx:flatV x=true) (ha:aN K H a xs\/cJ K H a xs):t7 K H n x (.ref a) false
 |refn {n:Nat} {x:V} {a:VB} {xs:List V} (hx:flatV x=true) (ha:aN K H a xs\/cJ K H a xs):t7 K H n (.ref a) x false
section
variable{X:Cx}{gV:NZ}{σ:St}{H:Hp}{s:N3}
theorem fo{xs:List V}{its:List VA}(r:aX xs its){j:Nat}(h:j<its.toArray.size):∃x,xs[j]? =some x/\aQ x its.toArray[j]:=by
 have hl:=r.length;have hj:j<its.length:=by simpa using h
 have hx:xs[j]? =some (xs[j]'(by omega)):=RU (by omega);obtain⟨u,hu,ru⟩:=r.get hx;refine⟨_,hx,?_⟩;have e:its.toArray[j]=u:=by rw[RU hj]at hu;simpa using NV hu
 rw[e];exact ru
theorem mV(I:aK X gV σ H s):∀{n:Nat}{x y:V}{k:Bool},t7 X.K H n x y k->∀(A:Oi),A.units+n<Pf->∀{u v:VA},aQ x u->aQ y v->Rs A s u v k:=by
 intro n x y k h
 induction h with
 |flat hx hy=>exact λA _ u v ru rv=>Bb ru rv hx hy
 |same=>
  intro A _ u v ru rv;cases ru;cases rv;exact SeqAt.EqAt.same _
 |len ha hb hab hl=>
  intro A hu u v ru rv;cases ru;cases rv;obtain⟨its,r1,p1,_⟩:=I.list ha;obtain⟨its2,r2,p2,_⟩:=I.list hb;have l1:=r1.length;have l2:=r2.length;refine .of_refs hab (.lists_lengths p1.isList p2.isList (by simp;omega) (by omega))
 | @lst n a b xs ys es ha hb hab hl he ih=>
   intro A hu u v ru rv;cases ru;cases rv;obtain⟨its,r1,p1,_⟩:=I.list ha;obtain⟨its2,r2,p2,_⟩:=I.list hb;have l1:=r1.length;have l2:=r2.length;have e:(List.range xs.length).all es=(List.range its.toArray.size).all es:=by rw[RZ,l1]
   rw[e];refine .of_refs hab (.lists p1.isList p2.isList (by simp;omega) (by omega) λj h1 h2=>?_);obtain⟨x,hx,rx⟩:=fo r1 h1;obtain⟨y,hy,ry⟩:=fo r2 h2;exact ih j x y hx hy A.in1 (by show A.units+1+n<Pf;omega) rx ry
 | @tup n a b xs ys es ha hb hab he ih=>
   intro A hu u v ru rv;cases ru;cases rv;obtain⟨its,r1,p1,_⟩:=I.tuple ha;obtain⟨its2,r2,p2,_⟩:=I.tuple hb;have l1:=r1.length;have l2:=r2.length;have e:((List.range (min xs.length ys.length)).all es&&xs.length == ys.length)=((List.range (min its.toArray.size its2.toArray.size)).all es&&its.toArray.size == its2.toArray.size):=by rw[RZ,RZ,l1,l2]
   rw[e];refine .of_refs hab (.tuples (show s.heap.IsTuple a its.toArray from p1) (show s.heap.IsTuple b its2.toArray from p2) (by omega) λj h1 h2=>?_);obtain⟨x,hx,rx⟩:=fo r1 h1;obtain⟨y,hy,ry⟩:=fo r2 h2;exact ih j x y hx hy A.in1 (by show A.units+1+n<Pf;omega) rx ry
 | @nref n x a xs hx ha=>
   intro A hu u v ru rv;cases rv
   rcases ha with ha|ha
   .obtain⟨its,r1,p1,_⟩:=I.list ha;have hl:=p1.isList;cases x with
    |non=>cases ru;exact .none_list hl (by omega)
    |bl b=>cases ru;exact .bool_list b hl (by omega)
    |int b=>obtain⟨t,rfl⟩:=ru;exact .int_list b t hl (by omega)
    |str b=>obtain⟨t,rfl⟩:=ru;exact .str_list b t hl (by omega)
    |_=>simp[flatV]at hx
   .obtain⟨its,r1,p1,_⟩:=I.tuple ha;have hl:s.heap.IsTuple a its.toArray:=p1;cases x with
    |non=>cases ru;exact .none_tuple hl (by omega)
    |bl b=>cases ru;exact .bool_tuple b hl (by omega)
    |int b=>obtain⟨t,rfl⟩:=ru;exact .int_tuple b t hl (by omega)
    |str b=>obtain⟨t,rfl⟩:=ru;exact .str_tuple b t hl (by omega)
    |_=>simp[flatV]at hx
 | @refn n x a xs hx ha=>
   intro A hu u v ru rv;cases ru
   rcases ha with ha|ha
   .obtain⟨its,r1,p1,_⟩:=I.list ha;have hl:=p1.isList;cases x with
    |non=>cases rv;exact .list_none hl (by omega)
    |bl b=>cases rv;exact .list_bool b hl (by omega)
    |int b=>obtain⟨t,rfl⟩:=rv;exact .list_int b t hl (by omega)
    |str b=>obtain⟨t,rfl⟩:=rv;exact .list_str b t hl (by omega)
    |_=>simp[flatV]at hx
   .obtain⟨its,r1,p1,_⟩:=I.tuple ha;have hl:s.heap.IsTuple a its.toArray:=p1;cases x with
    |non=>cases rv;exact .tuple_none hl (by omega)
    |bl b=>cases rv;exact .tuple_bool b hl (by omega)
    |int b=>obtain⟨t,rfl⟩:=rv;exact .tuple_int b t hl (by omega)
    |str b=>obtain⟨t,rfl⟩:=rv;exact .tuple_str b t hl (by omega)
    |_=>simp[flatV]at hx
end
inductive oQ(K:Frag)(H:Hp):Nat->V->V->Bool->Prop
 |len {n:Nat} {a b:VB} {xs ys:List V} (ha:aN K H a xs) (hb:aN K H b ys) (hl:xs.length≠ys.length):oQ K H (n+1) (.ref a) (.ref b) false
 |lst {n:Nat} {a b:VB} {xs ys:List V} {es:Nat->Bool} (ha:aN K H a xs) (hb:aN K H b ys) (hl:xs.length=ys.length)
   (he:∀i x y,xs[i]? =some x->ys[i]? =some y->t7 K H n x y (es i)):oQ K H (n+1) (.ref a) (.ref b) ((List.range xs.length).all es)
 |tup {n:Nat} {a b:VB} {xs ys:List V} {es:Nat->Bool} (ha:cJ K H a xs) (hb:cJ K H b ys)
   (he:∀i x y,xs[i]? =some x->ys[i]? =some y->t7 K H n x y (es i)):oQ K H (n+1) (.ref a) (.ref b) ((List.range (min xs.length ys.length)).all es&&xs.length == ys.length)
section
variable{X:Cx}
theorem Ib{n:Nat}(hu:X.A.units+n<Pf):jb X (OC .Eq) (λx y H Q=>∃k,oQ X.K H n x y k/\Q (.bl k) H):=by
 intro gV s σ H x y v u Q I rx ry h;obtain⟨k,h,q⟩:=h;cases h with
 | @len n a b xs ys ha hb hl=>
   cases rx;cases ry;obtain⟨its,r1,p1,_⟩:=I.list ha;obtain⟨its2,r2,p2,_⟩:=I.list hb;have l1:=r1.length;have l2:=r2.length;exact SeqAt.eq_list_lengthsAt p1.isList p2.isList (by simp;omega) (by omega) (fin_bl I q rfl)
 | @lst n a b xs ys es ha hb hl he=>
   cases rx;cases ry;obtain⟨its,r1,p1,_⟩:=I.list ha;obtain⟨its2,r2,p2,_⟩:=I.list hb;have l1:=r1.length;have l2:=r2.length;refine SeqAt.eq_listAt (e:=es) p1.isList p2.isList (by simp;omega) (by omega) (λj h1 h2=>?_) (fin_bl I q (by rw[RZ,l1]));obtain⟨x,hx,rx⟩:=fo r1 h1;obtain⟨y,hy,ry⟩:=fo r2 h2;exact mV I (he j x y hx hy) X.A.in1 (by show X.A.units+1+n<Pf;omega) rx ry
 | @tup n a b xs ys es ha hb he=>
   cases rx;cases ry;obtain⟨its,r1,p1,_⟩:=I.tuple ha;obtain⟨its2,r2,p2,_⟩:=I.tuple hb;have l1:=r1.length;have l2:=r2.length;refine SeqAt.eq_tupleAt (e:=es) (show s.heap.IsTuple a its.toArray from p1) (show s.heap.IsTuple b its2.toArray from p2) (by omega) (λj h1 h2=>?_) (fin_bl I q (by rw[RZ,RZ,l1,l2]));obtain⟨x,hx,rx⟩:=fo r1 h1;obtain⟨y,hy,ry⟩:=fo r2 h2;exact mV I (he j x y hx hy) X.A.in1 (by show X.A.units+1+n<Pf;omega) rx ry
theorem HW{n:Nat}(hu:X.A.units+n<Pf):jb X (OC .NotEq) (λx y H Q=>∃k,oQ X.K H n x y k/\Q (.bl (!k)) H):=by
 intro gV s σ H x y v u Q I rx ry h;obtain⟨k,h,q⟩:=h;cases h with
 | @len n a b xs ys ha hb hl=>
   cases rx;cases ry;obtain⟨its,r1,p1,_⟩:=I.list ha;obtain⟨its2,r2,p2,_⟩:=I.list hb;have l1:=r1.length;have l2:=r2.length;exact QC (SeqAt.RcNeAt.lists_lengths p1.isList p2.isList (by simp;omega) (by omega)) (fin_bl I q rfl)
 | @lst n a b xs ys es ha hb hl he=>
   cases rx;cases ry;obtain⟨its,r1,p1,_⟩:=I.list ha;obtain⟨its2,r2,p2,_⟩:=I.list hb;have l1:=r1.length;have l2:=r2.length;refine QC (SeqAt.RcNeAt.lists (e:=es) p1.isList p2.isList (by simp;omega) (by omega) (λj h1 h2=>?_)) (fin_bl I q (by rw[RZ,l1]));obtain⟨x,hx,rx⟩:=fo r1 h1;obtain⟨y,hy,ry⟩:=fo r2 h2;exact mV I (he j x y hx hy) X.A.in1 (by show X.A.units+1+n<Pf;omega) rx ry
 | @tup n a b xs ys es ha hb he=>
   cases rx;cases ry;obtain⟨its,r1,p1,_⟩:=I.tuple ha;obtain⟨its2,r2,p2,_⟩:=I.tuple hb;have l1:=r1.length;have l2:=r2.length;refine QC (SeqAt.RcNeAt.tuples (e:=es) (show s.heap.IsTuple a its.toArray from p1) (show s.heap.IsTuple b its2.toArray from p2) (by omega) (λj h1 h2=>?_)) (fin_bl I q (by rw[RZ,RZ,l1,l2]));obtain⟨x,hx,rx⟩:=fo r1 h1;obtain⟨y,hy,ry⟩:=fo r2 h2;exact mV I (he j x y hx hy) X.A.in1 (by show X.A.units+1+n<Pf;omega) rx ry
end
def j6(op:RD)(x y:V)(H:Hp)(Q:VK):Prop:=match op,x,y with
 | .Add,.int i,.int j=>Q (.int (i+j)) H
 | .Add,.str i,.str j=>i.length+j.length<=v1/\Q (.str (i++j)) H
 | .Add,.ref a,.ref b=>HK (.ref a) (.ref b) H Q
 | .Sub,.int i,.int j=>Q (.int (i - j)) H
 | .Mult,.int i,.int j=>yX i j/\Q (.int (i*j)) H
 | .FloorDiv,.int i,.int j=>Dp i j/\Q (.int (i / j)) H
 | .Mod,.int i,.int j=>0<j/\Q (.int (i % j)) H
 | .Pow,.int i,.int j=>Jo i j/\Q (.int (i ^ j.toNat)) H
 |_,_,_=>False
section
variable{X:Cx}{a b c:Ol}{ta tb tc:TE}{pos:Qa}
theorem Ie(op:RD):jb X (P3 op) (j6 op):=by
 intro gV s σ H x y v u Q I rx ry h;unfold j6 at h;split at h
 .exact Ig gV s σ H _ _ v u Q I rx ry ⟨_,_,rfl,rfl,h⟩
 .exact uL gV s σ H _ _ v u Q I rx ry ⟨_,_,rfl,rfl,h.1,h.2⟩
 .exact Ic gV s σ H _ _ v u Q I rx ry h
 .exact HU gV s σ H _ _ v u Q I rx ry ⟨_,_,rfl,rfl,h⟩
 .exact HX gV s σ H _ _ v u Q I rx ry ⟨_,_,rfl,rfl,h.1,h.2⟩
 .exact Cn gV s σ H _ _ v u Q I rx ry ⟨_,_,rfl,rfl,h.1,h.2⟩
 .exact HY gV s σ H _ _ v u Q I rx ry ⟨_,_,rfl,rfl,h.1,h.2⟩
 .exact HV gV s σ H _ _ v u Q I rx ry ⟨_,_,rfl,rfl,h.1,h.2⟩
 .exact h.elim
def eqB:V->V->Option Bool
 | .non,.non=>some true
 | .int i,.int j=>some (decide (i=j))
 | .bl i,.bl j=>some (decide (i=j))
 | .str i,.str j=>some (decide (i=j))
 | .non,.int _=>some false| .int _,.non=>some false| .non,.bl _=>some false| .bl _,.non=>some false| .non,.str _=>some false| .str _,.non=>some false
 | .int _,.str _=>some false| .str _,.int _=>some false| .bl _,.str _=>some false| .str _,.bl _=>some false
 |_,_=>none
theorem tm{x y:V}{k:Bool}(h:eqB x y=some k):scal x y=true/\decide (x=y)=k:=by
 cases x<;>cases y<;>simp[eqB,scal]at h ⊢ <;>first|exact h|(subst h;rfl)
def aV(K:Frag)(op:Po)(x y:V)(H:Hp)(Q:VK):Prop:=match op,x,y with
 | .Eq,.ref a,.ref b=>∃k,oQ K H 20 (.ref a) (.ref b) k/\Q (.bl k) H
 | .NotEq,.ref a,.ref b=>∃k,oQ K H 20 (.ref a) (.ref b) k/\Q (.bl (!k)) H
 | .Eq,x,y=>match eqB x y with|some k=>Q (.bl k) H|none=>False
 | .NotEq,x,y=>match eqB x y with|some k=>Q (.bl (!k)) H|none=>False
 | .Lt,.int i,.int j=>Q (.bl (decide (i<j))) H
 | .LtE,.int i,.int j=>Q (.bl (decide (i<=j))) H
 | .Gt,.int i,.int j=>Q (.bl (decide (j<i))) H
 | .GtE,.int i,.int j=>Q (.bl (decide (j<=i))) H
 | .Lt,.str i,.str j=>Q (.bl (decide (i.cps.toList<j.cps.toList))) H
 | .LtE,.str i,.str j=>Q (.bl (!decide (j.cps.toList<i.cps.toList))) H
 | .In,.str i,.str j=>Q (.bl (!(OP j i 0 j.length 1).isEmpty)) H
 | .NotIn,.str i,.str j=>Q (.bl (!(!(OP j i 0 j.length 1).isEmpty))) H
 | .In,x,.ref p=>wo K false x (.ref p) H Q
 | .NotIn,x,.ref p=>wo K true x (.ref p) H Q
 | .Is,x,.non=>Q (.bl (decide (x=.non))) H
 | .IsNot,x,.non=>Q (.bl (!decide (x=.non))) H
 |_,_,_=>False
theorem kH(op:Po)(hu:X.A.units+20<Pf):jb X (OC op) (aV X.K op):=by
 intro gV s σ H x y v u Q I rx ry h;unfold aV at h;split at h
 .exact Ib hu gV s σ H _ _ v u Q I rx ry h
 .exact HW hu gV s σ H _ _ v u Q I rx ry h
 .split at h
  .rename_i k e;obtain⟨h1,h2⟩:=tm e;exact LM gV s σ H _ _ v u Q I rx ry ⟨h1,by rw[h2];exact h⟩
  .exact h.elim
 .split at h
  .rename_i k e;obtain⟨h1,h2⟩:=tm e;exact LH gV s σ H _ _ v u Q I rx ry ⟨h1,by rw[h2];exact h⟩
  .exact h.elim
 .exact LI gV s σ H _ _ v u Q I rx ry ⟨_,_,rfl,rfl,h⟩
 .exact LJ gV s σ H _ _ v u Q I rx ry ⟨_,_,rfl,rfl,h⟩
 .exact LK gV s σ H _ _ v u Q I rx ry ⟨_,_,rfl,rfl,h⟩
 .exact LL gV s σ H _ _ v u Q I rx ry ⟨_,_,rfl,rfl,h⟩
 .exact xW gV s σ H _ _ v u Q I rx ry ⟨_,_,rfl,rfl,h⟩
 .exact xX gV s σ H _ _ v u Q I rx ry ⟨_,_,rfl,rfl,h⟩
 .exact xY gV s σ H _ _ v u Q I rx ry ⟨_,_,rfl,rfl,h⟩
 .exact pZ gV s σ H _ _ v u Q I rx ry ⟨_,_,rfl,rfl,h⟩
 .exact xZ gV s σ H _ _ v u Q I rx ry h
 .exact qb gV s σ H _ _ v u Q I rx ry h
 .exact HZ gV s σ H _ _ v u Q I rx ry ⟨rfl,h⟩
 .exact Cm gV s σ H _ _ v u Q I rx ry ⟨rfl,h⟩
 .exact h.elim
def eF(i:Nat):TE:=λσ H Q=>match σ[i]? with|some (some v)=>Q v H|_=>False
theorem cv(i:Nat){x:Str}{pos:Qa}(hN:X.N[i]? =some x:=by rfl)(hv:MN X.env.scope x:=by first|exact Or.inl rfl|exact Or.inr (Or.inl rfl)|exact Or.inr (Or.inr rfl))(hd:(x == ("__debug__":Str))=false:=by decide)(hcd:(x == ("__classdict__":Str))=false:=by decide):PE X (.Name x pos) (eF i):=(HS hN hv hd hcd).imp λσ H Q h=>by
 unfold eF at h;split at h
 .rename_i v e;exact⟨v,e,h⟩
 .exact h.elim
def nK(op:RD)(ta tb:TE):TE:=λσ H Q=>ta σ H λx H1=>tb σ H1 λy H2=>j6 op x y H2 Q
theorem am{op:RD}(ha:PE X a ta)(hb:PE X b tb):PE X (.BinOp a op b pos) (nK op ta tb):=LC (Ie op) ha hb
def eY(K:Frag)(op:Po)(ta tb:TE):TE:=λσ H Q=>ta σ H λx H1=>tb σ H1 λy H2=>aV K op x y H2 Q
def dw(Q:Bool->Hp->Prop):VK:=λx H=>match x with| .bl k=>Q k H|_=>False
theorem dQ{Q:Bool->Hp->Prop}{x:V}{H:Hp}(h:dw Q x H):∃k,x=.bl k/\Q k H:=by
 unfold dw at h;split at h
 .exact⟨_,rfl,h⟩
 .exact h.elim
theorem IW{op:Po}(hu:X.A.units+20<Pf)(ha:PE X a ta)(hb:PE X b tb)(hm:behindInMarks op b=false:=by first|exact mH _|with_unfolding_all rfl):PE X (.Compare a [op] [b] pos) (eY X.K op ta tb):=Ci (kH op hu) ha hb hm
def fX(t:TE):TT:=λσ H Q=>t σ H (dw Q)
theorem IS{op:Po}(hu:X.A.units+20<Pf)(ha:PE X a ta)(hb:PE X b tb)(hm:behindInMarks op b=false:=by first|exact mH _|with_unfolding_all rfl):PT X (.Compare a [op] [b] pos) (fX (eY X.K op ta tb)):=by
 intro gV s σ H Q I h;refine Q5 (bM (ha gV s σ H _ I h) λv s1 ⟨x,H1,I1,r1,q1⟩=>bM (hb gV s1 σ H1 _ I1 q1) λu s2 ⟨y,H2,I2,r2,q2⟩=>
  bM (kH op hu gV s2 σ H2 x y v u _ I2 r1 r2 q2) λc s3 ⟨z,H3,I3,r3,q3⟩=>?_) hm
 obtain⟨k,e,q3⟩:=dQ q3;subst e;cases r3;exact OA ⟨H3,I3,q3⟩
def kS(K:Frag)(op op':Po)(ta tb tc:TE):TE:=λσ H Q=>ta σ H λx H1=>tb σ H1 λy H2=>aV K op x y H2 (dw λk H3=>if k=true then tc σ H3 λw' H4=>aV K op' y w' H4 Q else Q (.bl false) H3)
theorem Bo{op op':Po}(hu:X.A.units+20<Pf)(ha:PE X a ta)(hb:PE X b tb)(hc:PE X c tc)(hm:RJ [op,op'] [b,c]=false:=by with_unfolding_all rfl):PE X (.Compare a [op,op'] [b,c] pos) (kS X.K op op' ta tb tc):=by
 intro gV s σ H Q I h;refine Compare_chain (bM (ha gV s σ H _ I h) λv s1 ⟨x,H1,I1,r1,q1⟩=>chain_link (bM (hb gV s1 σ H1 _ I1 q1) λu s2 ⟨y,H2,I2,r2,q2⟩=>
  bM (kH op hu gV s2 σ H2 x y v u _ I2 r1 r2 q2) λd s3 ⟨z,H3,I3,r3,q3⟩=>?_)) hm
 obtain⟨k,e,q3⟩:=dQ q3;subst e;cases r3;refine OA ?_;cases k with
 |false=>exact ite_ff ⟨.bl false,H3,I3,rfl,q3⟩
 |true=>exact ite_tt (chain_last (bM (hc gV s3 σ H3 _ I3 q3) λw' s4 ⟨z',H4,I4,r4,q4⟩=>kH op' hu gV s4 σ H4 y z' u w' Q I4 r2 r4 q4))
def j4(K:Frag)(op op':Po)(ta tb tc:TE):TT:=λσ H Q=>ta σ H λx H1=>tb σ H1 λy H2=>aV K op x y H2 (dw λk H3=>if k=true then tc σ H3 λw' H4=>aV K op' y w' H4 (dw Q)else Q false H3)
theorem Bj{op op':Po}(hu:X.A.units+20<Pf)(ha:PE X a ta)(hb:PE X b tb)(hc:PE X c tc)(hm:RJ [op,op'] [b,c]=false:=by with_unfolding_all rfl):PT X (.Compare a [op,op'] [b,c] pos) (j4 X.K op op' ta tb tc):=by
 intro gV s σ H Q I h;refine isTrue_chain (bM (ha gV s σ H _ I h) λv s1 ⟨x,H1,I1,r1,q1⟩=>test_link (bM (hb gV s1 σ H1 _ I1 q1) λu s2 ⟨y,H2,I2,r2,q2⟩=>
  bM (kH op hu gV s2 σ H2 x y v u _ I2 r1 r2 q2) λd s3 ⟨z,H3,I3,r3,q3⟩=>?_)) hm
 obtain⟨k,e,q3⟩:=dQ q3;subst e;cases r3;refine OA ?_;cases k with
 |false=>exact ite_ff ⟨H3,I3,q3⟩
 |true=>
  refine ite_tt (test_last (bM (hc gV s3 σ H3 _ I3 q3) λw' s4 ⟨z',H4,I4,r4,q4⟩=>bM (kH op' hu gV s4 σ H4 y z' u w' _ I4 r2 r4 q4) λd' s5 ⟨z2,H5,I5,r5,q5⟩=>?_));obtain⟨k2,e2,q5⟩:=dQ q5;subst e2;cases r5;exact OA ⟨H5,I5,q5⟩
theorem bG{e:Ol}{t:TE}(h:PE X e t)(he:∀whole,isTrue e X.env whole=(do let v<-whole;standAt e.pos;QU [v] (truthy v)):=by intro _;rfl):PT X e (fX t):=by intro gV s σ H Q I hw;refine isTrue_plain (bM (h gV s σ H _ I hw) λv s1 ⟨x,H1,I1,r1,q1⟩=>?_) (he _);obtain⟨d,rfl,q⟩:=dQ q1;cases r1;exact OA ⟨H1,I1,q⟩
variable{rest:List Ol}
def tL(ta tb:TE):TE:=λσ H Q=>ta σ H (dw λc H1=>if c=true then tb σ H1 Q else Q (.bl false) H1)
def C6(ta tb:TE):TE:=λσ H Q=>ta σ H (dw λc H1=>if c=true then Q (.bl true) H1 else tb σ H1 Q)
def xa(ta:TE):TE:=λσ H Q=>ta σ H (dw λc H1=>Q (.bl (!c)) H1)
theorem dP(ha:PE X a ta)(hb:PE X (.BoolOp .And (b::rest) pos) tb):PE X (.BoolOp .And (a::b::rest) pos) (tL ta tb):=by
 intro gV s σ H Q I h;refine BoolOp_and (bM (ha gV s σ H _ I h) λv s1 ⟨x,H1,I1,r1,q1⟩=>?_);obtain⟨c,rfl,q1⟩:=dQ q1;cases r1;refine OA ?_;cases c with
 |true=>exact hb gV s1 σ H1 Q I1 q1
 |false=>exact⟨.bl false,H1,I1,rfl,q1⟩
theorem Mp(ha:PE X a ta)(hb:PE X (.BoolOp .Or (b::rest) pos) tb):PE X (.BoolOp .Or (a::b::rest) pos) (C6 ta tb):=by
 intro gV s σ H Q I h;refine BoolOp_or (bM (ha gV s σ H _ I h) λv s1 ⟨x,H1,I1,r1,q1⟩=>?_);obtain⟨c,rfl,q1⟩:=dQ q1;cases r1;refine OA ?_;cases c with
 |false=>exact hb gV s1 σ H1 Q I1 q1
 |true=>exact⟨.bl true,H1,I1,rfl,q1⟩
theorem IU(ha:PE X a ta):PE X (.UnaryOp .Not a pos) (xa ta):=by intro gV s σ H Q I h;refine UnaryOp_ (bM (ha gV s σ H _ I h) λv s1 ⟨x,H1,I1,r1,q1⟩=>?_);obtain⟨c,rfl,q1⟩:=dQ q1;cases r1;exact not_of (OA ⟨.bl (!c),H1,I1,rfl,q1⟩)
def C7(ta:TE):TE:=λσ H Q=>ta σ H λx H1=>match x with| .int i=>Q (.int (-i)) H1|_=>False
theorem qK(ha:PE X a ta):PE X (.UnaryOp .USub a pos) (C7 ta):=by
 intro gV s σ H Q I h;refine UnaryOp_ (bM (ha gV s σ H _ I h) λv s1 ⟨x,H1,I1,r1,q1⟩=>?_);cases x with
 |int i=>exact Hj gV s1 σ H1 _ v Q I1 r1 ⟨i,rfl,q1⟩
 |_=>exact q1.elim
end
theorem bP:Oh "len"=some (.builtin "len"):=by decide+kernel
theorem m8:Oh "all"=some (.builtin "all"):=by decide+kernel
theorem IZ:Oh "any"=some (.builtin "any"):=by decide+kernel
theorem nM:Oh "isinstance"=some (.builtin "isinstance"):=by decide+kernel
theorem kT:Oh "sorted"=some (.builtin "sorted"):=by decide+kernel
theorem vL:Oh "int"=some (.type "int"):=by decide+kernel
theorem Db:Oh "bool"=some (.type "bool"):=by decide+kernel
theorem qR:Oh "str"=some (.type "str"):=by decide+kernel
theorem ja:Oh "list"=some (.type "list"):=by decide+kernel
theorem Bt:Oh "tuple"=some (.type "tuple"):=by decide+kernel
theorem xf:Oh "dict"=some (.type "dict"):=by decide+kernel
theorem qS:Oh "set"=some (.type "set"):=by decide+kernel
theorem tN:Oh "reversed"=some (.type "reversed"):=by decide+kernel
theorem qT:Oh "enumerate"=some (.type "enumerate"):=by decide+kernel
theorem IY:Oh "zip"=some (.type "zip"):=by decide+kernel
inductive BT|int|bool|str|list|tuple|dict
 deriving DecidableEq
def BT.s:BT->String
 | .int=>"int" | .bool=>"bool" | .str=>"str" | .list=>"list" | .tuple=>"tuple" | .dict=>"dict"
def dN:BT->BT->Bool
 | .bool,.int=>true
 | .int,.int=>true| .bool,.bool=>true| .str,.str=>true| .list,.list=>true| .tuple,.tuple=>true| .dict,.dict=>true
 |_,_=>false
theorem kit_bt(K:Frag)(a T:BT):Vj K (.type a.s) (.type T.s)=some (dN a T):=by cases a<;>cases T<;>kernel_rfl
theorem CG(K:Frag)(T:BT):Vj K (.type "NoneType") (.type T.s)=some false:=by cases T<;>kernel_rfl
def wJ(T:BT)(x:V)(H:Hp)(Q:VK):Prop:=match x with
 | .non=>Q (.bl false) H
 | .bl _=>Q (.bl (dN .bool T)) H
 | .int _=>Q (.bl (dN .int T)) H
 | .str _=>Q (.bl (dN .str T)) H
 | .ref a=>match H a with
   |some (.lst _)=>Q (.bl (dN .list T)) H
   |some (.frz _ (.lst _))=>Q (.bl (dN .list T)) H
   |some (.tup _)=>Q (.bl (dN .tuple T)) H
   |some (.dK _)=>Q (.bl (dN .dict T)) H
   |_=>False
 |_=>False
section
variable{X:Cx}{a b c e o:Ol}{ta tb tc te to:TE}{p p2 pos:Qa}{es:List Ol}{t:TA}
theorem LY(T:BT){gV:NZ}{s:N3}{σ:St}{H:Hp}{x:V}{u:VA}{Q:VK}(I:aK X gV σ H s)(rx:aQ x u)(h:wJ T x H Q):N8 (Od X.prog X.w) X.A (call (.builtin "isinstance") [u,.type T.s]) (EP X gV σ Q) X.xe s:=by
 have fin:∀{k:Bool}{tv:VA},kU X.K H x tv->Vj X.K tv (.type T.s)=some k->Q (.bl k) H->N8 (Od X.prog X.w) X.A (call (.builtin "isinstance") [u,.type T.s]) (EP X gV σ Q) X.xe s:=λty e q=>
  yo I rx ty e λtk=>⟨.bl _,H,I.tok tk,rfl,q⟩
 unfold wJ at h;cases x with
 |non=>exact fin .non (CG _ T) h
 |bl y=>exact fin (.bl y) (kit_bt _ .bool T) h
 |int y=>exact fin (.int y) (kit_bt _ .int T) h
 |str y=>exact fin (.str y) (kit_bt _ .str T) h
 |ref d=>
  dsimp only at h;split at h
  .rename_i e;exact fin (.lst e) (kit_bt _ .list T) h
  .rename_i e;exact fin (.frz e) (kit_bt _ .list T) h
  .rename_i e;exact fin (.tup e) (kit_bt _ .tuple T) h
  .rename_i e;exact fin (.dK e) (kit_bt _ .dict T) h
  .exact h.elim
 |_=>exact h.elim
def Jv(T:BT)(ta:TE):TE:=λσ H Q=>ta σ H λx H1=>wJ T x H1 Q
theorem Mr(T:BT){n:Str}(ha:PE X a ta)(hg:Gl X "isinstance")(hm:X.mg "isinstance"=none)(hgT:Gl X n)(hmT:X.mg n=none)(hv:Oh n=some (.type T.s))(hn:n≠"__name__":=by decide)(hdb:(n == ("__debug__":Str))=false:=by decide)(he:N6 [a,.Name n p2] X.env=(false,Ow a X.env)::N6 [.Name n p2] X.env:=by rfl)(he2:N6 [.Name n p2] X.env=(false,Ow (.Name n p2) X.env)::N6 [] X.env:=by rfl)(hpl:(Ot pos (N6 [.Name n p2] X.env)).any (·.1)=false:=by rfl):PE X (.Call (.Name "isinstance" p) [a,.Name n p2] [] pos) (Jv T ta):=by
 intro gV s σ H Q I h;refine O7 (iH I hg hm nM ?_ (by decide) (by decide));have hA:PA X [a,.Name n p2] (bo ta (bo (tC (.ty T.s)) cL)):=pa_cons ha (pa_cons (Ck hgT hmT hv rfl hn hdb) pan he2) he;refine PyProof.Rows.callWith_builtin1 (bM (hA pos gV s σ H (λvs H1=>∃x,vs=[x,.ty T.s]/\wJ T x H1 Q) I ?_) λus s1 ⟨vs,H1,I1,r1,x,e,q1⟩=>?_) he hpl
 .have mono:(λ(x:V) H1=>wJ T x H1 Q)=λx H1=>(bo (tC (.ty T.s)) cL) σ H1 λxs H2=>∃y,x::xs=[y,.ty T.s]/\wJ T y H2 Q:=by
   funext x H1;apply propext
   constructor
   .intro q;exact⟨x,rfl,q⟩
   .rintro⟨y,e,q⟩;have:x=y:=by injection e
    subst this;exact q
  show ta σ H _;rw[<-mono];exact h
 .subst e;obtain⟨u,w',rfl,ru,rt⟩:=Gp r1;cases rt;exact LY T I1 ru q1
theorem xj.imp{r r':R2}(h:xj X r)(i:∀x y H Q,r' x y H Q->r x y H Q):xj X r':=λva sl gV s σ H x y v u Q I rx ry q hs=>h va sl gV s σ H x y v u Q I rx ry (i x y H Q q) hs
def Jt(K:Frag)(x y:V)(H:Hp)(Q:VK):Prop:=match x,y with
 | .str z,.int i=>z.length<=v1/\∃c,jn z.cps.toList i=some c/\Q (.str ⟨#[c]⟩) H
 | .ref q,.int i=>∃xs v,(aN K H q xs\/cJ K H q xs)/\jn xs i=some v/\Q v H
 |_,_=>False
theorem Nz:xj X (Jt X.K):=(IA (X:=X)).imp λx y H Q h=>by
 unfold Jt at h;split at h
 .obtain⟨h1,c,h2,q⟩:=h;exact .inr (.inr ⟨_,_,c,rfl,rfl,h1,h2,q⟩)
 .obtain⟨xs,v,h1,h2,q⟩:=h
  rcases h1 with h1|h1
  .exact .inl ⟨_,xs,_,v,rfl,rfl,h1,h2,q⟩
  .exact .inr (.inl ⟨_,xs,_,v,rfl,rfl,h1,h2,q⟩)
 .exact h.elim
def tK(K:Frag)(ta tb:TE):TE:=λσ H Q=>ta σ H λx H1=>tb σ H1 λy H2=>Jt K x y H2 Q
theorem Mq(ha:PE X a ta)(hb:PE X b tb)(hs:qV b:=by exact λ_ _=>rfl):PE X (.Subscript a b pos) (tK X.K ta tb):=LD Nz ha hb hs
def w9(t:TE):TO:=λσ H Q=>t σ H λx H1=>match x with| .int i=>Q (some i) H1|_=>False
theorem eJ(h:PE X e te):PO X (some e) (w9 te):=by
 intro gV s σ H Q I hw;rw[evalPart_some];refine bM (h gV s σ H _ I hw) λu s1 ⟨x,H1,I1,r1,q1⟩=>?_;cases x with
 |int i=>
  obtain⟨t,rfl⟩:=r1;exact⟨some i,H1,I1,.int i t,q1⟩
 |_=>exact q1.elim
theorem y0.imp{r r':V->Option Int->Option Int->Hp->VK->Prop}(h:y0 X r)(i:∀x lo hi H Q,r' x lo hi H Q->r x lo hi H Q):y0 X r':=λgV s σ H x v vl vu lo hi sl Q I rx hs pl pu q=>h gV s σ H x v vl vu lo hi sl Q I rx hs pl pu (i x lo hi H Q q)
def Jr(K:Frag)(x:V)(lo hi:Option Int)(H:Hp)(Q:VK):Prop:=match x with
 | .str z=>z.length<=v1/\Q (.str (jB z lo hi)) H
 | .ref d=>∃xs,aN K H d xs/\∀q,H q=none->Q (.ref q) (upd H q (.lst (fu xs lo hi)))
 |_=>False
theorem Nn:y0 X (Jr X.K):=((Hy (X:=X)).or BZ).imp λx lo hi H Q h=>by
 unfold Jr at h;split at h
 .exact .inl ⟨_,rfl,h.1,h.2⟩
 .obtain⟨xs,h1,h2⟩:=h;exact .inr ⟨_,xs,rfl,h1,h2⟩
 .exact h.elim
def Ju(K:Frag)(te:TE)(tl th:TO):TE:=λσ H Q=>te σ H λx H1=>tl σ H1 λl H2=>th σ H2 λu H3=>Jr K x l u H3 Q
theorem Mo{lo hi:Option Ol}{tl th:TO}(he:PE X e te)(hl:PO X lo tl)(hu:PO X hi th):PE X (.Subscript e (.Slice lo hi none p2) pos) (Ju X.K te tl th):=Aj Nn he hl hu
def cB(r:List V->Hp->VK->Prop)(t:TA):TE:=λσ H Q=>t σ H λvs H1=>r vs H1 Q
def sT(K:Frag)(xs:List V)(H:Hp)(Q:VK):Prop:=match xs with
 | [.str z]=>z.length<=v1/\Q (.int z.length) H
 | [.ref d]=>∃ys,(aN K H d ys\/cJ K H d ys)/\Q (.int ys.length) H
 |_=>False
theorem yM:bf X (.builtin "len") (sT X.K):=((qP (X:=X)).or qO).imp λxs H Q h=>by
 unfold sT at h;split at h
 .exact .inr ⟨_,rfl,h.1,h.2⟩
 .obtain⟨ys,h1,h2⟩:=h;exact .inl ⟨_,ys,rfl,h1,h2⟩
 .exact h.elim
def LO(xs:List V)(H:Hp)(Q:VK):Prop:=match xs with
 | [.int i,.int j]=>Q (.int (if j<i then j else i)) H
 |_=>False
def BS(xs:List V)(H:Hp)(Q:VK):Prop:=match xs with
 | [.int i]=>i.natAbs.log2<1920/\Q (.str (toString i)) H
 |_=>False
theorem yJ:bf X (.type "str") BS:=(qM (X:=X)).imp λxs H Q h=>by
 unfold BS at h;split at h
 .exact⟨_,rfl,h.1,h.2⟩
 .exact h.elim
def yq(xs:List V)(H:Hp)(Q:VK):Prop:=match xs with
 | [.str x]=>∃n,PySem.intText? x=some n/\x.length<=640/\Q (.int n) H
 | [.bl k]=>Q (.int (if k then 1 else 0)) H
 |_=>False
theorem oG:bf X (.type "int") yq:=((nJ (X:=X)).or yN).imp λxs H Q h=>by
 unfold yq at h;split at h
 .obtain⟨n,h1,h2,q⟩:=h;exact .inl ⟨_,n,rfl,h1,h2,q⟩
 .exact .inr (.inr ⟨_,rfl,h⟩)
 .exact h.elim
def Dk(K:Frag)(xs:List V)(H:Hp)(Q:VK):Prop:=match xs with
 | [.ref d]=>∃ks:List Bool,aN K H d (ks.map V.bl)/\Q (.bl (ks.all id)) H
 |_=>False
theorem yQ(hc:X.calm=true):bf X (.builtin "all") (Dk X.K):=(Bp hc).imp λxs H Q h=>by
 unfold Dk at h;split at h
 .obtain⟨ks,h1,q⟩:=h;exact⟨_,ks,rfl,h1,q⟩
 .exact h.elim
theorem NE{id:String}{x:Str}{r:List V->Hp->VK->Prop}(hc:bf X (.builtin id) r)(hv:Oh x=some (.builtin id))(hm:X.mg x=none)(ha:PA X (e::es) t)(hg:Gl X x:=by rfl)(hn:x≠"__name__":=by decide)(hdb:(x == ("__debug__":Str))=false:=by decide)(he:N6 (e::es) X.env=(false,Ow e X.env)::N6 es X.env:=by rfl)(hpl:(Ot pos (N6 es X.env)).any (·.1)=false:=by rfl):PE X (.Call (.Name x p) (e::es) [] pos) (cB r t):=Al hc hg hm hv ha hn hdb he hpl
theorem G3{T:String}{x:Str}{r:List V->Hp->VK->Prop}(hc:bf X (.type T) r)(hv:Oh x=some (.type T))(hm:X.mg x=none)(ha:PA X (e::es) t)(hg:Gl X x:=by rfl)(hn:x≠"__name__":=by decide)(hdb:(x == ("__debug__":Str))=false:=by decide)(he:N6 (e::es) X.env=(false,Ow e X.env)::N6 es X.env:=by rfl)(hpl:(Ot pos (N6 es X.env)).any (·.1)=false:=by rfl):PE X (.Call (.Name x p) (e::es) [] pos) (cB r t):=xU hc hg hm hv ha hn hdb he hpl
def Ms(r:V->List V->Hp->VK->Prop)(to:TE)(t:TA):TE:=λσ H Q=>to σ H λx H1=>match x with| .str z=>t σ H1 λxs H2=>r (.str z) xs H2 Q|_=>False
theorem Mn{name:Str}{apos cpos:Qa}{id:String}{r:V->List V->Hp->VK->Prop}(slot:Slot "str" name id)(hty:typeOf (.builtin id)=pure (.type "method_descriptor"))(hm:qX X id r)(ho:PE X o to)(ha:PA X (e::es) t)(hbase:OE o name X.env (Ow o X.env)=Ow o X.env:=by rfl)(hfew:((Ot cpos (N6 (e::es) X.env)).all (λx=> !x.1)&&(P4 cpos (Pe [] X.env)).all (λx=>x.1.isSome)
   &&decide ((e::es).length+([]:List Pg).length+(if([]:List Pg).isEmpty then 0 else 1)<30))=true:=by rfl) (hline:(apos.endLine == cpos.line)=true:=by rfl) (hs:N6 (e::es) X.env=(false,Ow e X.env)::N6 es X.env:=by rfl) (hplain:(Ot cpos (N6 es X.env)).any (·.1)=false:=by rfl):PE X (.Call (.Attribute o name apos) (e::es) [] cpos) (Ms r to t):=by
 intro gV s σ H Q I h;refine OQ hbase hfew hline rfl (bM (ho gV s σ H _ I h) λv s1 ⟨x,H1,I1,r1,q1⟩=>?_);cases x with
 |str z=>
  have ty:Gq X.K "str" (.str z) H1:=rfl;obtain⟨h1,h2⟩:=jq I1 r1 ty;refine⟨"str",id,PySem.F.plainAttrs_str,slot,hty,h1,h2,?_⟩;have hA:=ha cpos gV s1 σ H1 _ I1 q1;rw[hs]at hA ⊢;refine OJ (by show(false||(Ot cpos (N6 es X.env)).any (·.1))=false;rw[hplain]<;>rfl) (OW ?_)
  exact bM hA λus s2 ⟨vs,H2,I2,r2,q2⟩=>hm gV s2 σ H2 _ vs v us Q I2 r1 r2 q2
 |_=>exact q1.elim
def yR(r:V->List V->Hp->VK->Prop)(to:TE):TE:=λσ H Q=>to σ H λx H1=>match x with| .str z=>r (.str z) [] H1 Q|_=>False
theorem kP{name:Str}{apos cpos:Qa}{id:String}{r:V->List V->Hp->VK->Prop}(slot:Slot "str" name id)(hty:typeOf (.builtin id)=pure (.type "method_descriptor"))(hm:qX X id r)(ho:PE X o to)(hbase:OE o name X.env (Ow o X.env)=Ow o X.env:=by rfl)(hline:(apos.endLine == cpos.line)=true:=by rfl):PE X (.Call (.Attribute o name apos) [] [] cpos) (yR r to):=by
 intro gV s σ H Q I h;refine wpAny_Call_method0_late hbase hline (bM (ho gV s σ H _ I h) λv s1 ⟨x,H1,I1,r1,q1⟩=>?_);cases x with
 |str z=>
  have ty:Gq X.K "str" (.str z) H1:=rfl;obtain⟨h1,h2⟩:=jq I1 r1 ty;exact⟨"str",id,PySem.F.plainAttrs_str,slot,hty,h1,h2,OJ rfl (PySem.evalArgs_none (hm gV s1 σ H1 _ [] v [] Q I1 r1 .nil q1))⟩
 |_=>exact q1.elim
def swA(x:V)(vs:List V)(H:Hp)(Q:VK):Prop:=match x,vs with
 | .str a,[.str b]=>Q (.bl (b.cps.toList.isPrefixOf a.cps.toList)) H
 |_,_=>False
def oz(K:Frag)(x:V)(vs:List V)(H:Hp)(Q:VK):Prop:=match x,vs with
 | .str sep,[.ref d]=>∃ys:List Str,aN K H d (ys.map V.str)/\(ys.map (·.length)).sum+ys.length*sep.length<=16777216/\Q (.str (P5 sep ys)) H
 |_,_=>False
theorem Aw:qX X "str.join" (oz X.K):=(Cy (X:=X)).imp λx vs H Q h=>by
 unfold oz at h;split at h
 .obtain⟨ys,h1,h2,q⟩:=h;exact⟨_,_,ys,rfl,rfl,h1,h2,q⟩
 .exact h.elim
def Jp(x:V)(vs:List V)(H:Hp)(Q:VK):Prop:=match x,vs with
 | .str a,[]=>a.length<=v1/\(∀c∈a.cps.toList,c<128)/\Q (.str ⟨a.cps.map up1⟩) H
 |_,_=>False
theorem uY:qX X "str.upper" Jp:=(At (X:=X)).imp λx vs H Q h=>by
 unfold Jp at h;split at h
 .exact⟨_,rfl,rfl,h.1,h.2.1,h.2.2⟩
 .exact h.elim
def Bs(to te:TE):TE:=λσ H Q=>to σ H λx H1=>match x with
 | .ref l=>(∃xs,H1 l=some (.lst xs))/\te σ H1 λy H2=>∃xs,H2 l=some (.lst xs)/\xs.length<v1/\Q .non (upd H2 l (.lst (xs++[y])))
 |_=>False
theorem jD{apos cpos:Qa}(ho:PE X o to)(he:PE X e te)(hbase:OE o "append" X.env (Ow o X.env)=Ow o X.env:=by rfl)(hfew:((Ot cpos (N6 [e] X.env)).all (λx=> !x.1)&&(P4 cpos (Pe [] X.env)).all (λx=>x.1.isSome)
   &&decide ([e].length+([]:List Pg).length+(if([]:List Pg).isEmpty then 0 else 1)<30))=true:=by rfl) (hline:(apos.endLine == cpos.line)=true:=by rfl) (hs:N6 [e] X.env=(false,Ow e X.env)::N6 [] X.env:=by rfl) (hplain:(Ot cpos (N6 [] X.env)).any (·.1)=false:=by rfl):PE X (.Call (.Attribute o "append" apos) [e] [] cpos) (Bs to te):=by
 intro gV s σ H Q I h;refine OQ hbase hfew hline rfl (bM (ho gV s σ H _ I h) λv s1 ⟨x,H1,I1,r1,q1⟩=>?_);cases x with
 |ref l=>
  obtain⟨⟨xs0,e0⟩,q1⟩:=q1;have ty:Gq X.K "list" (.ref l) H1:=.inl ⟨rfl,xs0,aN.of e0⟩;obtain⟨h1,h2⟩:=jq I1 r1 ty;refine⟨"list","list.append",PySem.F.plainAttrs_list,PySem.F.slot_list_append,PySem.F.type_list_append,h1,h2,?_⟩;have hA:=(pa_cons he pan hs:PA X [e] (bo te cL)) cpos gV s1 σ H1 (λvs H2=>∃y,vs=[y]/\∃xs,H2 l=some (.lst xs)/\xs.length<v1/\Q .non (upd H2 l (.lst (xs++[y])))) I1 (by
   show te σ H1 λy H2=>∃y',[y]=[y']/\_;have:(λ(y:V)(H2:Hp)=>∃xs,H2 l=some (.lst xs)/\xs.length<v1/\Q .non (upd H2 l (.lst (xs++[y]))))=λy H2=>∃y',[y]=[y']/\∃xs,H2 l=some (.lst xs)/\xs.length<v1/\Q .non (upd H2 l (.lst (xs++[y']))):=by
    funext y H2;apply propext
    constructor
    .intro z;exact⟨y,rfl,z⟩
    .rintro⟨y',e,z⟩;have:y=y':=by injection e
     subst this;exact z
   rw[<-this];exact q1)
  rw[hs]at hA ⊢;refine OJ (by show(false||(Ot cpos (N6 [] X.env)).any (·.1))=false;rw[hplain]<;>rfl) (OW ?_)
  exact bM hA λus s2 ⟨vs,H2,I2,r2,y,e,xs,q3,q4,q5⟩=>yf gV s2 σ H2 _ vs v us Q I2 r1 r2 ⟨l,xs,y,rfl,e,q3,q4,q5⟩
 |_=>exact q1.elim
structure cy(P:N5)(w:N9)(K:Frag)(mg:NX)(np:Oe)(name:Str)(ps:List Str)(k:Nat)(sp:Sp):Prop where
 ex:∃f fd,aY P w K mg np cK k f fd ps sp/\mg name=some (.ref f)/\Vc K (.ref f)=true/\jp K fd ps []
def eA(sp:Sp)(t:TA):TE:=λσ H Q=>t σ H λvs H1=>sp vs H1 Q E0
theorem C5{name:Str}{ps:List Str}{k j:Nat}{sp:Sp}(C:cy X.prog X.w X.K X.mg X.np name ps k sp)(hr:cY j X.A)(hkj:k<=j)(ha:PA X (e::es) t)(hg:Gl X name:=by rfl)(hdb:(name == ("__debug__":Str))=false:=by decide)(he:N6 (e::es) X.env=(false,Ow e X.env)::N6 es X.env:=by rfl)(hpl:(Ot pos (N6 es X.env)).any (·.1)=false:=by rfl):PE X (.Call (.Name name p) (e::es) [] pos) (eA sp t):=by obtain⟨f,fd,F,hm,hk,hb⟩:=C.ex;refine(Cj F (hr.mono hkj) hg hm hk hb .nil Am ha hdb he hpl:PE X _ (zp sp [] E0 t)).imp λσ H Q h=>?_;unfold zp;simp only[Sw];exact h
end
end L2
namespace PySem
namespace F
theorem nolen_lriQ:Qq (.type "list_reverseiterator") "__len__"=pure none:=by rw[Pq,OS];kernel_rfl
theorem hint_lriQ:Qq (.type "list_reverseiterator") "__length_hint__"=pure (some (.builtin "list_reverseiterator.__length_hint__")):=by rw[Pq,OS];kernel_rfl
end F
end PySem
namespace L2
open PySem PySem.Spec PyProof.Rows
section
variable{prog:N5}{w:N9}{A:Oi}{E:NY}{s:N3}
theorem ua(hh:A.handled=none)(I l:VB)(hne:l≠I)(items:Array VA):WalksS prog w A I [I,l] [I] (λa b=>a=b) items.size (λi v=>items[items.size - 1 - i]? =some v) (λi s=>i<=items.size/\s.heap.IsRevIter I l ((items.size:Int) - 1 - (i:Int))/\s.heap.IsList l items) where
 sub:=λb hb=>by simp at hb;simp[hb]
 grefl:=λ_=>rfl
 gtrans:=λ_ _ _ a b=>a.trans b
 frame:=λ_ _ _ _ x _ hk=>⟨x.1,x.2.1.at λo e=>hk I (by simp) o e,x.2.2.at λo e=>hk l (by simp) o e⟩
 item:=λi s Q E hi x hQ=>by
  have e:(items.size:Int) - 1 - (i:Int)=((items.size - 1 - i:Nat):Int):=by omega
  have hit:=x.2.1;rw[e]at hit;have hx:items[items.size - 1 - i]? =some (items[items.size - 1 - i]'(by omega)):=UQ (by omega);refine wpAny_pyNext_rev_item hit x.2.2 hx λh' hit' hs'=>?_;have e2:((items.size - 1 - i:Nat):Int) - 1=(items.size:Int) - 1 - ((i+1:Nat):Int):=by omega
  rw[e2]at hit';exact hQ _ _ hx ⟨hi,hit',x.2.2.at λo eo=>(hs'.2 l hne).trans eo⟩ ⟨λb o hb eo=>hs'.extBut b o (λh=>hb (by simp[h])) eo,rfl,rfl,rfl,TX _⟩
 done:=λs Q E x hQ=>by
   have e:(items.size:Int) - 1 - (items.size:Int)= -1:=by omega
   have hit:=x.2.1;rw[e]at hit;exact wpAny_pyNext_rev_end hh hit λh' he'=>hQ _ ⟨λb o hb eo=>he' b o (λh=>hb (by simp[h])) eo,rfl,rfl,rfl,TX _⟩
 self:=λ_ _ _ _ x hQ=>wpAny_pyIter_revIter x.2.1 hQ
theorem tE{I:VB}{fp wr:List VB}{G:Array P8->Array P8->Prop}{n:Nat}{P:Nat->VA->Prop}{St:Nat->N3->Prop}{Q:List VA->N3->Prop}(W:WalksS prog w A.in1 I fp wr G n P St)(hT:∀i s,St i s->s.TypeIs (.ref I) "list_reverseiterator")(hst:St 0 s)(hfp:∀b∈fp,b<s.heap.objs.size)(hI:I∈fp)(hQ:∀s' acc,Moved wr G s s'->ItemsOf P acc n->Q acc.toList s')(hn:n<=v1):N8 (Od prog w) A (RM (.ref I)) Q E s:=by
 have hSf:s.heap.objs.size∉fp:=λhm=>T5 _ (hfp _ hm);have hSI:s.heap.objs.size≠I:=λe=>hSf (e▸hI);unfold RM;refine N0 (Qn (Ou Ra ?_));rw[Om Q9 _];show N8 _ A.in1 (newList [] >>= λl=>again (.builtin "list.__iadd__" ⟨[l,.ref I],[]⟩)) _ _ s;refine N0 (OL ?_);refine N2 ⟨O5 P9 _,Ou F.entry_list_iadd ?_⟩;rw[Om P9 _];have hst₁:=W.frame 0 s (s.heap.push {cls:=.type "list",data:=.seq ([]:List VA).toArray}) s.toks hst (TX _) λb _ o e=>N1 _ e;have hS₁:(s.heap.push {cls:=.type "list",data:=.seq ([]:List VA).toArray}).get? s.heap.objs.size=some {cls:=.type "list",data:=.seq ([]:List VA).toArray}:=N7 _ rfl;have h1:ON (.ref s.heap.objs.size) (.ref I)=false:=by simp[ON,hSI]
 show N8 _ A.in1 (O3 (.ref s.heap.objs.size) (.ref I) (.ref s.heap.objs.size)) _ _ _;unfold O3;refine N0 (Pc (hT 0 _ hst₁) ?_);rw[NQ (by rw[h1];decide)];refine N0 (W.self 0 _ _ _ hst₁ ?_);refine N0 (On ?_);unfold Py;refine N0 (PN (hT 0 _ hst₁) F.nolen_lriQ ?_);show N8 _ A.in1 (specialOf (Of I) (OG "__length_hint__") >>= _) _ _ _;refine N0 (PN (hT 0 _ hst₁) F.hint_lriQ ?_)
 (generalize hid:("list_reverseiterator.__length_hint__":String)=id0;(fail_if_success (clear hid id0));wp_delta;rw[show splitId id0=some ("list_reverseiterator","__length_hint__")from by subst hid;decide+kernel];subst hid)
 refine N0 (Pk (b:=true) (hT 0 _ hst₁) (by rw[Qs];kernel_rfl) ?_);refine N2 ?_;rw[NQ (by decide)];refine N2 ⟨O5 F.plain_extend_loop _,codeAny_extend_loopS W hn _ hSf _ n 0 _ _ _ rfl (TZ _) hst₁ hS₁ (ItemsOf.nil P) λs' acc' c' hm hS' hacc=>?_⟩;show N8 _ A (load s.heap.objs.size >>= _) _ _ s';refine N0 (wpAny_load hS' ?_);exact N2 (hQ s' acc' (Moved.drop_new (o:={cls:=.type "list",data:=.seq ([]:List VA).toArray}) (tk:=s.toks) hm (TX _)) hacc)
theorem lT:∀{l:List (Str×Rt)}{ys:List Str},(∀(i:Nat)(v:VA),(Qm l)[i]? =some v->∃y t,ys[i]? =some y/\v=Ps y t)->l.length=ys.length->l.map (·.1)=ys:=by
 intro l ys h hl;apply SD;intro i;rw[RX]
 by_cases hi:i<l.length
 .have e:(Qm l)[i]? =some (Ps (l[i]).1 (l[i]).2):=by unfold Qm;rw[RX,RU hi];rfl
  obtain⟨y,t,h1,h2⟩:=h i _ e;injection h2 with h3 h4;rw[RU hi,h1,<-h3];rfl
 .rw[Sn (by omega),Sn (by omega)];rfl
theorem AJ{x:Str}{t:Rt}{I l:VB}{its:List VA}{ys:List Str}{Q:NY}(hh:A.handled=none)(hne:l≠I)(hit:s.heap.IsRevIter I l ((its.length:Int) - 1))(hl:s.heap.IsList l its.toArray)(hi:RN its ys)(hsz:its.length<=v1)(hok:JoinOk x ys.reverse=true)(h:∀s' t' k,Moved [I] (λa b=>a=b) s s'->Q (.str (P5 x ys.reverse) t') {s' with toks:=k}):N8 (Od prog w) A (call (.builtin "str.join") [.str x t,.ref I]) Q E s:=by
 have hlen:its.length=ys.length:=hi.length;have W:=ua (prog:=prog) (w:=w) (A:=A.in1.in1) (show A.in1.in1.handled=none from hh) I l hne its.toArray;have hst:0<=its.toArray.size/\s.heap.IsRevIter I l ((its.toArray.size:Int) - 1 - ((0:Nat):Int))/\s.heap.IsList l its.toArray:=⟨TZ _,by simpa using hit,hl⟩;have hfp:∀b∈[I,l],b<s.heap.objs.size:=λb hb=>by
  rcases RV.mp hb with e|hb
  .obtain⟨o,ho,_⟩:=hit;rw[e];exact N4 ho
  .obtain⟨o,ho,_⟩:=hl;rw[R4.mp hb];exact N4 ho
 refine QR (Qe F.slot_str_join.plain F.entry_str_join (F.slot_str_join.check _ _ _ _ _ _ _ _ (Qb _ _ _) (F.args_str_join_2 _ _) ?_));rw[join_tree_other];refine N0 (Pc hit.typeIs ?_);show N8 _ A.in1 ((pyIter (.ref I)).tryCatch _ >>= λit=>RM it >>= λitems=>joinTail x items) _ _ s;refine N0 (wpAny_tryCatch (W.of_in1.self 0 s _ _ hst ?_));refine N0 (tE W (λi s x=>x.2.1.typeIs) hst hfp (by simp) (λs' acc hm hacc=>?_) (by simpa using hsz));obtain⟨l',hl'⟩:=exists_strValues acc.toList λv hv=>by
  obtain⟨j,hj,rfl⟩:=Array.mem_iff_getElem.mp (UX.mp hv);have hP:=hacc.2 j _ (UQ hj);have hP:its[its.length - 1 - j]? =some acc[j]:=by simpa using hP
  have hb:its.length - 1 - j<ys.length:=by have:=(Sd.mp hP).1;omega
  obtain⟨t',e⟩:=hi.get _ _ (RU hb);rw[hP]at e;exact⟨_,t',NV e⟩
 have hmap:l'.map (·.1)=ys.reverse:=by
  refine lT (λi v hv=>?_) ?_
  .rw[hl']at hv;have hv:acc[i]? =some v:=by simpa using hv
   have hP:=hacc.2 i v hv;have hP:its[its.length - 1 - i]? =some v:=by simpa using hP
   have hi2:i<its.length:=by have:=(Array.getElem?_eq_some_iff.mp hv).1;have:=hacc.1;simp at this;omega
   have hb:its.length - 1 - i<ys.length:=by omega
   obtain⟨t',e⟩:=hi.get _ _ (RU hb);rw[hP]at e;refine⟨_,t',?_,NV e⟩;rw[List.getElem?_reverse (by omega)];have e3:ys.length - 1 - i=its.length - 1 - i:=by omega
   rw[e3,RU hb]
  .have h1:(Qm l').length=acc.toList.length:=by rw[hl']
   have h2:(Qm l').length=l'.length:=by unfold Qm;simp
   have h3:=hacc.1;rw[TJ];simp at h1 h3;omega
 rw[<-hl'];have hok':=hok;rw[<-hmap]at hok';unfold JoinOk at hok';rw[UG]at hok';have g:Gives (joinTail x (Qm l')) (joinMade x l'):=by
  have g0:=gives_joinTail x l' hok';cases l' with
  |nil=>exact g0
  |cons p r=>cases r with
   |nil=>exact g0
   |cons q r'=>exact g0
 refine g prog w A (wants Q E) s' (post_join l' ⟨joinFit_length hok',λt' k=>?_⟩);rw[hmap];exact h s' t' k hm
end
section
variable{X:Cx}{o e:Ol}{to te:TE}
def NF(K:Frag)(to te:TE):TE:=λσ H Q=>to σ H λx H1=>match x with
 | .str sep=>te σ H1 λy H2=>match y with
   | .ref d=>∃ys:List Str,aN K H2 d (ys.map V.str)/\(ys.map (·.length)).sum+ys.length*sep.length<=16777216/\Q (.str (P5 sep ys.reverse)) H2
   |_=>False
 |_=>False
theorem q0:∀l:List Nat,l.reverse.sum=l.sum:=by
 intro l
 induction l with
 |nil=>rfl
 |cons a l ih=>rw[List.reverse_cons,List.sum_append,ih];simp;omega
theorem vE{p p2 apos cpos:Qa}(hc:X.calm=true)(ho:PE X o to)(he:PE X e te)(hm:X.mg "reversed"=none)(hg:Gl X "reversed":=by rfl)(hbase:OE o "join" X.env (Ow o X.env)=Ow o X.env:=by rfl)(hfew:((Ot cpos (N6 [.Call (.Name "reversed" p) [e] [] p2] X.env)).all (λx=> !x.1)&&(P4 cpos (Pe [] X.env)).all (λx=>x.1.isSome)
   &&decide ([Expr.Call (.Name "reversed" p) [e] [] p2].length+([]:List Pg).length+(if([]:List Pg).isEmpty then 0 else 1)<30))=true:=by rfl) (hline:(apos.endLine == cpos.line)=true:=by rfl) (hs:N6 [.Call (.Name "reversed" p) [e] [] p2] X.env=(false,Ow (.Call (.Name "reversed" p) [e] [] p2) X.env)::N6 [] X.env:=by rfl) (hplain:(Ot cpos (N6 [] X.env)).any (·.1)=false:=by rfl) (hs2:N6 [e] X.env=(false,Ow e X.env)::N6 [] X.env:=by rfl) (hpl2:(Ot p2 (N6 [] X.env)).any (·.1)=false:=by rfl):PE X (.Call (.Attribute o "join" apos) [.Call (.Name "reversed" p) [e] [] p2] [] cpos) (NF X.K to te):=by
 intro gV s σ H Q I h;refine OQ hbase hfew hline rfl (bM (ho gV s σ H _ I h) λv s1 ⟨x,H1,I1,r1,q1⟩=>?_);cases x with
 |str sep=>
  have ty:Gq X.K "str" (.str sep) H1:=rfl;obtain⟨h1,h2⟩:=jq I1 r1 ty;obtain⟨tk,rfl⟩:=r1;refine⟨"str","str.join",PySem.F.plainAttrs_str,PySem.F.slot_str_join,PySem.F.type_str_join,h1,h2,?_⟩;rw[hs];refine OJ (by show(false||(Ot cpos (N6 [] X.env)).any (·.1))=false;rw[hplain]<;>rfl) (OW ?_)
  show N8 _ _ (spliced ((false,Ow (.Call (.Name "reversed" p) [e] [] p2) X.env)::Ot cpos (N6 [] X.env))) _ _ s1;refine Calls.spliced_cons ?_;refine O7 (iH I1 hg hm tN ?_ (by decide) (by decide));have hA:PA X [e] (bo te cL):=pa_cons he pan hs2;refine PyProof.Rows.callWith_type1 (bM (hA p2 gV s1 σ H1 (λvs H2=>∃y,vs=[y]/\(match y with
   | .ref d=>∃ys:List Str,aN X.K H2 d (ys.map V.str)/\(ys.map (·.length)).sum+ys.length*sep.length<=16777216/\Q (.str (P5 sep ys.reverse)) H2
   |_=>False)) I1 ?_) λus s2 ⟨vs,H2,I2,r2,y,e2,q2⟩=>?_) hs2 hpl2
  .show te σ H1 _;have q1':=q1;have:(λ(y:V)(H2:Hp)=>match y with
    | .ref d=>∃ys:List Str,aN X.K H2 d (ys.map V.str)/\(ys.map (·.length)).sum+ys.length*sep.length<=16777216/\Q (.str (P5 sep ys.reverse)) H2
    |_=>False)=λy H2=>∃y',[y]=[y']/\(match y' with
    | .ref d=>∃ys:List Str,aN X.K H2 d (ys.map V.str)/\(ys.map (·.length)).sum+ys.length*sep.length<=16777216/\Q (.str (P5 sep ys.reverse)) H2
    |_=>False):=by
    funext y H2;apply propext
    constructor
    .intro z;exact⟨y,rfl,z⟩
    .rintro⟨y',e,z⟩;have:y=y':=by injection e
     subst this;exact z
   dsimp only at q1';rw[this]at q1';exact q1'
  .subst e2;obtain⟨u,rfl,ru⟩:=di r2;cases y with
   |ref d=>
    obtain⟨ys,hd,hz,q⟩:=q2;cases ru;obtain⟨its,rv,pl,hl⟩:=I2.list hd;have hlen:=rv.length;rw[RT]at hlen hl;refine call_reversed_list pl.isList ?_;have I3:aK X gV σ H2 {s2 with heap:=s2.heap.push (revObj d ((its.toArray.size:Int) - 1))}:=I2.kept (t':=s2.toks) λb ob q=>N1 _ q;refine Calls.spliced_nil ?_;have hne:d≠s2.heap.objs.size:=by obtain⟨ob,hob,_⟩:=pl.isList;exact TY (N4 hob)
    have hfp:iq X gV H2 s2.heap.objs.size:=I2.fpOk (TX _) I2.fresh;refine AJ (its:=its) (ys:=ys) (I.ok.hd hc) hne ⟨_,N7 _ rfl,rfl,by simp[revObj]⟩ (pl.isList.at λob q=>N1 _ q) (jr rv) (by omega) (joinOk_of ?_) λs' t' k hm=>?_
    .rw[List.map_reverse,q0,TJ];exact hz
    .refine⟨.str _,H2,?_,⟨t',rfl⟩,q⟩;have J:aK X gV σ H2 {s2 with heap:=s'.heap,toks:=k}:=by have z:=I3.turned (it:=s2.heap.objs.size) (h':=s'.heap) (t':=k) (λb ob hb e=>hm.heap b ob (by simpa using hb) e) hfp.1 hfp.2.1 hfp.2.2.2.1 hfp.2.2.2.2.1 hfp.2.2.2.2.2;exact z
     have e1:s'.gens=s2.gens:=hm.gens.symm;have e2:s'.drawn=s2.drawn:=hm.drawn;have e3:s'.os=s2.os:=hm.os;obtain⟨sh,sg,sd,st,so⟩:=s';cases e1;cases e2;cases e3;exact J
   |_=>exact q2.elim
 |_=>exact q1.elim
end
def MQ(x:Str):It:=⟨λi _=>i<x.length,λi H v H'=>H'=H/\∃c,x.cps.toList[i]? =some c/\v=.str ⟨#[c]⟩,λi _=>x.length<=i⟩
def Gs(ty:String):Prop:=ty="str_ascii_iterator"\/ty="str_iterator"
theorem zi{P:N5}{w:N9}{K:Frag}{tg:Ol}(it:VB){ty:String}(hty:Gs ty)(x:Str)(t:Rt):vP P w K tg (MQ x) [it] it (λi h=>h.IsStrIter it ty x t i) where
 mem:=by simp
 obj:=λi h st b hb=>by
  have e:b=it:=by simpa using hb
  subst e;obtain⟨o,e,c,d⟩:=st;exact⟨o,e,λv z=>by rw[d]at z;cases z⟩
 keep:=λi h h' st k=>by obtain⟨o,e,r⟩:=st;exact⟨o,k it (by simp) o e,r⟩
 item:=by
  intro X hP hw hK hc i gV s σ H E I hf st hg;subst hP hw hK;obtain⟨f0,f1,f2,f3,f4,f5⟩:=hf it (by simp);have hi:i<x.cps.size:=hg;have hx:x.cps[i]? =some x.cps[i]:=UQ hi;have hx':x.cps.toList[i]? =some x.cps[i]:=by simpa using hx
  have go:∀(h':Oe)(tk:Nat),h'.IsStrIter it ty x t (i+1)->OH it s.heap h'->∀u,(∃tt,u=Ps ⟨#[x.cps[i]]⟩ tt)->N8 (Od X.prog X.w) X.A (PP tg (.ref it) u) (λ_ s2=>∃x_1 H',aK X gV σ H' s2/\aQ x_1 u/\(MQ x).yld i H x_1 H'/\s2.heap.IsStrIter it ty x t (i+1)/\∀b∈[it],H' b=none) E {s with heap:=h',toks:=tk}:=by
   intro h' tk st' sb u hu;have I1:aK X gV σ H {s with heap:=h',toks:=tk}:=I.turned (t':=tk) (λb o hb e=>(sb.2 b hb).trans e) f0 f1 f3 f4 f5;obtain⟨o,e,c,d⟩:=id st';refine AR (s:={s with heap:=h',toks:=tk}) e c d (by rcases hty with z|z<;>(rw[z];decide)) ?_
   obtain⟨tt,rfl⟩:=hu;exact⟨.str ⟨#[x.cps[i]]⟩,H,I1,⟨tt,rfl⟩,⟨rfl,_,hx',rfl⟩,st',λb hb=>(hf b hb).1⟩
  rcases hty with rfl|rfl
  .exact wpAny_pyNext_ascii_item st hx λh' st' sb=>⟨_,rfl,go h' _ st' sb _ ⟨_,rfl⟩⟩
  .exact wpAny_pyNext_wide_item st hx λh' st' sb=>⟨_,rfl,go h' _ st' sb _ ⟨_,rfl⟩⟩
 done:=by
   intro X hP hw hK hc i gV s σ H E I hf st hg;subst hP hw hK;obtain⟨f0,f1,f2,f3,f4,f5⟩:=hf it (by simp);have hi:x.cps.size<=i:=hg;have hx:x.cps[i]? =none:=US hi
   rcases hty with rfl|rfl
   .exact wpAny_pyNext_ascii_end (I.ok.hd hc) st hx λh' eb=>⟨rfl,I.turned (t':=s.toks) (λb o hb e=>eb b o hb e) f0 f1 f3 f4 f5⟩
   .exact wpAny_pyNext_wide_end (I.ok.hd hc) st hx λh' eb=>⟨rfl,I.turned (t':=s.toks) (λb o hb e=>eb b o hb e) f0 f1 f3 f4 f5⟩
 self:=λ_ _ _ _ _ st h=>by
  rcases hty with rfl|rfl
  .exact wpAny_pyIter_striter_ascii st h
  .exact wpAny_pyIter_striter_wide st h
section
variable{X:Cx}{tg:Ol}
def L0(tl:TE):TI:=λσ H R=>tl σ H λv H1=>match v with| .str x=>R (MQ x) H1|_=>False
theorem HP{l:Ol}{tl:TE}(hl:PE X l tl):PI X tg l (L0 tl):=by
 intro gV s σ H R I h;refine bM (hl gV s σ H _ I h) λv s1 ⟨x,H1,I1,r1,q1⟩=>?_;cases x with
 |str z=>
  obtain⟨t,rfl⟩:=r1;refine wpAny_pyIter_strU ?_;have hty:Gs (O4 z):=by
   unfold O4;split
   .exact .inl rfl
   .exact .inr rfl
  refine⟨s1.heap.objs.size,[s1.heap.objs.size],_,_,H1,rfl,I1.kept (t':=s1.toks) λb o e=>N1 _ e,zi _ hty z t,⟨_,N7 _ rfl,rfl,rfl⟩,λb hb=>?_,q1⟩;have e:b=s1.heap.objs.size:=by simpa using hb
  subst e;exact I1.fpOk (TX _) (I1.hok.fresh (TX _))
 |_=>exact q1.elim
end
section
variable{X:Cx}
theorem Ak{x:Str}{v:V}{pos:Qa}(hg:Gl X x)(h:∃u,X.mg x=some u/\aQ v u)(hd:(x == ("__debug__":Str))=false:=by decide):PE X (.Name x pos) (tC v):=by obtain⟨u,hm,r⟩:=h;exact Cg hg hm r hd
end
theorem bF{A:Oi}{k:Nat}(hr:cY k A):A.units+20<Pf:=by have:=hr.units;omega
theorem ak.upd{H H':Hp}{d:VB}{o:HO}(h:ak H H')(hd:H' d=none):ak H (upd H' d o):=λb ob e=>by have e':=h b ob e;rw[au (aw e' hd)];exact e'
section
variable{X:Cx}{a b c e o:Ol}{ta tb tc te to:TE}{p p2 pos:Qa}{es:List Ol}{t:TA}
theorem jA(K:Frag){op:Po}(hu:X.A.units+20<Pf)(ha:PE X a ta)(hb:PE X b tb)(hm:behindInMarks op b=false:=by first|exact mH _|with_unfolding_all rfl)(hK:X.K=K:=by rfl):PE X (.Compare a [op] [b] pos) (eY K op ta tb):=by subst hK;exact IW hu ha hb hm
theorem aL(K:Frag){op:Po}(hu:X.A.units+20<Pf)(ha:PE X a ta)(hb:PE X b tb)(hm:behindInMarks op b=false:=by first|exact mH _|with_unfolding_all rfl)(hK:X.K=K:=by rfl):PT X (.Compare a [op] [b] pos) (fX (eY K op ta tb)):=by subst hK;exact IS hu ha hb hm
theorem vi(K:Frag){op op':Po}(hu:X.A.units+20<Pf)(ha:PE X a ta)(hb:PE X b tb)(hc:PE X c tc)(hm:RJ [op,op'] [b,c]=false:=by with_unfolding_all rfl)(hK:X.K=K:=by rfl):PE X (.Compare a [op,op'] [b,c] pos) (kS K op op' ta tb tc):=by subst hK;exact Bo hu ha hb hc hm
theorem wD(K:Frag){op op':Po}(hu:X.A.units+20<Pf)(ha:PE X a ta)(hb:PE X b tb)(hc:PE X c tc)(hm:RJ [op,op'] [b,c]=false:=by with_unfolding_all rfl)(hK:X.K=K:=by rfl):PT X (.Compare a [op,op'] [b,c] pos) (j4 K op op' ta tb tc):=by subst hK;exact Bj hu ha hb hc hm
theorem bI(K:Frag)(ha:PE X a ta)(hb:PE X b tb)(hs:qV b:=by exact λ_ _=>rfl)(hK:X.K=K:=by rfl):PE X (.Subscript a b pos) (tK K ta tb):=by subst hK;exact Mq ha hb hs
theorem CF(K:Frag){lo hi:Option Ol}{tl th:TO}(he:PE X e te)(hl:PO X lo tl)(hu:PO X hi th)(hK:X.K=K:=by rfl):PE X (.Subscript e (.Slice lo hi none p2) pos) (Ju K te tl th):=by subst hK;exact Mo he hl hu
theorem gB(K:Frag)(hK:X.K=K:=by rfl):bf X (.builtin "len") (sT K):=by subst hK;exact yM
theorem AI(K:Frag)(hc:X.calm=true:=by rfl)(hK:X.K=K:=by rfl):bf X (.builtin "all") (Dk K):=by subst hK;exact yQ hc
theorem GP(K:Frag)(hK:X.K=K:=by rfl):qX X "str.join" (oz K):=by subst hK;exact Aw
theorem wE(K:Frag){tg l:Ol}{tl:TE}(hl:PE X l tl)(hK:X.K=K:=by rfl):PI X tg l (sY K tl):=by subst hK;exact Cc hl
theorem Js(K:Frag){n:Nat}{k:Nat}{t:Ha}(h:Jx X es t)(hc:X.calm=true:=by rfl)(hn:(PV es X.env).length=n:=by rfl)(hst:List.findIdx? (λx=>x.1) (PV es X.env)=none:=by rfl)(hK:X.K=K:=by rfl):PG X (.Tuple es k pos) (vn K n t):=by subst hK;exact HQ hc h hn hst
theorem kg{x:Str}{v:V}(h:∃u,X.mg x=some u/\aQ v u)(hg:Gl X x:=by rfl)(hd:(x == ("__debug__":Str))=false:=by decide):PE X (.Name x pos) (tC v):=Ak hg h hd
theorem GQ(T:BT){n:Str}(hm:X.mg "isinstance"=none)(hmT:X.mg n=none)(hv:Oh n=some (.type T.s))(ha:PE X a ta)(hg:Gl X "isinstance":=by rfl)(hgT:Gl X n:=by rfl)(hn:n≠"__name__":=by decide)(hdb:(n == ("__debug__":Str))=false:=by decide)(he:N6 [a,.Name n p2] X.env=(false,Ow a X.env)::N6 [.Name n p2] X.env:=by rfl)(he2:N6 [.Name n p2] X.env=(false,Ow (.Name n p2) X.env)::N6 [] X.env:=by rfl)(hpl:(Ot pos (N6 [.Name n p2] X.env)).any (·.1)=false:=by rfl):PE X (.Call (.Name "isinstance" p) [a,.Name n p2] [] pos) (Jv T ta):=Mr T ha hg hm hgT hmT hv hn hdb he he2 hpl
theorem AE{tg:Ol}{ta:TA}(hm:X.mg "range"=none)(ha:PA X [a] ta)(hg:Gl X "range":=by rfl)(hs:N6 [a] X.env=[(false,Ow a X.env)]:=by rfl):PI X tg (.Call (.Name "range" p) [a] [] pos) (mP ta):=xT hg hm ha hs
theorem kjr(K:Frag){apos cpos:Qa}(hm:X.mg "reversed"=none)(ho:PE X o to)(he:PE X e te)(hc:X.calm=true:=by rfl)(hg:Gl X "reversed":=by rfl)(hbase:OE o "join" X.env (Ow o X.env)=Ow o X.env:=by rfl)(hfew:((Ot cpos (N6 [.Call (.Name "reversed" p) [e] [] p2] X.env)).all (λx=> !x.1)&&(P4 cpos (Pe [] X.env)).all (λx=>x.1.isSome)
   &&decide ([Expr.Call (.Name "reversed" p) [e] [] p2].length+([]:List Pg).length+(if([]:List Pg).isEmpty then 0 else 1)<30))=true:=by rfl) (hline:(apos.endLine == cpos.line)=true:=by rfl) (hs:N6 [.Call (.Name "reversed" p) [e] [] p2] X.env=(false,Ow (.Call (.Name "reversed" p) [e] [] p2) X.env)::N6 [] X.env:=by rfl) (hplain:(Ot cpos (N6 [] X.env)).any (·.1)=false:=by rfl) (hs2:N6 [e] X.env=(false,Ow e X.env)::N6 [] X.env:=by rfl) (hpl2:(Ot p2 (N6 [] X.env)).any (·.1)=false:=by rfl) (hK:X.K=K:=by rfl):PE X (.Call (.Attribute o "join" apos) [.Call (.Name "reversed" p) [e] [] p2] [] cpos) (NF K to te):=by
 subst hK;exact vE hc ho he hm hg hbase hfew hline hs hplain hs2 hpl2
theorem ck{N:List Str}{src:List (Option Nat)}{scope:PF}(dsc:PF)(XN:List Str)(h:vD dsc XN N src scope=true:=by decide+kernel)(he:X.env.scope=dsc:=by rfl)(hN:X.N=XN:=by rfl):cp X N src scope:=cp.of he hN h
theorem bi{i:Nat}{x:Str}(N:List Str)(hN:N.Nodup:=by decide+kernel)(hi:X.N[i]? =some x:=by rfl)(hx:Hb X.env.scope x:=by first|exact Or.inl rfl|exact Or.inr rfl)(hf:X.fn x=true\/X.env.scope.names.lookup x=some .local:=by first|exact .inl rfl|exact .inr rfl)(hNX:X.N=N:=by rfl):PG X (.Name x pos) (gName i):=
 wu (hNX▸hN) hi hx hf
theorem fz{N:List Str}{src:List (Option Nat)}{scope:PF}{tg iter:Ol}{ifs:List Ol}{wi:TI}{g:TG}{tt:TT}(S:cp X N src scope)(hi:PI X tg iter wi)(hg:∀s H ex,PG (cxC X scope N s H ex) tg g)(ht:∀s H ex,tV (cxC X scope N s H ex) ifs tt)(he:∀s H ex,PE (cxC X scope N s H ex) e te)(hc:X.calm=true:=by rfl)(hs:∀x,PZ iter X.env x=pure x:=by intro _;rfl):PE X (.ListComp e [⟨tg,iter,ifs,0⟩] scope pos) (tComp wi g tt te src):=Ch hc S hi hg ht he hs
end
theorem zY{K:Frag}{i j:Int}{H:Hp}{Q:VK}:(aV K .Eq (.int i) (.int j) H Q)=(Q (.bl (decide (i=j))) H):=rfl
theorem zO{K:Frag}{i j:Int}{H:Hp}{Q:VK}:(aV K .NotEq (.int i) (.int j) H Q)=(Q (.bl (!decide (i=j))) H):=rfl
theorem zX{K:Frag}{i j:Str}{H:Hp}{Q:VK}:(aV K .Eq (.str i) (.str j) H Q)=(Q (.bl (decide (i=j))) H):=rfl
theorem zN{K:Frag}{i j:Str}{H:Hp}{Q:VK}:(aV K .NotEq (.str i) (.str j) H Q)=(Q (.bl (!decide (i=j))) H):=rfl
theorem B9{K:Frag}{i j:Bool}{H:Hp}{Q:VK}:(aV K .Eq (.bl i) (.bl j) H Q)=(Q (.bl (decide (i=j))) H):=rfl
theorem B5{K:Frag}{i j:Bool}{H:Hp}{Q:VK}:(aV K .NotEq (.bl i) (.bl j) H Q)=(Q (.bl (!decide (i=j))) H):=rfl
theorem B8{K:Frag}{H:Hp}{Q:VK}:(aV K .Eq .non .non H Q)=(Q (.bl true) H):=rfl
theorem B4{K:Frag}{H:Hp}{Q:VK}:(aV K .NotEq .non .non H Q)=(Q (.bl (!true)) H):=rfl
theorem pT{K:Frag}{i:Int}{j:Str}{H:Hp}{Q:VK}:(aV K .Eq (.int i) (.str j) H Q)=(Q (.bl false) H):=rfl
theorem pK{K:Frag}{i:Int}{j:Str}{H:Hp}{Q:VK}:(aV K .NotEq (.int i) (.str j) H Q)=(Q (.bl (!false)) H):=rfl
theorem pU{K:Frag}{i:Int}{H:Hp}{Q:VK}:(aV K .Eq (.int i) .non H Q)=(Q (.bl false) H):=rfl
theorem pL{K:Frag}{i:Int}{H:Hp}{Q:VK}:(aV K .NotEq (.int i) .non H Q)=(Q (.bl (!false)) H):=rfl
theorem pP{K:Frag}{i:Str}{j:Int}{H:Hp}{Q:VK}:(aV K .Eq (.str i) (.int j) H Q)=(Q (.bl false) H):=rfl
theorem pH{K:Frag}{i:Str}{j:Int}{H:Hp}{Q:VK}:(aV K .NotEq (.str i) (.int j) H Q)=(Q (.bl (!false)) H):=rfl
theorem si{K:Frag}{i:Str}{j:Bool}{H:Hp}{Q:VK}:(aV K .Eq (.str i) (.bl j) H Q)=(Q (.bl false) H):=rfl
theorem rP{K:Frag}{i:Str}{j:Bool}{H:Hp}{Q:VK}:(aV K .NotEq (.str i) (.bl j) H Q)=(Q (.bl (!false)) H):=rfl
theorem pO{K:Frag}{i:Str}{H:Hp}{Q:VK}:(aV K .Eq (.str i) .non H Q)=(Q (.bl false) H):=rfl
theorem pG{K:Frag}{i:Str}{H:Hp}{Q:VK}:(aV K .NotEq (.str i) .non H Q)=(Q (.bl (!false)) H):=rfl
theorem sk{K:Frag}{i:Bool}{j:Str}{H:Hp}{Q:VK}:(aV K .Eq (.bl i) (.str j) H Q)=(Q (.bl false) H):=rfl
theorem rR{K:Frag}{i:Bool}{j:Str}{H:Hp}{Q:VK}:(aV K .NotEq (.bl i) (.str j) H Q)=(Q (.bl (!false)) H):=rfl
theorem su{K:Frag}{i:Bool}{H:Hp}{Q:VK}:(aV K .Eq (.bl i) .non H Q)=(Q (.bl false) H):=rfl
theorem rS{K:Frag}{i:Bool}{H:Hp}{Q:VK}:(aV K .NotEq (.bl i) .non H Q)=(Q (.bl (!false)) H):=rfl
theorem pR{K:Frag}{j:Int}{H:Hp}{Q:VK}:(aV K .Eq .non (.int j) H Q)=(Q (.bl false) H):=rfl
theorem pJ{K:Frag}{j:Int}{H:Hp}{Q:VK}:(aV K .NotEq .non (.int j) H Q)=(Q (.bl (!false)) H):=rfl
theorem pQ{K:Frag}{j:Str}{H:Hp}{Q:VK}:(aV K .Eq .non (.str j) H Q)=(Q (.bl false) H):=rfl
theorem pI{K:Frag}{j:Str}{H:Hp}{Q:VK}:(aV K .NotEq .non (.str j) H Q)=(Q (.bl (!false)) H):=rfl
theorem sj{K:Frag}{j:Bool}{H:Hp}{Q:VK}:(aV K .Eq .non (.bl j) H Q)=(Q (.bl false) H):=rfl
theorem rQ{K:Frag}{j:Bool}{H:Hp}{Q:VK}:(aV K .NotEq .non (.bl j) H Q)=(Q (.bl (!false)) H):=rfl
theorem B7{K:Frag}{a b:VB}{H:Hp}{Q:VK}:(aV K .Eq (.ref a) (.ref b) H Q)=(∃k,oQ K H 20 (.ref a) (.ref b) k/\Q (.bl k) H):=rfl
theorem B3{K:Frag}{a b:VB}{H:Hp}{Q:VK}:(aV K .NotEq (.ref a) (.ref b) H Q)=(∃k,oQ K H 20 (.ref a) (.ref b) k/\Q (.bl (!k)) H):=rfl
theorem zQ{K:Frag}{i j:Int}{H:Hp}{Q:VK}:(aV K .Lt (.int i) (.int j) H Q)=(Q (.bl (decide (i<j))) H):=rfl
theorem kF{K:Frag}{i j:Int}{H:Hp}{Q:VK}:(aV K .LtE (.int i) (.int j) H Q)=(Q (.bl (decide (i<=j))) H):=rfl
theorem zW{K:Frag}{i j:Int}{H:Hp}{Q:VK}:(aV K .Gt (.int i) (.int j) H Q)=(Q (.bl (decide (j<i))) H):=rfl
theorem xP{K:Frag}{i j:Int}{H:Hp}{Q:VK}:(aV K .GtE (.int i) (.int j) H Q)=(Q (.bl (decide (j<=i))) H):=rfl
theorem zP{K:Frag}{i j:Str}{H:Hp}{Q:VK}:(aV K .Lt (.str i) (.str j) H Q)=(Q (.bl (decide (i.cps.toList<j.cps.toList))) H):=rfl
theorem nY{K:Frag}{i j:Str}{H:Hp}{Q:VK}:(aV K .LtE (.str i) (.str j) H Q)=(Q (.bl (!decide (j.cps.toList<i.cps.toList))) H):=rfl
theorem rY{K:Frag}{i j:Str}{H:Hp}{Q:VK}:(aV K .In (.str i) (.str j) H Q)=(Q (.bl (!(OP j i 0 j.length 1).isEmpty)) H):=rfl
theorem rO{K:Frag}{i j:Str}{H:Hp}{Q:VK}:(aV K .NotIn (.str i) (.str j) H Q)=(Q (.bl (!(!(OP j i 0 j.length 1).isEmpty))) H):=rfl
theorem jQ{K:Frag}{i:Int}{d:VB}{H:Hp}{Q:VK}:(aV K .In (.int i) (.ref d) H Q)=(wo K false (.int i) (.ref d) H Q):=rfl
theorem ij{K:Frag}{i:Int}{d:VB}{H:Hp}{Q:VK}:(aV K .NotIn (.int i) (.ref d) H Q)=(wo K true (.int i) (.ref d) H Q):=rfl
theorem zV{K:Frag}{i:Int}{H:Hp}{Q:VK}:(aV K .Is (.int i) .non H Q)=(Q (.bl false) H):=rfl
theorem rX{K:Frag}{i:Int}{H:Hp}{Q:VK}:(aV K .IsNot (.int i) .non H Q)=(Q (.bl true) H):=rfl
theorem hU{K:Frag}{i:Str}{d:VB}{H:Hp}{Q:VK}:(aV K .In (.str i) (.ref d) H Q)=(wo K false (.str i) (.ref d) H Q):=rfl
theorem lj{K:Frag}{i:Str}{d:VB}{H:Hp}{Q:VK}:(aV K .NotIn (.str i) (.ref d) H Q)=(wo K true (.str i) (.ref d) H Q):=rfl
theorem zS{K:Frag}{i:Str}{H:Hp}{Q:VK}:(aV K .Is (.str i) .non H Q)=(Q (.bl false) H):=rfl
theorem rT{K:Frag}{i:Str}{H:Hp}{Q:VK}:(aV K .IsNot (.str i) .non H Q)=(Q (.bl true) H):=rfl
theorem rZ{K:Frag}{i:Bool}{d:VB}{H:Hp}{Q:VK}:(aV K .In (.bl i) (.ref d) H Q)=(wo K false (.bl i) (.ref d) H Q):=rfl
theorem mr{K:Frag}{i:Bool}{d:VB}{H:Hp}{Q:VK}:(aV K .NotIn (.bl i) (.ref d) H Q)=(wo K true (.bl i) (.ref d) H Q):=rfl
theorem B6{K:Frag}{i:Bool}{H:Hp}{Q:VK}:(aV K .Is (.bl i) .non H Q)=(Q (.bl false) H):=rfl
theorem uH{K:Frag}{i:Bool}{H:Hp}{Q:VK}:(aV K .IsNot (.bl i) .non H Q)=(Q (.bl true) H):=rfl
theorem pN{K:Frag}{d:VB}{H:Hp}{Q:VK}:(aV K .In .non (.ref d) H Q)=(wo K false .non (.ref d) H Q):=rfl
theorem lq{K:Frag}{d:VB}{H:Hp}{Q:VK}:(aV K .NotIn .non (.ref d) H Q)=(wo K true .non (.ref d) H Q):=rfl
theorem zU{K:Frag}{H:Hp}{Q:VK}:(aV K .Is .non .non H Q)=(Q (.bl true) H):=rfl
theorem rW{K:Frag}{H:Hp}{Q:VK}:(aV K .IsNot .non .non H Q)=(Q (.bl false) H):=rfl
theorem pM{K:Frag}{i:VB}{d:VB}{H:Hp}{Q:VK}:(aV K .In (.ref i) (.ref d) H Q)=(wo K false (.ref i) (.ref d) H Q):=rfl
theorem lm{K:Frag}{i:VB}{d:VB}{H:Hp}{Q:VK}:(aV K .NotIn (.ref i) (.ref d) H Q)=(wo K true (.ref i) (.ref d) H Q):=rfl
theorem zT{K:Frag}{i:VB}{H:Hp}{Q:VK}:(aV K .Is (.ref i) .non H Q)=(Q (.bl false) H):=rfl
theorem rV{K:Frag}{i:VB}{H:Hp}{Q:VK}:(aV K .IsNot (.ref i) .non H Q)=(Q (.bl true) H):=rfl
theorem Lx{i j:Int}{H:Hp}{Q:VK}:(j6 .Add (.int i) (.int j) H Q)=(Q (.int (i+j)) H):=rfl
theorem HJ{i j:Str}{H:Hp}{Q:VK}:(j6 .Add (.str i) (.str j) H Q)=(i.length+j.length<=v1/\Q (.str (i++j)) H):=rfl
theorem zZ{a b:VB}{H:Hp}{Q:VK}:(j6 .Add (.ref a) (.ref b) H Q)=(HK (.ref a) (.ref b) H Q):=rfl
theorem Ll{i j:Int}{H:Hp}{Q:VK}:(j6 .Sub (.int i) (.int j) H Q)=(Q (.int (i - j)) H):=rfl
theorem Lq{i j:Int}{H:Hp}{Q:VK}:(j6 .Mult (.int i) (.int j) H Q)=(yX i j/\Q (.int (i*j)) H):=rfl
theorem HI{i j:Int}{H:Hp}{Q:VK}:(j6 .FloorDiv (.int i) (.int j) H Q)=(Dp i j/\Q (.int (i / j)) H):=rfl
theorem Lr{i j:Int}{H:Hp}{Q:VK}:(j6 .Mod (.int i) (.int j) H Q)=(0<j/\Q (.int (i % j)) H):=rfl
theorem Lp{i j:Int}{H:Hp}{Q:VK}:(j6 .Pow (.int i) (.int j) H Q)=(Jo i j/\Q (.int (i ^ j.toNat)) H):=rfl
theorem Lu{K:Frag}{z:Str}{i:Int}{H:Hp}{Q:VK}:(Jt K (.str z) (.int i) H Q)=(z.length<=v1/\∃c,jn z.cps.toList i=some c/\Q (.str ⟨#[c]⟩) H):=rfl
theorem Lv{K:Frag}{d:VB}{i:Int}{H:Hp}{Q:VK}:(Jt K (.ref d) (.int i) H Q)=(∃xs v,(aN K H d xs\/cJ K H d xs)/\jn xs i=some v/\Q v H):=rfl
theorem Ln{K:Frag}{z:Str}{lo hi:Option Int}{H:Hp}{Q:VK}:(Jr K (.str z) lo hi H Q)=(z.length<=v1/\Q (.str (jB z lo hi)) H):=rfl
theorem Lo{K:Frag}{d:VB}{lo hi:Option Int}{H:Hp}{Q:VK}:(Jr K (.ref d) lo hi H Q)=(∃xs,aN K H d xs/\∀q,H q=none->Q (.ref q) (upd H q (.lst (fu xs lo hi)))):=rfl
theorem HE{K:Frag}{z:Str}{H:Hp}{Q:VK}:(sT K [.str z] H Q)=(z.length<=v1/\Q (.int z.length) H):=rfl
theorem HF{K:Frag}{d:VB}{H:Hp}{Q:VK}:(sT K [.ref d] H Q)=(∃ys,(aN K H d ys\/cJ K H d ys)/\Q (.int ys.length) H):=rfl
theorem Ls{i j:Int}{H:Hp}{Q:VK}:(LO [.int i,.int j] H Q)=(Q (.int (if j<i then j else i)) H):=rfl
theorem Lm{i:Int}{H:Hp}{Q:VK}:(BS [.int i] H Q)=(i.natAbs.log2<1920/\Q (.str (toString i)) H):=rfl
theorem HG{z:Str}{H:Hp}{Q:VK}:(yq [.str z] H Q)=(∃n,PySem.intText? z=some n/\z.length<=640/\Q (.int n) H):=rfl
theorem HH{k:Bool}{H:Hp}{Q:VK}:(yq [.bl k] H Q)=(Q (.int (if k then 1 else 0)) H):=rfl
theorem Lw{K:Frag}{d:VB}{H:Hp}{Q:VK}:(Dk K [.ref d] H Q)=(∃ks:List Bool,aN K H d (ks.map V.bl)/\Q (.bl (ks.all id)) H):=rfl
theorem Np{a b:Str}{H:Hp}{Q:VK}:(swA (.str a) [.str b] H Q)=(Q (.bl (b.cps.toList.isPrefixOf a.cps.toList)) H):=rfl
theorem uG{K:Frag}{a:Str}{d:VB}{H:Hp}{Q:VK}:(oz K (.str a) [.ref d] H Q)=(∃ys:List Str,aN K H d (ys.map V.str)/\(ys.map (·.length)).sum+ys.length*a.length<=16777216/\Q (.str (P5 a ys)) H):=rfl
theorem Lk{a:Str}{H:Hp}{Q:VK}:(Jp (.str a) [] H Q)=(a.length<=v1/\(∀c∈a.cps.toList,c<128)/\Q (.str ⟨a.cps.map up1⟩) H):=rfl
theorem xN{T:BT}{H:Hp}{Q:VK}:(wJ T .non H Q)=(Q (.bl false) H):=rfl
theorem zR{T:BT}{b:Bool}{H:Hp}{Q:VK}:(wJ T (.bl b) H Q)=(Q (.bl (dN .bool T)) H):=rfl
theorem xO{T:BT}{b:Int}{H:Hp}{Q:VK}:(wJ T (.int b) H Q)=(Q (.bl (dN .int T)) H):=rfl
theorem xM{T:BT}{b:Str}{H:Hp}{Q:VK}:(wJ T (.str b) H Q)=(Q (.bl (dN .str T)) H):=rfl
theorem r_b{k:Bool}{Q:Bool->Hp->Prop}{H:Hp}:dw Q (.bl k) H=Q k H:=rfl
def gy:Ol->Bool
 | .Starred _ _=>false
 |_=>true
theorem fB{e:Ol}{es:List Ol}{env:Rl}(h:gy e=true):N6 (e::es) env=(false,Ow e env)::N6 es env:=by
 cases e<;>first|rfl|cases h
theorem ic{pos:Qa}{env:Rl}:∀{es:List Ol},es.all gy=true->(Ot pos (N6 es env)).any (·.1)=false
 | [],_=>rfl
 |e::es,h=>by
  rw[So,UD]at h;rw[fB h.1];show(false||(Ot pos (N6 es env)).any (·.1))=false
  rw[ic h.2];rfl
theorem By{pos:Qa}{env:Rl}:∀{es:List Ol},es.all gy=true->(Ot pos (N6 es env)).all (λx=> !x.1)=true
 | [],_=>rfl
 |e::es,h=>by rw[So,UD]at h;rw[fB h.1];show(!false&&(Ot pos (N6 es env)).all (λx=> !x.1))=true;rw[By h.2];rfl
section
variable{X:Cx}{a b c e o:Ol}{ta tb tc te to:TE}{p p2 pos:Qa}{es:List Ol}{t:TA}
theorem az(ha:PE X e te)(hr:PA X es t)(h:gy e=true:=by rfl):PA X (e::es) (bo te t):=pa_cons ha hr (fB h)
theorem aC{name:Str}{ps:List Str}{k j:Nat}{sp:Sp}(C:cy X.prog X.w X.K X.mg X.np name ps k sp)(hr:cY j X.A)(ha:PA X (e::es) t)(hkj:k<=j:=by decide)(hp:(e::es).all gy=true:=by rfl)(hg:Gl X name:=by rfl)(hdb:(name == ("__debug__":Str))=false:=by decide):PE X (.Call (.Name name p) (e::es) [] pos) (eA sp t):=by have hp':=hp;rw[So,UD]at hp';exact C5 C hr hkj ha hg hdb (fB hp'.1) (ic hp'.2)
theorem kB{id:String}{x:Str}{r:List V->Hp->VK->Prop}(hc:bf X (.builtin id) r)(hv:Oh x=some (.builtin id))(hm:X.mg x=none)(ha:PA X (e::es) t)(hp:(e::es).all gy=true:=by rfl)(hg:Gl X x:=by rfl)(hn:x≠"__name__":=by decide)(hdb:(x == ("__debug__":Str))=false:=by decide):PE X (.Call (.Name x p) (e::es) [] pos) (cB r t):=by have hp':=hp;rw[So,UD]at hp';exact NE hc hv hm ha hg hn hdb (fB hp'.1) (ic hp'.2)
theorem yZ{T:String}{x:Str}{r:List V->Hp->VK->Prop}(hc:bf X (.type T) r)(hv:Oh x=some (.type T))(hm:X.mg x=none)(ha:PA X (e::es) t)(hp:(e::es).all gy=true:=by rfl)(hg:Gl X x:=by rfl)(hn:x≠"__name__":=by decide)(hdb:(x == ("__debug__":Str))=false:=by decide):PE X (.Call (.Name x p) (e::es) [] pos) (cB r t):=by have hp':=hp;rw[So,UD]at hp';exact G3 hc hv hm ha hg hn hdb (fB hp'.1) (ic hp'.2)
theorem ksm{name:Str}{apos cpos:Qa}{id:String}{r:V->List V->Hp->VK->Prop}(slot:Slot "str" name id)(hty:typeOf (.builtin id)=pure (.type "method_descriptor"))(hm:qX X id r)(ho:PE X o to)(ha:PA X (e::es) t)(hp:(e::es).all gy=true:=by rfl)(hl:(e::es).length<20:=by decide)(hbase:OE o name X.env (Ow o X.env)=Ow o X.env:=by rfl)(hline:(apos.endLine == cpos.line)=true:=by rfl):PE X (.Call (.Attribute o name apos) (e::es) [] cpos) (Ms r to t):=by have hp':=hp;rw[So,UD]at hp';refine Mn slot hty hm ho ha hbase ?_ hline (fB hp'.1) (ic hp'.2);rw[By hp];show(true&&true&&decide ((e::es).length+0+0<30))=true;rw[C0 (by omega)];rfl
end
end L2
namespace L2
open PySem
theorem cQ{t u:TS}{D:dW}{σ:St}{H:Hp}(P:St->Hp->Prop)(h:∀K:St->Hp->Prop,(∀σ' H',P σ' H'->K σ' H')->t {D with nx:=K} σ H)(h2:∀σ' H',P σ' H'->u D σ' H'):bj t u D σ H:=h (u D) h2
theorem bJ{te:TE}{i:Nat}{u:TS}{D:dW}{σ:St}{H:Hp}(P:V->Hp->Prop)(h:∀Q:VK,(∀v H',P v H'->Q v H')->te σ H Q)(h2:∀v H',P v H'->u D (σ.set i (some v)) H'):bj (tAsg te (gName i)) u D σ H:=h _ h2
theorem cr{c:TT}{t u:TS}{D:dW}{σ:St}{H:Hp}(P:Bool->Hp->Prop)(hc:∀Q:Bool->Hp->Prop,(∀b H',P b H'->Q b H')->c σ H Q)(h1:∀H',P true H'->t {D with nx:=u D} σ H')(h2:∀H',P false H'->u D σ H'):bj (lS c t lR) u D σ H:=by
 refine hc _ λb H' p=>?_;cases b with
 |true=>exact iI (h1 H' p)
 |false=>exact iJ (h2 H' p)
def i9:List Ol->Option (List V)
 | []=>some []
 | .Constant (.int i) _ _::r=>(i9 r).map (V.int i:: ·)
 | .Constant (.str x) _ _::r=>(i9 r).map (V.str x:: ·)
 | .Constant (.bool b) _ _::r=>(i9 r).map (V.bl b:: ·)
 | .Constant .none _ _::r=>(i9 r).map (V.non:: ·)
 |_=>none
def NG(vs:List V):TA:=λ_ H Q=>Q vs H
theorem cU{X:Cx}:∀{es:List Ol}{vs:List V},i9 es=some vs->PA X es (NG vs):=by
 intro es
 induction es with
 |nil=>intro vs h;cases h;exact pan
 |cons e r ih=>
  intro vs h;unfold i9 at h;split at h
  .rename_i e1;cases e1
  .rename_i e1;cases e1;obtain⟨ws,h1,h2⟩:=U1.mp h;subst h2;exact az ag (ih h1)
  .rename_i e1;cases e1;obtain⟨ws,h1,h2⟩:=U1.mp h;subst h2;exact az bq (ih h1)
  .rename_i e1;cases e1;obtain⟨ws,h1,h2⟩:=U1.mp h;subst h2;exact az dv (ih h1)
  .rename_i e1;cases e1;obtain⟨ws,h1,h2⟩:=U1.mp h;subst h2;exact az hV (ih h1)
  .cases h
theorem iO{g:TG}{tt:TT}{te:TE}{src:List (Option Nat)}{σ:St}{Q:VK}{J:It}{H1:Hp}(n:Nat)(N:Nat->List V->St->Hp->Prop)(hn:n<=v1)(hlen:∀i ys σ H,N i ys σ H->ys.length<=i)(hgo:∀i ys σ H,N i ys σ H->i<n->J.go i H)(hstop:∀ys σ H,N n ys σ H->J.stop n H)(h0:N 0 [] (dX src σ) H1)(hturn:∀i ys σ' H' x H2,i<n->N i ys σ' H'->J.yld i H' x H2->∀(Kt:V->St->Hp->Prop)(Kf:St->Hp->Prop),(∀v σ3 H5,N (i+1) (ys++[v]) σ3 H5->Kt v σ3 H5)->(∀σ3 H4,N (i+1) ys σ3 H4->Kf σ3 H4)->
   g x σ' H2 λσ3 H3=>tt σ3 H3 λb H4=>if b=true then te σ3 H4 λv H5=>Kt v σ3 H5 else Kf σ3 H4) (hQ:∀ys σ' H' d,N n ys σ' H'->H' d=none->Q (.ref d) (upd H' d (.lst ys))):df g tt te src σ Q J H1:=by
 refine⟨λi m ys σ' H'=>m=n - i/\i<=n/\N i ys σ' H',⟨n,by simp,TZ _,h0⟩,?_⟩;rintro i m ys σ' H' ⟨rfl,hi,hN⟩
 by_cases hlt:i<n
 .refine .inr ⟨hgo i ys σ' H' hN hlt,?_,λx H2 y=>?_⟩
  .have:=hlen i ys σ' H' hN;omega
  .exact hturn i ys σ' H' x H2 hlt hN y _ _ (λv σ3 H5 h=>⟨n - (i+1),by omega,rfl,hlt,h⟩) (λσ3 H4 h=>⟨n - (i+1),by omega,rfl,hlt,h⟩)
 .have e:i=n:=by omega
  subst e;exact .inl ⟨hstop ys σ' H' hN,λd hd=>hQ ys σ' H' d hN hd⟩
theorem A0{ta:TA}{g:TG}{tb:TS}{D:dW}{σ:St}{H:Hp}(n:Int)(hta:∀Q:List V->Hp->Prop,Q [.int n] H->ta σ H Q)(h0: -(2 ^ 62)<=n)(h1:n<2 ^ 62)(Pv:Nat->St->Hp->Prop)(hp0:Pv 0 σ H)(hs:∀i σ H,i<n.toNat->Pv i σ H->g (.int (0+i)) σ H λσ2 H2=>tb {D with nx:=Pv (i+1),ct:=Pv (i+1),bk:=D.nx} σ2 H2)(hd:∀σ H,Pv n.toNat σ H->D.nx σ H):tFor (mP ta) g tb D σ H:=
 hta _ ⟨n,rfl,h0,h1,oB Pv hp0 hs hd⟩
theorem j2{K:Frag}{tl:TE}{g:TG}{tb:TS}{D:dW}{σ:St}{H:Hp}(P:V->Hp->Prop)(htl:∀Q:VK,(∀v H',P v H'->Q v H')->tl σ H Q)(h:∀v H',P v H'->∃d xs,v=.ref d/\aN K H' d xs/\∃Pv:Nat->St->Hp->Prop,Pv 0 σ H'/\(∀i σ H,i<=xs.length->Pv i σ H->aN K H d xs)/\
   (∀(i:Nat) x σ H,xs[i]? =some x->Pv i σ H->g x σ H λσ2 H2=>tb {D with nx:=Pv (i+1),ct:=Pv (i+1),bk:=D.nx} σ2 H2)/\(∀σ H,Pv xs.length σ H->D.nx σ H)):tFor (sY K tl) g tb D σ H:=
 htl _ λv H' p=>by obtain⟨d,xs,rfl,hq,Pv,a,b,c,e⟩:=h v H' p;exact⟨d,rfl,⟨xs,hq⟩,A1 Pv a b c e⟩
theorem Hs{c:TT}{t:TS}{D:dW}{σ:St}{H:Hp}(P:Bool->Hp->Prop)(hc:∀Q:Bool->Hp->Prop,(∀b H',P b H'->Q b H')->c σ H Q)(h1:∀H',P true H'->t D σ H')(h2:∀H',P false H'->D.nx σ H'):lS c t lR D σ H:=by
 refine hc _ λb H' p=>?_;cases b with
 |true=>exact iI (h1 H' p)
 |false=>exact iJ (h2 H' p)
end L2
namespace L2
open PySem PySem.Spec PyProof.Rows
def uniq(ns:List Int):List Int:=firstMet (λi=>ns.getD i 0) ns.length
theorem uF(ns:List Int):(List.range ns.length).map (λi=>ns.getD i 0)=ns:=by
 apply SD;intro i;rw[RX]
 by_cases h:i<ns.length
 .rw[SE h,RU h];show some (ns.getD i 0)=_;rw[RY,RU h];rfl
 .rw[Sn (by rw[Sx];omega),Sn (by omega)];rfl
theorem iM(val:Nat->Int):∀i,(firstMet val i).length=i<->((List.range i).map val).Nodup
 |0=>by simp[firstMet_zero]
 |i+1=>by
  have ih:=iM val i;have hle:=firstMet_length_le val i;have ha:=firstMet_any val i (val i);rw[firstMet_succ,SW,Sc,S6];unfold step_dedup
  by_cases h:(firstMet val i).any (· == val i)=true
  .rw[NR h]
   constructor
   .intro e;omega
   .intro e;rw[ha,Su]at h;obtain⟨x,hx,e2⟩:=h;have:x=val i:=beq_iff_eq.mp e2;exact NU this (e.2.2 x hx (val i) (by simp))
  .rw[NQ h,R9,Tg]
   constructor
   .intro e;refine⟨ih.mp (by omega),by simp,λx hx y hy=>?_⟩;have hy':y=val i:=by simpa using hy
    subst hy';intro e3;apply h;rw[ha,Su];exact⟨x,hx,beq_iff_eq.mpr e3⟩
   .intro e;rw[ih.mpr e.1]
theorem zh(ns:List Int):(uniq ns).length=ns.length<->ns.Nodup:=by unfold uniq;rw[iM,uF]
section
variable{X:Cx}
def HA(K:Frag)(xs:List V)(H:Hp)(Q:VK):Prop:=match xs with
 | [.ref d]=>∃ns:List Int,aN K H d (ns.map V.int)/\ns.length+1<scanBound/\∀q,H q=none->Q (.ref q) (upd H q (.set (λk=>(uniq ns).any (· == k)) (uniq ns).length))
 |_=>False
theorem yL(hh:X.A.handled=none):bf X (.type "set") (HA X.K):=by
 intro gV s σ H xs us Q I r h;unfold HA at h;split at h
 .rename_i d;obtain⟨ns,hq,hb,q⟩:=h;obtain⟨u,rfl,rx⟩:=di r;cases rx;obtain⟨its,r',pl,hz⟩:=I.list hq;have hlen:=r'.length;rw[RT]at hlen;have hi:Rf its.toArray.toList ns:=mO r';have hs:its.toArray.size=ns.length:=by rw[RZ,<-hlen]
  refine call_set_list hh pl.isList hi (by rw[hs];exact hb) λh' tk hS kp=>?_;rw[hs]at hS;have k2:∀b u,s.heap.get? b=some u->h'.get? b=some u:=λb u e=>kp b u (N4 e) e;exact⟨.ref s.heap.objs.size,_,I.laid (t':=tk) k2 (TX _) (show bD X.prog X.w _ h' _ (.set _ _)from hS),rfl,q _ (I.hok.fresh (TX _))⟩
 .exact h.elim
def GM(xs:List V)(H:Hp)(Q:VK):Prop:=match xs with
 | [.ref d]=>∃S n,H d=some (.set S n)/\Q (.int n) H
 |_=>False
theorem vJ:bf X (.builtin "len") GM:=by
 intro gV s σ H xs us Q I r h;unfold GM at h;split at h
 .rename_i d;obtain⟨S,n,hd,q⟩:=h;obtain⟨u,rfl,rx⟩:=di r;cases rx;obtain⟨o,es,ep,t,h1,h2,h3,_,_,h6,h7,h8⟩:=(show bD X.prog X.w H s.heap d (.set S n)from I.hok d _ hd);subst h8;have hb:es.size<4096:=h6;exact PySem.call_len_set h1 h2 h3 h7 (by omega) ⟨.int es.size,H,I.tok _,⟨_,rfl⟩,q⟩
 .exact h.elim
def zD(K:Frag)(xs:List V)(H:Hp)(Q:VK):Prop:=match xs with
 | [.ref d]=>∃ns:List Int,aN K H d (ns.map V.int)/\ns.length<64/\∀(ns':List Int) q,ns'.Perm ns->ns'.Pairwise (·<=·)->H q=none->Q (.ref q) (upd H q (.lst (ns'.map V.int)))
 |_=>False
theorem vF:bf X (.builtin "sorted") (zD X.K):=by
 intro gV s σ H xs us Q I r h;unfold zD at h;split at h
 .rename_i d;obtain⟨ns,hq,hb,q⟩:=h;obtain⟨u,rfl,rx⟩:=di r;cases rx;obtain⟨its,r',pl,hz⟩:=I.list hq;have hlen:=r'.length;rw[RT]at hlen;refine sorted_ints pl.isList (mO r') (by omega) λout ns' a1 a2 a3=>?_;obtain⟨e,he⟩:=sortedAll_at s.heap its out;have hl:=a2.length_eq;have hz':(ns'.map V.int).length<=v1:=by rw[RT,hl,Oc];omega
  exact⟨.ref (s.heap.objs.size+1),_,I.laid (t':=s.toks) (λ_ _=>sortedAll_old) (T3 _) (show bD X.prog X.w _ _ _ (.lst (ns'.map V.int))from⟨hz',out.toList,e,kj a1,by simpa[Pl]using he⟩),rfl,q ns' _ a2 a3 (I.hok.fresh (T3 _))⟩
 .exact h.elim
def wA(K:Frag)(xs:List V)(H:Hp)(Q:VK):Prop:=match xs with
 | [.ref d]=>∃ys,(aN K H d ys\/cJ K H d ys)/\∀l,H l=none->Q (.ref l) (upd H l (.lst ys))
 |_=>False
theorem vI:bf X (.type "list") (wA X.K):=(qN (X:=X)).imp λxs H Q h=>by
 unfold wA at h;split at h
 .obtain⟨ys,h1,q⟩:=h;exact⟨_,ys,rfl,h1,q⟩
 .exact h.elim
theorem Nw(K:Frag){j:Nat}(hr:cY j X.A)(hK:X.K=K:=by rfl):bf X (.type "set") (HA K):=by subst hK;exact yL hr.hd
theorem LW(K:Frag)(hK:X.K=K:=by rfl):bf X (.builtin "sorted") (zD K):=by subst hK;exact vF
theorem wF(K:Frag)(hK:X.K=K:=by rfl):bf X (.type "list") (wA K):=by subst hK;exact vI
theorem CJ{T:BT}{a:VB}{xs:List V}{H:Hp}{Q:VK}(h:H a=some (.lst xs))(q:Q (.bl (dN .list T)) H):wJ T (.ref a) H Q:=by simp only[wJ,h];exact q
end
theorem tf{x:V}(h:flatV x=true):eqV x x=true:=by cases x<;>simp_all[flatV,eqV]
theorem A9{K:Frag}{H:Hp}{n:Nat}{a b:VB}{xs:List V}(ha:aN K H a xs)(hb:aN K H b xs)(hf:xs.all flatV=true):oQ K H (n+1) (.ref a) (.ref b) true:=by
 have h:oQ K H (n+1) (.ref a) (.ref b) ((List.range xs.length).all λ_=>true):=.lst ha hb rfl λi x y hx hy=>by
  rw[hx]at hy;cases hy;have hfx:=Sh.mp hf x (Sl hx);have:=t7.flat (K:=K) (H:=H) (n:=n) hfx hfx
  rwa[tf hfx]at this
 have e:((List.range xs.length).all λ_=>true)=true:=Sh.mpr λ_ _=>rfl
 rwa[e]at h
theorem oC(zs:List Int):(zs.map V.int).all flatV=true:=Sh.mpr λx hx=>by obtain⟨z,_,rfl⟩:=RW.mp hx;rfl
def Fl(K:Frag)(H:Hp)(p:VB)(f:Str)(v:V):Prop:= ∃C dx fs,H p=some (.ins C dx fs)/\tX K C/\cm K C f/\fs.lookup f=some v
def ND(K:Frag)(x:V)(f:Str)(H:Hp)(Q:VK):Prop:=match x with
 | .ref a=>∃v,Fl K H a f v/\Q v H
 |_=>False
def IX(K:Frag)(to:TE)(f:Str):TE:=λσ H Q=>to σ H λx H1=>ND K x f H1 Q
def tW(C:VB)(m:Str)(H:Hp)(a:VB):Prop:= ∃dx fs,H a=some (.ins C dx fs)/\fs.lookup m=none
structure nj(P:N5)(w:N9)(K:Frag)(mg:NX)(np:Oe)(C:VB)(m:Str)(ps:List Str)(k:Nat)(sp:Sp):Prop where
 ex:∃f fd,aY P w K mg np cK k f fd ps sp/\MC K C m f/\jp K fd ps []
 cl:tX K C
structure oO(P:N5)(w:N9)(K:Frag)(mg:NX)(np:Oe)(name:Str)(C:VB)(ps:List Str)(k:Nat)(sp:Sp):Prop where
 ex:∃f fd,Mk K C f/\aY P w K mg np cK k f fd ps sp/\mg name=some (.ref C)/\jp K fd ps []
def LP(C:VB)(m:Str)(x:V)(H:Hp)(R:VB->Prop):Prop:=match x with
 | .ref a=>tW C m H a/\R a
 |_=>False
def Br(C:VB)(m:Str)(sp:Sp)(to:TE)(t:TA):TE:=λσ H Q=>to σ H λx H1=>LP C m x H1 λa=>t σ H1 λvs H2=>sp (.ref a::vs) H2 Q E0
def xb(C:VB)(sp:Sp)(t:TA):TE:=λσ H Q=>t σ H λvs H1=>∀x dx,H1 x=none->H1 dx=none->dx≠x->sp (.ref x::vs) (upd (upd H1 dx (.own x)) x (.ins C dx [])) (λv H2=>v=.non/\Q (.ref x) H2) E0
section
variable{X:Cx}{e o value:Ol}{te to tv:TE}{p pos pos' apos:Qa}{es:List Ol}{t:TA}{f m:Str}
theorem cC(K:Frag)(ho:PE X o to)(hb:OE o f X.env (Ow o X.env)=Ow o X.env:=by rfl)(hK:X.K=K:=by rfl):PE X (.Attribute o f pos) (IX K to f):=by
 subst hK;intro gV s σ H Q I h;refine Di hb (bM (ho gV s σ H _ I h) λu s1 ⟨x,H1,I1,rx,q1⟩=>?_);cases x with
 |ref a=>
  obtain⟨v,⟨C,dx,fs,ea,c,n,l⟩,q⟩:=q1;obtain rfl:u=Of a:=rx;exact vm I1 ea c n l λu' s2 I2 ru=>⟨v,H1,I2,ru,q⟩
 |_=>exact q1.elim
theorem jj(K:Frag)(ho:PE X o to)(hv:PE X value tv)(hs:QN value (some (.Attribute o f pos')) pos.line X.env=pure false:=by rfl)(hK:X.K=K:=by rfl):PS X (.Assign [.Attribute o f pos'] value pos) (xG K to tv f):=by subst hK;exact HM ho hv hs
theorem oo{C:VB}{ps:List Str}{k j:Nat}{sp:Sp}{pl:RS Bool}(M:nj X.prog X.w X.K X.mg X.np C m ps k sp)(hr:cY j X.A)(ho:PE X o to)(ha:PA X (e::es) t)(hkj:k<=j:=by decide)(hp:(e::es).all gy=true:=by rfl)(ht:Ow (.Call (.Attribute o m apos) (e::es) [] pos) X.env=(do
   let ov<-Ow o X.env
   standAt apos.atName
   let (f,first)<-QU [ov] (getMethod ov m pl)
   callWith pos f first (Ot pos (N6 (e::es) X.env)) (P4 pos (Pe [] X.env))):=by rfl):PE X (.Call (.Attribute o m apos) (e::es) [] pos) (Br C m sp to t):=by
 obtain⟨f,fd,F,hm,hb⟩:=M.ex;have hp':=hp;rw[So,UD]at hp';intro gV s σ H Q I h;refine PySem.W.methodCall_KW (pl:=pl) (bM (ho gV s σ H _ I h) λu s1 ⟨x,H1,I1,rx,q⟩=>?_) ht;cases x with
 |ref a=>
  obtain⟨⟨dx,fs,ea,l⟩,q⟩:=q;obtain rfl:u=Of a:=rx;refine vk I1 ea M.cl hm l ?_;refine Vp (first:=[.ref a]) (h₀:=X.np) I.ok.mod.kin hm.kp (bM (ha pos gV s1 σ H1 _ I1 q) λus s2 ⟨vs,H2,I2,r,q2⟩=>⟨I2.kIn,?_⟩) (fB hp'.1) (ic hp'.2);refine zL (us:=.ref a::us) (vs:=.ref a::vs) (dvs:=[]) (ds:=[]) F (hr.mono hkj) hb .nil Am I2 (.cons rfl r) ?_;rw[Sw];exact q2
 |_=>exact q.elim
theorem GO{name:Str}{C:VB}{ps:List Str}{k j:Nat}{sp:Sp}(M:oO X.prog X.w X.K X.mg X.np name C ps k sp)(hr:cY j X.A)(ha:PA X (e::es) t)(hkj:k+1<=j:=by decide)(hp:(e::es).all gy=true:=by rfl)(hg:Gl X name:=by rfl)(hdb:(name == ("__debug__":Str))=false:=by decide):PE X (.Call (.Name name p) (e::es) [] pos) (xb C sp t):=by obtain⟨f,fd,MK,F,hm,hb⟩:=M.ex;have hp':=hp;rw[So,UD]at hp';refine(Cf MK F (hr.mono hkj) hg hm hb .nil Am ha hdb (fB hp'.1) (ic hp'.2):PE X _ (zo C sp [] E0 t)).imp λσ H Q h=>?_;unfold zo;simp only[Sw];exact h
end
def SameBut(k:VB)(H H':Hp):Prop:= ∀b o,H b=some o->b≠k->H' b=some o
theorem SameBut.refl{k:VB}(H:Hp):SameBut k H H:=λ_ _ h _=>h
theorem ak.but{k:VB}{H H':Hp}(h:ak H H'):SameBut k H H':=λb o e _=>h b o e
theorem SameBut.trans{k:VB}{H H1 H2:Hp}(a:SameBut k H H1)(b:SameBut k H1 H2):SameBut k H H2:=λc o e n=>b c o (a c o e n) n
theorem SameBut.self{k:VB}{H H':Hp}{o:HO}(a:SameBut k H H'):SameBut k H (upd H' k o):=λc ob e n=>by rw[au n];exact a c ob e n
theorem SameBut.new{k d:VB}{H H':Hp}{o:HO}(a:SameBut k H H')(hd:H d=none):SameBut k H (upd H' d o):=λc ob e n=>by rw[au (aw e hd)];exact a c ob e n
theorem ak.put{d:VB}{H H':Hp}{o:HO}(a:ak H H')(hd:H d=none):ak H (L2.upd H' d o):=λc ob e=>by rw[au (aw e hd)];exact a c ob e
theorem gW{H:Hp}{a b:VB}{o o':HO}(ha:H a=some o)(hb:H b=some o')(h:o≠o'):a≠b:=λe=>by subst e;rw[ha]at hb;exact h (NV hb)
theorem BU{to tv:TE}{f:Str}{K:Frag}{u:TS}{D:dW}{σ:St}{H:Hp}(P:V->Hp->Prop)(h:∀Q:VK,(∀v H',P v H'->Q v H')->tv σ H Q)(p C dx:VB)(hto:∀H'(Q:VK),Q (.ref p) H'->to σ H' Q)(hc:tX K C)(hn:cm K C f)(h2:∀v H',P v H'->∃fs,H' p=some (.ins C dx fs)/\fs.length<1000/\u D σ (upd H' p (.ins C dx (putF f v fs)))):bj (xG K to tv f) u D σ H:=
 h _ λv H' q=>by obtain⟨fs,e,l,r⟩:=h2 v H' q;exact hto _ _ ⟨p,C,dx,fs,rfl,e,hc,hn,l,r⟩
theorem vW{to tv:TE}{f:Str}{K:Frag}{D:dW}{σ:St}{H:Hp}(P:V->Hp->Prop)(h:∀Q:VK,(∀v H',P v H'->Q v H')->tv σ H Q)(p C dx:VB)(hto:∀H'(Q:VK),Q (.ref p) H'->to σ H' Q)(hc:tX K C)(hn:cm K C f)(h2:∀v H',P v H'->∃fs,H' p=some (.ins C dx fs)/\fs.length<1000/\D.nx σ (upd H' p (.ins C dx (putF f v fs)))):xG K to tv f D σ H:=
 h _ λv H' q=>by obtain⟨fs,e,l,r⟩:=h2 v H' q;exact hto _ _ ⟨p,C,dx,fs,rfl,e,hc,hn,l,r⟩
def Ev(t:TE)(σ:St)(H:Hp)(v:V):Prop:= ∀Q:VK,Q v H->t σ H Q
def Tv(t:TT)(σ:St)(H:Hp)(b:Bool):Prop:= ∀Q:Bool->Hp->Prop,Q b H->t σ H Q
def Av(t:TA)(σ:St)(H:Hp)(vs:List V):Prop:= ∀Q:List V->Hp->Prop,Q vs H->t σ H Q
section
variable{K:Frag}{σ:St}{H:Hp}{ta tb tc te to:TE}{t u:TT}{x y:V}{i j k:Int}{a b:Bool}{z z':Str}
theorem ao:Ev (tC x) σ H x:=λQ q=>q
theorem ae{n:Nat}(h:σ[n]? =some (some x)):Ev (eF n) σ H x:=λQ q=>by unfold eF;rw[h];exact q
theorem bK(ha:Ev ta σ H (.int i))(hb:Ev tb σ H (.int j)):Ev (nK .Add ta tb) σ H (.int (i+j)):=λQ q=>ha _ (hb _ q)
theorem eC(ha:Ev ta σ H (.int i))(hb:Ev tb σ H (.int j)):Ev (nK .Sub ta tb) σ H (.int (i - j)):=λQ q=>ha _ (hb _ q)
theorem eE(ha:Ev ta σ H (.int i))(hb:Ev tb σ H (.int j))(h:yX i j):Ev (nK .Mult ta tb) σ H (.int (i*j)):=λQ q=>ha _ (hb _ ⟨h,q⟩)
theorem bO(ha:Ev ta σ H (.int i))(hb:Ev tb σ H (.int j))(h:Dp i j):Ev (nK .FloorDiv ta tb) σ H (.int (i / j)):=λQ q=>ha _ (hb _ ⟨h,q⟩)
theorem a7(ha:Ev ta σ H (.int i))(hb:Ev tb σ H (.int j))(h:0<j):Ev (nK .Mod ta tb) σ H (.int (i % j)):=λQ q=>ha _ (hb _ ⟨h,q⟩)
theorem vq(ha:Ev ta σ H (.int i)):Ev (C7 ta) σ H (.int (-i)):=λQ q=>ha _ q
theorem ia(ha:Ev ta σ H (.str z))(hb:Ev tb σ H (.str z'))(h:z.length+z'.length<=v1):Ev (nK .Add ta tb) σ H (.str (z++z')):=λQ q=>ha _ (hb _ ⟨h,q⟩)
theorem bb{p:VB}{f:Str}(ho:Ev to σ H (.ref p))(h:Fl K H p f x):Ev (IX K to f) σ H x:=λQ q=>ho _ ⟨x,h,q⟩
theorem aT{p:VB}{xs:List V}(ho:Ev to σ H (.ref p))(hi:Ev ta σ H (.int i))(h:aN K H p xs\/cJ K H p xs)(e:jn xs i=some x):Ev (tK K to ta) σ H x:=λQ q=>ho _ (hi _ ⟨xs,x,h,e,q⟩)
theorem cf{c:Nat}(ho:Ev to σ H (.str z))(hi:Ev ta σ H (.int i))(h:z.length<=v1)(e:jn z.cps.toList i=some c):Ev (tK K to ta) σ H (.str ⟨#[c]⟩):=λQ q=>ho _ (hi _ ⟨h,c,e,q⟩)
theorem cX{p:VB}{xs:List V}(ho:Ev to σ H (.ref p))(h:aN K H p xs\/cJ K H p xs):Ev (cB (sT K) (bo to cL)) σ H (.int xs.length):=λQ q=>ho _ ⟨xs,h,q⟩
theorem lO(ho:Ev to σ H (.str z))(h:z.length<=v1):Ev (cB (sT K) (bo to cL)) σ H (.int z.length):=λQ q=>ho _ ⟨h,q⟩
theorem IK{p:VB}{xs:List V}{T:BT}(ho:Ev to σ H (.ref p))(h:H p=some (.lst xs)):Ev (Jv T to) σ H (.bl (dN .list T)):=λQ q=>ho _ (CJ h q)
theorem II(ha:Ev ta σ H (.bl a)):Ev (xa ta) σ H (.bl (!a)):=λQ q=>ha _ q
theorem cO(ha:Ev ta σ H (.bl a))(hb:a=true->Ev tb σ H (.bl b)):Ev (tL ta tb) σ H (.bl (a&&b)):=λQ q=>ha _ (by
 cases a with
 |true=>exact hb rfl Q q
 |false=>exact q)
theorem Mf(ha:Ev ta σ H (.bl a))(hb:a=false->Ev tb σ H (.bl b)):Ev (C6 ta tb) σ H (.bl (a||b)):=λQ q=>ha _ (by
 cases a with
 |true=>exact q
 |false=>exact hb rfl Q q)
theorem mT(ht:Tv t σ H b)(h1:b=true->Ev ta σ H x)(h2:b=false->Ev tb σ H y):Ev (Jq t ta tb) σ H (if b=true then x else y):=λQ q=>ht _ (by
 cases b with
 |true=>exact iI (h1 rfl _ q)
 |false=>exact iJ (h2 rfl _ q))
theorem fT(ha:Ev ta σ H (.int i))(hb:Ev tb σ H (.int j)):Ev (eY K .Eq ta tb) σ H (.bl (decide (i=j))):=λQ q=>ha _ (hb _ q)
theorem jk(ha:Ev ta σ H (.int i))(hb:Ev tb σ H (.int j)):Ev (eY K .NotEq ta tb) σ H (.bl (!decide (i=j))):=λQ q=>ha _ (hb _ q)
theorem wR(ha:Ev ta σ H (.int i))(hb:Ev tb σ H (.int j)):Ev (eY K .Lt ta tb) σ H (.bl (decide (i<j))):=λQ q=>ha _ (hb _ q)
theorem A6(ha:Ev ta σ H (.int i))(hb:Ev tb σ H (.int j)):Ev (eY K .GtE ta tb) σ H (.bl (decide (j<=i))):=λQ q=>ha _ (hb _ q)
theorem fS(ha:Ev ta σ H (.str z))(hb:Ev tb σ H (.str z')):Ev (eY K .Eq ta tb) σ H (.bl (decide (z=z'))):=λQ q=>ha _ (hb _ q)
theorem iN(ha:Ev ta σ H (.str z))(hb:Ev tb σ H (.str z')):Ev (eY K .NotEq ta tb) σ H (.bl (!decide (z=z'))):=λQ q=>ha _ (hb _ q)
theorem sX(i:Int)(ns:List Int):CK (.int i) (ns.map V.int)=decide (i∈ns):=by
 unfold CK;rw[S7]
 by_cases h:i∈ns
 .rw[C0 h];exact Su.mpr ⟨i,h,by simp[eqV]⟩
 .rw[NP h];apply SF.mpr;intro y hy;have:y≠i:=λe=>h (e▸hy);simp[eqV,this]
theorem Mh{p:VB}{ns:List Int}(ha:Ev ta σ H (.int i))(hb:Ev tb σ H (.ref p))(h:aN K H p (ns.map V.int)\/cJ K H p (ns.map V.int)):Ev (eY K .In ta tb) σ H (.bl (decide (i∈ns))):=λQ q=>ha _ (hb _ (by
 rw[jQ];refine⟨p,_,rfl,h,rfl,oC ns,?_⟩;rw[sX];exact q))
theorem qE{p:VB}{ns:List Int}(ha:Ev ta σ H (.int i))(hb:Ev tb σ H (.ref p))(h:aN K H p (ns.map V.int)\/cJ K H p (ns.map V.int)):Ev (eY K .NotIn ta tb) σ H (.bl (!decide (i∈ns))):=λQ q=>ha _ (hb _ (by
 rw[ij];refine⟨p,_,rfl,h,rfl,oC ns,?_⟩;rw[sX];exact q))
theorem mR(ha:Ev ta σ H (.int i))(hb:Ev tb σ H .non):Ev (eY K .IsNot ta tb) σ H (.bl true):=λQ q=>ha _ (hb _ q)
theorem mQ(ha:Ev ta σ H .non)(hb:Ev tb σ H .non):Ev (eY K .IsNot ta tb) σ H (.bl false):=λQ q=>ha _ (hb _ q)
theorem wT(ha:Ev ta σ H (.int i))(hb:Ev tb σ H (.int j))(hc:i<=j->Ev tc σ H (.int k)):Ev (kS K .LtE .LtE ta tb tc) σ H (.bl (decide (i<=j/\j<=k))):=λQ q=>ha _ (hb _ (by
 rw[kF]
 by_cases h:i<=j
 .rw[C0 h];refine hc h _ ?_;have e:decide (i<=j/\j<=k)=decide (j<=k):=by simp[h]
  rw[e]at q;exact q
 .rw[NP h];have e:decide (i<=j/\j<=k)=false:=by simp[h]
  rw[e]at q;exact q))
theorem aH{sp:Sp}{t:TA}{vs:List V}(ht:Av t σ H vs)(h:∀Q:VK,Q x H->sp vs H Q E0):Ev (eA sp t) σ H x:=λQ q=>ht _ (h Q q)
theorem aq:Av cL σ H []:=λQ q=>q
theorem aa{t:TA}{vs:List V}(ha:Ev ta σ H x)(ht:Av t σ H vs):Av (bo ta t) σ H (x::vs):=λQ q=>ha _ (ht _ q)
theorem jm{vs:List V}:Av (NG vs) σ H vs:=λQ q=>q
theorem aZ(h:Ev te σ H (.bl b)):Tv (fX te) σ H b:=λQ q=>h _ q
theorem cE(h:Tv t σ H b):Tv (xv t) σ H (!b):=λQ q=>h _ q
theorem gt(ha:Tv t σ H a)(hb:a=true->Tv u σ H b):Tv (BQ t u) σ H (a&&b):=λQ q=>ha _ (by
 cases a with
 |true=>exact iI (hb rfl _ q)
 |false=>exact iJ q)
theorem fI(ha:Tv t σ H a)(hb:a=false->Tv u σ H b):Tv (Hq t u) σ H (a||b):=λQ q=>ha _ (by
 cases a with
 |true=>exact iI q
 |false=>exact iJ (hb rfl _ q))
theorem vU(ha:Ev ta σ H (.int i))(hb:Ev tb σ H (.int j))(hc:i<=j->Ev tc σ H (.int k)):Tv (j4 K .LtE .Lt ta tb tc) σ H (decide (i<=j/\j<k)):=λQ q=>ha _ (hb _ (by
 rw[kF]
 by_cases h:i<=j
 .rw[C0 h];refine hc h _ ?_;have e:decide (i<=j/\j<k)=decide (j<k):=by simp[h]
  rw[e]at q;exact q
 .rw[NP h];have e:decide (i<=j/\j<k)=false:=by simp[h]
  rw[e]at q;exact q))
end
section
variable{te:TE}{c:TT}{t u:TS}{D:dW}{σ:St}{H:Hp}{v:V}{b:Bool}
theorem aU{i:Nat}(h:Ev te σ H v)(h2:u D (σ.set i (some v)) H):bj (tAsg te (gName i)) u D σ H:=h _ h2
theorem iV{i:Nat}(h:Ev te σ H v)(h2:D.nx (σ.set i (some v)) H):tAsg te (gName i) D σ H:=h _ h2
theorem aM(h:Ev te σ H v)(h2:D.rt v H):cg te D σ H:=h _ h2
theorem bg(hc:Tv c σ H b)(h1:b=true->t {D with nx:=u D} σ H)(h2:b=false->u D σ H):bj (lS c t lR) u D σ H:=hc _ (by
 cases b with
 |true=>exact iI (h1 rfl)
 |false=>exact iJ (h2 rfl))
theorem lD(hc:Tv c σ H b)(h1:b=true->t D σ H)(h2:b=false->D.nx σ H):lS c t lR D σ H:=hc _ (by
 cases b with
 |true=>exact iI (h1 rfl)
 |false=>exact iJ (h2 rfl))
end
section
variable{K:Frag}{σ rest:St}{H:Hp}{tl te:TE}{tt:TT}{src:List (Option Nat)}{Q:VK}
theorem cP:Tv je σ H true:=λQ q=>q
theorem mZ{J:It}{xs:List V}(hz:xs.length<=v1)(hs:dX src σ=none::rest)(p:V->Bool)(f:V->V)(hgo:∀i,i<xs.length->J.go i H)(hstop:J.stop xs.length H)(hyld:∀i v H',i<xs.length->J.yld i H v H'->H'=H/\xs[i]? =some v)(ht:∀x∈xs,Tv tt (some x::rest) H (p x))(he:∀x∈xs,p x=true->Ev te (some x::rest) H (f x))(q:∀d',H d'=none->Q (.ref d') (upd H d' (.lst ((xs.filter p).map f)))):df (gName 0) tt te src σ Q J H:=by
 refine⟨λi m ys σ' H'=>m=xs.length - i/\i<=xs.length/\ys=((xs.take i).filter p).map f/\(∃o,σ'=o::rest)/\H'=H,⟨xs.length,by simp,TZ _,by simp,⟨none,hs⟩,rfl⟩,?_⟩;rintro i m ys σ' H' ⟨rfl,hi,rfl,⟨o,rfl⟩,rfl⟩
 by_cases hlt:i<xs.length
 .refine .inr ⟨hgo i hlt,?_,λx H2 y=>?_⟩
  .rw[RT];have h1:=SK p (xs.take i);rw[Si]at h1;omega
  .obtain⟨rfl,hx⟩:=hyld i x H2 hlt y;have tk:(xs.take (i+1)).filter p=(xs.take i).filter p++(if p x then [x]else []):=take_succ_filter p xs i x hx;have hm:x∈xs:=Sl hx;show tt (some x::rest) H2 _;refine ht x hm _ ?_;cases hp:p x with
   |true=>
    refine iI (he x hm hp _ ?_);refine⟨xs.length - (i+1),by omega,rfl,hlt,?_,⟨_,rfl⟩,rfl⟩;rw[tk,hp,NR rfl,Sc];rfl
   |false=>
    refine iJ ?_;refine⟨xs.length - (i+1),by omega,rfl,hlt,?_,⟨_,rfl⟩,rfl⟩;rw[tk,hp,NQ (by simp),Sw]
 .have e:i=xs.length:=by omega
  subst e;refine .inl ⟨hstop,λd hd=>?_⟩;rw[SX];exact q d hd
theorem fH{d:VB}{xs:List V}(hl:Ev tl σ H (.ref d))(hx:aN K H d xs)(hz:xs.length<=v1)(hs:dX src σ=none::rest)(p:V->Bool)(f:V->V)(ht:∀x∈xs,Tv tt (some x::rest) H (p x))(he:∀x∈xs,p x=true->Ev te (some x::rest) H (f x))(q:∀d',H d'=none->Q (.ref d') (upd H d' (.lst ((xs.filter p).map f)))):tComp (sY K tl) (gName 0) tt te src σ H Q:=
 hl _ ⟨d,rfl,⟨xs,hx⟩,mZ hz hs p f (λi hi=>⟨xs,xs[i],hx,RU hi⟩) ⟨xs,hx,TX _⟩ (λi v H' _ y=>⟨y.1,y.2 xs hx⟩) ht he q⟩
theorem iP{ta:TA}{n:Int}(hl:Av ta σ H [.int n])(h0:0<=n)(hz:n.toNat<=v1)(h1:n<2 ^ 62)(hs:dX src σ=none::rest)(p:V->Bool)(f:V->V)(ht:∀i:Nat,i<n.toNat->Tv tt (some (.int (0+(i:Int)))::rest) H (p (.int (0+(i:Int)))))(he:∀i:Nat,i<n.toNat->p (.int (0+(i:Int)))=true->Ev te (some (.int (0+(i:Int)))::rest) H (f (.int (0+(i:Int)))))(q:∀d',H d'=none->Q (.ref d') (upd H d' (.lst ((((List.range n.toNat).map λ(i:Nat)=>V.int (0+(i:Int))).filter p).map f)))):tComp (mP ta) (gName 0) tt te src σ H Q:=by
 have hin:∀x∈(List.range n.toNat).map λ(i:Nat)=>V.int (0+(i:Int)),∃i:Nat,i<n.toNat/\x=.int (0+(i:Int)):=λx hx=>by obtain⟨i,hi,rfl⟩:=RW.mp hx;exact⟨i,R8.mp hi,rfl⟩
 have hlen:((List.range n.toNat).map λ(i:Nat)=>V.int (0+(i:Int))).length=n.toNat:=by simp
 refine hl _ ⟨n,rfl,by omega,h1,mZ (xs:=(List.range n.toNat).map λ(i:Nat)=>V.int (0+(i:Int))) (by rw[hlen];exact hz) hs p f (λi hi=>by rw[hlen]at hi;exact hi) (by rw[hlen];exact TX _) (λi v H' hi y=>⟨y.1,?_⟩) (λx hx=>?_) (λx hx hp=>?_) q⟩
 .rw[hlen]at hi;rw[RX,SE hi,y.2];rfl
 .obtain⟨i,hi,rfl⟩:=hin x hx;exact ht i hi
 .obtain⟨i,hi,rfl⟩:=hin x hx;exact he i hi hp
end
section
variable{K:Frag}{te to tv:TE}{t:TA}{c:TT}{u:TS}{D:dW}{σ:St}{H:Hp}{v x y:V}
theorem lN{C p:VB}{m:Str}{sp:Sp}{vs:List V}(ho:Ev to σ H (.ref p))(hi:tW C m H p)(ht:Av t σ H vs)(h:∀Q:VK,Q x H->sp (.ref p::vs) H Q E0):Ev (Br C m sp to t) σ H x:=λQ q=>ho _ ⟨hi,ht _ (h Q q)⟩
theorem Ht{l:VB}{xs:List V}(ho:Ev to σ H (.ref l))(he:Ev te σ H y)(hl:H l=some (.lst xs))(hz:xs.length<v1)(h2:u D σ (upd H l (.lst (xs++[y])))):bj (jf (Bs to te)) u D σ H:=ho _ ⟨⟨xs,hl⟩,he _ ⟨xs,hl,hz,h2⟩⟩
theorem BV{l:VB}{xs:List V}(ho:Ev to σ H (.ref l))(he:Ev te σ H y)(hl:H l=some (.lst xs))(hz:xs.length<v1)(h2:D.nx σ (upd H l (.lst (xs++[y])))):jf (Bs to te) D σ H:=ho _ ⟨⟨xs,hl⟩,he _ ⟨xs,hl,hz,h2⟩⟩
theorem ui{f:Str}{p C dx:VB}{fs:List (Str×V)}(h:Ev tv σ H v)(ho:Ev to σ H (.ref p))(hp:H p=some (.ins C dx fs))(hc:tX K C)(hn:cm K C f)(hl:fs.length<1000)(h2:u D σ (upd H p (.ins C dx (putF f v fs)))):bj (xG K to tv f) u D σ H:=h _ (ho _ ⟨p,C,dx,fs,rfl,hp,hc,hn,hl,h2⟩)
theorem jt{i:Nat}(h2:∀q,H q=none->u D (σ.set i (some (.ref q))) (upd H q (.lst []))):bj (tAsg (uf cL) (gName i)) u D σ H:=⟨TZ _,λq hq=>h2 q hq⟩
end
section
variable{K:Frag}{te to ta tb ti:TE}{t:TA}{c:TT}{σ:St}{H:Hp}{Q:VK}{R:Bool->Hp->Prop}{v x y:V}{vs:List V}{sp:Sp}
theorem qW(h:Ev te σ H v)(q:Q v H):te σ H Q:=h Q q
theorem bR(h:Av t σ H vs)(q:sp vs H Q E0):eA sp t σ H Q:=h _ q
theorem kR(h:Av t σ H vs)(q:sp vs H (dw λc H1=>R (!c) H1) E0):xv (fX (eA sp t)) σ H R:=h _ q
theorem NI{r:List V->Hp->VK->Prop}(h:Ev to σ H v)(q:r [v] H Q):cB r (bo to cL) σ H Q:=h _ q
theorem lQ(ha:Ev ta σ H x)(hb:Ev tb σ H y)(q:∀p,H p=none->Q (.ref p) (upd H p (.tup [x,y]))):zm (bo ta (bo tb cL)) σ H Q:=ha _ (hb _ ⟨by show 2<=v1;decide,q⟩)
theorem lc{i:Int}(h:Av t σ H vs)(hz:vs.length<=1000)(hi:∀H',Ev ti σ H' (.int i))(e:jn vs i=some v)(q:∀H',ak H H'->Q v H'):tK K (uf t) ti σ H Q:=h _ ⟨T0 hz (by decide),λp hp=>hi _ _ ⟨vs,v,.inl (aN.of ah),e,q _ ((ak.refl H).upd hp)⟩⟩
end
section
variable{K:Frag}{te to ta tb:TE}{D:dW}{σ:St}{H:Hp}{Q:VK}{x y:V}
theorem xg{l:VB}(ho:Ev to σ H (.ref l))(hl:∃xs,H l=some (.lst xs))(q:te σ H λy H2=>∃xs,H2 l=some (.lst xs)/\xs.length<v1/\D.nx σ (upd H2 l (.lst (xs++[y])))):jf (Bs to te) D σ H:=ho _ ⟨hl,q⟩
end
def oI:Option Int->V
 |some n=>.int n
 |none=>.non
structure iT(K:Frag)(C:VB):Prop where
 cl:tX K C
 wide:cm K C "wide"
 high:cm K C "high"
 holes:cm K C "holes"
 firm:cm K C "firm"
def iQ(wi hi:Int)(ph pf:VB):List (Str×V):=putF "firm" (.ref pf) (putF "holes" (.ref ph) (putF "high" (.int hi) (putF "wide" (.int wi) [])))
theorem Dd(wi hi:Int)(ph pf:VB):(iQ wi hi ph pf).lookup ("wide":Str)=some (.int wi):=by unfold iQ;rw[ay,NQ (by decide+kernel),ay,NQ (by decide+kernel),ay,NQ (by decide+kernel),ay,NR rfl]
theorem De(wi hi:Int)(ph pf:VB):(iQ wi hi ph pf).lookup ("high":Str)=some (.int hi):=by unfold iQ;rw[ay,NQ (by decide+kernel),ay,NQ (by decide+kernel),ay,NR rfl]
theorem Bu(wi hi:Int)(ph pf:VB):(iQ wi hi ph pf).lookup ("holes":Str)=some (.ref ph):=by unfold iQ;rw[ay,NQ (by decide+kernel),ay,NR rfl]
theorem Df(wi hi:Int)(ph pf:VB):(iQ wi hi ph pf).lookup ("firm":Str)=some (.ref pf):=by unfold iQ;rw[ay,NR rfl]
theorem Mw(wi hi:Int)(ph pf:VB){m:Str}(h1:¬m="wide")(h2:¬m="high")(h3:¬m="holes")(h4:¬m="firm"):(iQ wi hi ph pf).lookup m=none:=by unfold iQ;rw[ay,NQ h4,ay,NQ h3,ay,NQ h2,ay,NQ h1];rfl
def firmL(wi hi:Int)(hs:List Int):List Bool:=(List.range (wi*hi).toNat).map λ(s:Nat)=> !decide ((s:Int)∈hs)
structure cb(K:Frag)(C:VB)(H:Hp)(p:VB)(wi hi:Int)(hs:List Int):Prop where
 ex:∃dx ph pf,H p=some (.ins C dx (iQ wi hi ph pf))/\H ph=some (.lst (hs.map V.int))/\H pf=some (.lst ((firmL wi hi hs).map V.bl))
 w1:1<=wi
 w8:wi<=8
 h1:1<=hi
 h8:hi<=8
 good:∀h∈hs,0<=h/\h<wi*hi
 srt:hs.Pairwise (·<=·)
 nd:hs.Nodup
section
variable{K:Frag}{C:VB}{H H':Hp}{p:VB}{wi hi:Int}{hs:List Int}
theorem cb.same(B:cb K C H p wi hi hs)(s:ak H H'):cb K C H' p wi hi hs:=by obtain⟨⟨dx,ph,pf,a,b,c⟩,w1,w8,h1,h8,g,sr,nd⟩:=B;exact⟨⟨dx,ph,pf,s _ _ a,s _ _ b,s _ _ c⟩,w1,w8,h1,h8,g,sr,nd⟩
theorem cb.wide(B:cb K C H p wi hi hs)(D:iT K C):Fl K H p "wide" (.int wi):=by obtain⟨dx,ph,pf,a,_,_⟩:=B.ex;exact⟨C,dx,_,a,D.cl,D.wide,Dd _ _ _ _⟩
theorem cb.high(B:cb K C H p wi hi hs)(D:iT K C):Fl K H p "high" (.int hi):=by obtain⟨dx,ph,pf,a,_,_⟩:=B.ex;exact⟨C,dx,_,a,D.cl,D.high,De _ _ _ _⟩
theorem cb.firm(B:cb K C H p wi hi hs)(D:iT K C):∃pf,Fl K H p "firm" (.ref pf)/\H pf=some (.lst ((firmL wi hi hs).map V.bl)):=by obtain⟨dx,ph,pf,a,_,c⟩:=B.ex;exact⟨pf,⟨C,dx,_,a,D.cl,D.firm,Df _ _ _ _⟩,c⟩
theorem cb.holes(B:cb K C H p wi hi hs)(D:iT K C):∃ph,Fl K H p "holes" (.ref ph)/\H ph=some (.lst (hs.map V.int)):=by obtain⟨dx,ph,pf,a,b,c⟩:=B.ex;exact⟨ph,⟨C,dx,_,a,D.cl,D.holes,Bu _ _ _ _⟩,b⟩
theorem cb.no(B:cb K C H p wi hi hs){m:Str}(h1:¬m="wide":=by decide+kernel)(h2:¬m="high":=by decide+kernel)(h3:¬m="holes":=by decide+kernel)(h4:¬m="firm":=by decide+kernel):tW C m H p:=by obtain⟨dx,ph,pf,a,b,c⟩:=B.ex;exact⟨dx,_,a,Mw _ _ _ _ h1 h2 h3 h4⟩
theorem cb.many(B:cb K C H p wi hi hs):1<=wi*hi/\wi*hi<=64:=by have a:=B.w1;have b:=B.w8;have c:=B.h1;have d:=B.h8;have e1:1*1<=wi*hi:=Uq a c (by omega) (by omega);have e2:wi*hi<=8*8:=Uq b d (by omega) (by omega);omega
theorem wQ{s:Int}(h0:0<=s)(h1:s<wi*hi):jn ((firmL wi hi hs).map V.bl) s=some (.bl (!decide (s∈hs))):=by
 have e:s=((s.toNat:Nat):Int):=by omega
 have hl:s.toNat<(wi*hi).toNat:=by omega
 have:((firmL wi hi hs).map V.bl)[s.toNat]? =some (.bl (!decide (((s.toNat:Nat):Int)∈hs))):=by unfold firmL;rw[RX,RX,SE hl];rfl
 have q:=bw this;rw[<-e]at q;exact q
theorem A3:(firmL wi hi hs).length=(wi*hi).toNat:=by unfold firmL;simp
end
def MI(wi hi:Int)(hs:List Int)(s ax up:Int):Option Int:=
 if 0<=s % wi+ax/\s % wi+ax<wi/\0<=s / wi+up/\s / wi+up<hi then(if(s / wi+up)*wi+(s % wi+ax)∈hs then none else some ((s / wi+up)*wi+(s % wi+ax)))else none
def oS(wi s ax up:Int)(k:Nat):Int:=(s / wi+k*up)*wi+(s % wi+k*ax)
def sK(wi hi:Int)(hs:List Int)(s ax up:Int)(k:Nat):Prop:=0<=s % wi+k*ax/\s % wi+k*ax<wi/\0<=s / wi+k*up/\s / wi+k*up<hi/\¬oS wi s ax up k∈hs
instance {wi hi:Int} {hs:List Int} {s ax up:Int} {k:Nat}:Decidable (sK wi hi hs s ax up k):=by unfold sK;infer_instance
def j9(wi hi:Int)(hs:List Int)(s ax up:Int)(n:Nat):Prop:=(∀j<n,sK wi hi hs s ax up (j+1))/\¬sK wi hi hs s ax up (n+1)
def eV(wi s ax up:Int)(n:Nat):List Int:=(List.range n).map λj=>oS wi s ax up (j+1)
theorem j9.uniq{wi hi:Int}{hs hs':List Int}{s ax up:Int}{m n:Nat}(h:j9 wi hi hs s ax up m)(h':j9 wi hi hs' s ax up n)(e:∀x,x∈hs<->x∈hs'):m=n:=by
 have c:∀k,sK wi hi hs s ax up k<->sK wi hi hs' s ax up k:=λk=>by unfold sK;rw[e]
 rcases Ue m n with l|l|l
 .exact NU ((c _).mpr (h'.1 m l)) h.2
 .exact l
 .exact NU ((c _).mp (h.1 n l)) h'.2
theorem jP{wi s ax up:Int}{n:Nat}:(eV wi s ax up n).length=n:=by unfold eV;simp
theorem xJ{wi s ax up:Int}{n:Nat}:eV wi s ax up (n+1)=eV wi s ax up n++[oS wi s ax up (n+1)]:=by unfold eV;rw[SW,Sc];rfl
theorem Aq{wi hi:Int}{hs:List Int}{s ax up:Int}{k:Nat}(w8:wi<=8)(h8:hi<=8)(w1:1<=wi)(s0:0<=s)(s1:s<wi*hi)(n0:¬(ax=0/\up=0))(h:sK wi hi hs s ax up k):k<8:=by
 obtain⟨a,b,c,d,_⟩:=h;have m0:=Uk s (by omega:wi≠0);have m1:=Ul s (by omega:0<wi);have d0:0<=s / wi:=Us s0 (by omega);have d1:s / wi<hi:=Uz (by omega) (by rw[Ur];exact s1);apply Classical.byContradiction;intro hk;have hk:8<=k:=by omega
 have k8:(8:Int)<=(k:Int):=by omega
 rcases Int.lt_trichotomy ax 0 with l|l|l
 .have:(k:Int)*ax<=(k:Int)*(-1):=Ut (by omega) (by omega);omega
 .rcases Int.lt_trichotomy up 0 with l'|l'|l'
  .have:(k:Int)*up<=(k:Int)*(-1):=Ut (by omega) (by omega);omega
  .exact n0 ⟨l,l'⟩
  .have:(k:Int)*1<=(k:Int)*up:=Ut (by omega) (by omega);omega
 .have:(k:Int)*1<=(k:Int)*ax:=Ut (by omega) (by omega);omega
theorem BW{wi s ax up:Int}{k:Nat}(w1:1<=wi)(a:0<=s % wi+k*ax)(b:s % wi+k*ax<wi):oS wi s ax up k % wi=s % wi+k*ax/\oS wi s ax up k / wi=s / wi+k*up:=by
 unfold oS;rw[Int.add_comm ((s / wi+k*up)*wi)]
 constructor
 .rw[Int.add_mul_emod_self_right];exact Uv a b
 .rw[Int.add_mul_ediv_right _ _ (by omega),Int.ediv_eq_zero_of_lt a b];omega
theorem zt{wi s ax up:Int}(w1:1<=wi):oS wi s ax up 0=s:=by unfold oS;have e:=Uw s wi;rw[Ur]at e;have z:((0:Nat):Int)=0:=rfl;rw[z,Int.zero_mul,Int.zero_mul,Int.add_zero,Int.add_zero];exact e
theorem ww{wi hi:Int}{hs:List Int}{s ax up:Int}{k:Nat}(w1:1<=wi)(a:0<=s % wi+k*ax)(b:s % wi+k*ax<wi):MI wi hi hs (oS wi s ax up k) ax up=if sK wi hi hs s ax up (k+1)then some (oS wi s ax up (k+1))else none:=by
 obtain⟨e1,e2⟩:=BW (up:=up) w1 a b;unfold MI;rw[e1,e2];have ze:((k+1:Nat):Int)=(k:Int)+1:=rfl;have f1:s % wi+(k:Int)*ax+ax=s % wi+((k+1:Nat):Int)*ax:=by rw[ze,Int.add_mul,Uu];omega
 have f2:s / wi+(k:Int)*up+up=s / wi+((k+1:Nat):Int)*up:=by rw[ze,Int.add_mul,Uu];omega
 rw[f1,f2];have f3:(s / wi+((k+1:Nat):Int)*up)*wi+(s % wi+((k+1:Nat):Int)*ax)=oS wi s ax up (k+1):=rfl;rw[f3]
 by_cases c:0<=s % wi+((k+1:Nat):Int)*ax/\s % wi+((k+1:Nat):Int)*ax<wi/\0<=s / wi+((k+1:Nat):Int)*up/\s / wi+((k+1:Nat):Int)*up<hi
 .rw[NR c]
  by_cases m:oS wi s ax up (k+1)∈hs
  .rw[NR m,NQ (show¬sK wi hi hs s ax up (k+1)from λz=>z.2.2.2.2 m)]
  .rw[NQ m,NR (show sK wi hi hs s ax up (k+1)from⟨c.1,c.2.1,c.2.2.1,c.2.2.2,m⟩)]
 .rw[NQ c,NQ (show¬sK wi hi hs s ax up (k+1)from λz=>c ⟨z.1,z.2.1,z.2.2.1,z.2.2.2.1⟩)]
def Gz:Sp:=λvs H Q _=>∃t a b:Int,vs=[.int t,.int a,.int b]/\Q (.bl (decide (a<=t/\t<=b))) H
def wd:Sp:=λvs H Q _=>∃w s:Int,vs=[.int w,.int s]/\0<w/\Q (.int (s % w)) H
def rh:Sp:=λvs H Q _=>∃w s:Int,vs=[.int w,.int s]/\0<w/\w<100/\Q (.int (s / w)) H
def zu:Sp:=λvs H Q _=>∃w c r:Int,vs=[.int w,.int c,.int r]/\-100<w/\w<100/\Q (.int (r*w+c)) H
def rC:Sp:=λvs H Q _=>∃(d:VB)(m:Int)(hs:List Int),vs=[.ref d,.int m]/\H d=some (.lst (hs.map V.int))/\(∀h∈hs,0<=h/\h<m)/\hs.Nodup/\(hs.length:Int)<m/\m<=64/\∀H',ak H H'->Q (.bl true) H'
def oY(K:Frag)(C:VB):Sp:=λvs H Q _=>∃(p d dx:VB)(wi hi:Int)(hs:List Int),vs=[.ref p,.int wi,.int hi,.ref d]/\H p=some (.ins C dx [])/\H d=some (.lst (hs.map V.int))/\1<=wi/\wi<=8/\1<=hi/\hi<=8/\(∀h∈hs,0<=h/\h<wi*hi)/\hs.Nodup/\(hs.length:Int)<wi*hi/\
 ∀(hs':List Int) H',hs'.Perm hs->cb K C H' p wi hi hs'->SameBut p H H'->Q .non H'
def v6(K:Frag)(C:VB):Sp:=λvs H Q _=>∃(p:VB)(wi hi:Int)(hs:List Int)(s ax up:Int),vs=[.ref p,.int s,.int ax,.int up]/\cb K C H p wi hi hs/\Q (oI (MI wi hi hs s ax up)) H
def Gu(K:Frag)(C:VB):Sp:=λvs H Q _=>∃(p:VB)(wi hi:Int)(hs:List Int)(s ax up:Int),vs=[.ref p,.int s,.int ax,.int up]/\cb K C H p wi hi hs/\0<=s/\s<wi*hi/\¬(ax=0/\up=0)/\
 ∀(n:Nat)(q:VB)(H':Hp),j9 wi hi hs s ax up n->n<=8->H q=none->H' q=some (.lst ((eV wi s ax up n).map V.int))->ak H H'->Q (.ref q) H'
structure CA(P:N5)(w:N9)(K:Frag)(mg:NX)(np:Oe):Prop where
 is_among:cy P w K mg np "is_among" ["thing","least","most"] 2 Gz
structure CB(P:N5)(w:N9)(K:Frag)(mg:NX)(np:Oe):Prop where
 column_of:cy P w K mg np "column_of" ["wide","square"] 1 wd
 row_of:cy P w K mg np "row_of" ["wide","square"] 1 rh
 square_at:cy P w K mg np "square_at" ["wide","column","row"] 1 zu
structure CB2(P:N5)(w:N9)(K:Frag)(mg:NX)(np:Oe):Prop extends CA P w K mg np where
 are_holes:cy P w K mg np "are_holes" ["thing","many"] 3 rC
structure CB3(P:N5)(w:N9)(K:Frag)(mg:NX)(np:Oe)(cB:VB):Prop extends CB2 P w K mg np where
 Board:oO P w K mg np "Board" cB ["self","wide","high","holes"] 4 (oY K cB)
 Board_moved:nj P w K mg np cB "moved" ["self","square","across","up"] 2 (v6 K cB)
section
variable{X:Cx}{gV:NZ}{σ:St}{H:Hp}{s:N3}{h':Oe}
theorem aK.turned_laid{t':Nat}{e it a:VB}{o:HO}(I:aK X gV σ H s)(k:∀b ob,b≠e->b≠it->s.heap.get? b=some ob->h'.get? b=some ob)(he:iq X gV H e)(hi:iq X gV H it)(hp:s.heap.objs.size<=a)(new:bD X.prog X.w (upd H a o) h' a o):aK X gV σ (upd H a o) {s with heap:=h',toks:=t'}:=by
 obtain⟨e0,e1,e2,e3,e4,e5⟩:=he;obtain⟨i0,i1,i2,i3,i4,i5⟩:=hi;have hn:H a=none:=I.hok.fresh hp;have ne:∀b u,H b=some u->b≠e:=λb u q z=>by rw[z,e0]at q;cases q
 have nit:∀b u,H b=some u->b≠it:=λb u q z=>by rw[z,i0]at q;cases q
 have kk:∀b ob,b∉[e,it]->s.heap.get? b=some ob->h'.get? b=some ob:=λb ob hc q=>k b ob (λz=>hc (by simp[z])) (λz=>hc (by simp[z])) q;refine I.step (g':=s.gens) (d':=s.drawn) (ch:=[e,it]) (λb hb=>?_) (λb ob _ _ hc q _=>kk b ob hc q) (λb ob _ _ hc q _=>⟨ob.slots,kk b ob hc q⟩)
  (λb ob hc q n=>by rw[au (TY (T2 (N4 q) hp))];exact n) (λb ob hc q=>⟨ob,kk b ob hc q⟩) (λb xs q=>by rw[au (aw q hn)];exact q) (λb ob u q=>by rw[au (aw q hn)];exact q)
  (λb ps q=>⟨#[],by rw[au (aw q hn),q];simp⟩) (λm hm=>?_) (λb u q=>?_) I.bare
 .rcases RV.mp hb with rfl|hb
  .exact⟨e3,e1,e4,e5⟩
  .rw[R4.mp hb];exact⟨i3,i1,i4,i5⟩
 .obtain⟨ob,es,ep,ho,r⟩:=hm;exact⟨ob,es,ep,k _ ob (Ne.symm e1) (Ne.symm i1) ho,r⟩
 .by_cases hb:b=a
  .subst hb;rw[ah]at q;cases q;exact new
  .rw[au hb]at q;refine(I.hok b u q).stay (λc v hc z=>k c v ?_ ?_ z) (λc z=>by rw[au (aw z hn)];exact z) λc xs z=>by rw[au (aw z hn)];exact z
   .rcases hc with z|z
    .rw[z];exact ne b u q
    .exact ne c _ z
   .rcases hc with z|z
    .rw[z];exact nit b u q
    .exact nit c _ z
theorem aK.turned2{t':Nat}{e it:VB}(I:aK X gV σ H s)(k:∀b ob,b≠e->b≠it->s.heap.get? b=some ob->h'.get? b=some ob)(he:iq X gV H e)(hi:iq X gV H it):aK X gV σ H {s with heap:=h',toks:=t'}:=by
 obtain⟨e0,e1,e2,e3,e4,e5⟩:=he;obtain⟨i0,i1,i2,i3,i4,i5⟩:=hi;have ne:∀b u,H b=some u->b≠e:=λb u q z=>by rw[z,e0]at q;cases q
 have nit:∀b u,H b=some u->b≠it:=λb u q z=>by rw[z,i0]at q;cases q
 have kk:∀b ob,b∉[e,it]->s.heap.get? b=some ob->h'.get? b=some ob:=λb ob hc q=>k b ob (λz=>hc (by simp[z])) (λz=>hc (by simp[z])) q;refine I.step (g':=s.gens) (d':=s.drawn) (ch:=[e,it]) (λb hb=>?_) (λb ob _ _ hc q _=>kk b ob hc q) (λb ob _ _ hc q _=>⟨ob.slots,kk b ob hc q⟩)
  (λ_ _ _ _ n=>n) (λb ob hc q=>⟨ob,kk b ob hc q⟩) (λ_ _ q=>q) (λ_ _ _ q=>q)
  (λb ps q=>⟨#[],by rw[q];simp⟩) (λm hm=>?_) (λb u q=>?_) I.bare
 .rcases RV.mp hb with rfl|hb
  .exact⟨e3,e1,e4,e5⟩
  .rw[R4.mp hb];exact⟨i3,i1,i4,i5⟩
 .obtain⟨ob,es,ep,ho,r⟩:=hm;exact⟨ob,es,ep,k _ ob (Ne.symm e1) (Ne.symm i1) ho,r⟩
 .refine(I.hok b u q).stay (λc v hc z=>k c v ?_ ?_ z) (λc z=>z) λc xs z=>z
  .rcases hc with z|z
   .rw[z];exact ne b u q
   .exact ne c _ z
  .rcases hc with z|z
   .rw[z];exact nit b u q
   .exact nit c _ z
end
def MD(K:Frag)(a:VB):It:=
 ⟨λi H=>∃xs x,aN K H a xs/\xs[i]? =some x,λi H x H'=>∃t v,x=.ref t/\H t=none/\H'=upd H t (.tup [.int (i:Int),v])/\∀xs,aN K H a xs->xs[i]? =some v,λi H=>∃xs,aN K H a xs/\xs.length<=i⟩
theorem ud{P:N5}{w:N9}{K:Frag}{elts:List Ol}{k0:Nat}{pos:Qa}(a e it:VB)(hne:e≠it):vP P w K (.Tuple elts k0 pos) (MD K a) [e,it] e (λi h=>(∃old,IsEnum h e it (i:Int) old)/\h.IsListIter it a i) where
 mem:=by simp
 obj:=λi h st b hb=>by
  obtain⟨⟨old,he⟩,o,ho,c,d⟩:=st
  rcases RV.mp hb with rfl|hb
  .exact⟨_,he,λv z=>by cases z⟩
  .rw[R4.mp hb];exact⟨o,ho,λv z=>by rw[d]at z;cases z⟩
 keep:=λi h h' st k=>by obtain⟨⟨old,he⟩,hi⟩:=st;exact⟨⟨old,k e (by simp) _ he⟩,hi.at λo x=>k it (by simp) o x⟩
 item:=by
  intro X hP hw hK hc i gV s σ H E I hf st hg;subst hP hw hK;obtain⟨xs,x,hq,hx⟩:=hg;obtain⟨its,rv,p,hz⟩:=I.list hq;obtain⟨u,hu,ru⟩:=rv.get hx;obtain⟨⟨old,he⟩,hit⟩:=st;have fe:=hf e (by simp);have fi:=hf it (by simp);obtain⟨oL,hoL,hcL,nL,hdL⟩:=p.isList;have hai:a≠it:=λz=>by subst z;obtain⟨o',ho',hc',_⟩:=hit;rw[hoL]at ho';cases ho';rw[hcL]at hc';injection hc' with hz';exact NU hz' (by decide)
  have hae:a≠e:=λz=>by subst z;have he':s.heap.get? a=_:=he;rw[hoL]at he';cases he';injection hcL with hz';exact NU hz' (by decide)
  have D:=Draws.list (prog:=X.prog) (w:=X.w) (A:=X.A.in1) (by show X.A.handled=none;exact I.ok.hd hc) it a hai its.toArray;have hlt:i<its.toArray.size:=by have:=(Sd.mp hu).1;simpa using this
  refine QJ D he ⟨hit,p.isList⟩ hlt hne (by simp[hne,hae.symm]) λx' h1 tk hP' ho hs' hT hsz hk=>?_;have ex:x'=u:=by have:its.toArray[i]? =some x':=hP';rw[Tk,hu]at this;exact(NV this).symm
  subst ex;refine⟨_,rfl,Qo ho λh2 he2 sb=>?_⟩;have hlt2:e<s.heap.objs.size:=N4 he;have kk:∀b ob,b≠e->b≠it->s.heap.get? b=some ob->h2.get? b=some ob:=λb ob b1 b2 q=>(sb.2 b b1).trans (hk b ob b1 b2 q);have hT2:h2.get? s.heap.objs.size=some {cls:=.type "tuple",data:=.seq #[.int i tk,x']}:=(sb.2 _ (T4 hlt2)).trans hT;have new:bD X.prog X.w (upd H s.heap.objs.size (.tup [.int (i:Int),x])) h2 s.heap.objs.size (.tup [.int (i:Int),x]):=
   ⟨by show 2<=v1;decide,[.int i tk,x'],.cons ⟨tk,rfl⟩ (.cons ru .nil),⟨_,hT2,rfl,_,rfl⟩⟩
  have I2:=I.turned_laid (t':=tk+1) kk fe fi (TX _) new;refine⟨.ref s.heap.objs.size,_,I2,rfl,⟨_,x,rfl,I.hok.fresh (TX _),rfl,λys hy=>by rw[I.list_inj hy hq];exact hx⟩,⟨⟨_,by simpa using he2⟩,hs'.1.at λo z=>(sb.2 it (Ne.symm hne)).trans z⟩,λb hb=>?_⟩
  rcases RV.mp hb with rfl|hb
  .rw[au (TY hlt2)];exact fe.1
  .rw[R4.mp hb];obtain⟨o',ho',_⟩:=hit;rw[au (TY (N4 ho'))];exact fi.1
 done:=by
   intro X hP hw hK hc i gV s σ H E I hf st hg;subst hP hw hK;obtain⟨xs,hq,hx⟩:=hg;obtain⟨its,rv,p,hz⟩:=I.list hq;obtain⟨⟨old,he⟩,hit⟩:=st;have fe:=hf e (by simp);have fi:=hf it (by simp);have hl:=rv.length;obtain⟨oL,hoL,hcL,nL,hdL⟩:=p.isList;have hai:a≠it:=λz=>by subst z;obtain⟨o',ho',hc',_⟩:=hit;rw[hoL]at ho';cases ho';rw[hcL]at hc';injection hc' with hz';exact NU hz' (by decide)
   have hT:s.TypeIs (.ref e) "enumerate":=⟨_,he,rfl⟩;unfold Ph;refine N0 (Pr (Ov (name:=OG "__next__") hT Q8
    (Oz Q8 hT F.entry_enumerate_next ?_ (F.args_enumerate_next_1 _))))
   show N8 _ _ (field (.ref e) 2 >>= _) _ _ _;refine N0 (OV he rfl (x:=.ref it) rfl ?_);refine N0 (wpAny_nextOf_list_end (by show X.A.handled=none;exact I.ok.hd hc) hit p.isList (by simp;omega) λh' x he' hx'=>?_);obtain⟨o,ho,hcx⟩:=hx';refine N0 (Pk (T:="StopIteration") (b:=true) ⟨o,ho,hcx⟩ Qt ?_);exact N2 ⟨rfl,I.turned2 (t':=s.toks) (λb ob _ b2 q=>he' b ob b2 q) fe fi⟩
 self:=λA i s Q E st h=>by obtain⟨⟨old,he⟩,_⟩:=st;exact PY he h
def yV(x:Str):It:=
 ⟨λi _=>i<x.cps.size,λi H v H'=>∃t c,v=.ref t/\H t=none/\x.cps.toList[i]? =some c/\H'=upd H t (.tup [.int (i:Int),.str ⟨#[c]⟩]),λi _=>i=x.cps.size⟩
theorem g6{prog:N5}{w:N9}{A:Oi}(hh:A.handled=none)(it:VB)(x:Str)(t:Rt):Draws prog w A it [it] x.cps.size (λi v=>∃c u,x.cps[i]? =some c/\v=.str ⟨#[c]⟩ u) (λi h=>h.IsStrIter it (O4 x) x t i):=by
 unfold O4;split
 .exact Draws.strAscii hh it x t
 .exact Draws.strWide hh it x t
theorem uc{P:N5}{w:N9}{K:Frag}{elts:List Ol}{k0:Nat}{pos:Qa}(e it:VB)(x:Str)(t:Rt)(hne:e≠it):vP P w K (.Tuple elts k0 pos) (yV x) [e,it] e (λi h=>(∃old,IsEnum h e it (i:Int) old)/\h.IsStrIter it (O4 x) x t i) where
 mem:=by simp
 obj:=λi h st b hb=>by
  obtain⟨⟨old,he⟩,o,ho,c,d⟩:=st
  rcases RV.mp hb with rfl|hb
  .exact⟨_,he,λv z=>by cases z⟩
  .rw[R4.mp hb];exact⟨o,ho,λv z=>by rw[d]at z;cases z⟩
 keep:=λi h h' st k=>by obtain⟨⟨old,he⟩,o,ho,r⟩:=st;exact⟨⟨old,k e (by simp) _ he⟩,o,k it (by simp) o ho,r⟩
 item:=by
  intro X hP hw hK hc i gV s σ H E I hf st hg;subst hP hw hK;obtain⟨⟨old,he⟩,hit⟩:=st;have fe:=hf e (by simp);have fi:=hf it (by simp);have D:=g6 (prog:=X.prog) (w:=X.w) (A:=X.A.in1) (by show X.A.handled=none;exact I.ok.hd hc) it x t;refine QJ D he hit hg hne (by simp[hne]) λx' h1 tk hP' ho hs' hT hsz hk=>?_;obtain⟨c,u,hcx,rfl⟩:=hP';refine⟨_,rfl,Qo ho λh2 he2 sb=>?_⟩;have hlt2:e<s.heap.objs.size:=N4 he;have kk:∀b ob,b≠e->b≠it->s.heap.get? b=some ob->h2.get? b=some ob:=λb ob b1 b2 q=>(sb.2 b b1).trans (hk b ob b1 b2 q);have hT2:h2.get? s.heap.objs.size=some {cls:=.type "tuple",data:=.seq #[.int i tk,.str ⟨#[c]⟩ u]}:=(sb.2 _ (T4 hlt2)).trans hT;have new:bD X.prog X.w (upd H s.heap.objs.size (.tup [.int (i:Int),.str ⟨#[c]⟩])) h2 s.heap.objs.size (.tup [.int (i:Int),.str ⟨#[c]⟩]):=
   ⟨by show 2<=v1;decide,[.int i tk,.str ⟨#[c]⟩ u],.cons ⟨tk,rfl⟩ (.cons ⟨u,rfl⟩ .nil),⟨_,hT2,rfl,_,rfl⟩⟩
  have I2:=I.turned_laid (t':=tk+1) kk fe fi (TX _) new;have hs2:h2.IsStrIter it (O4 x) x t (i+1):=by obtain⟨o',ho',r⟩:=hs';exact⟨o',(sb.2 it (Ne.symm hne)).trans ho',r⟩
  refine⟨.ref s.heap.objs.size,_,I2,rfl,⟨_,c,rfl,I.hok.fresh (TX _),by rw[UR];exact hcx,rfl⟩,⟨⟨_,by simpa using he2⟩,hs2⟩,λb hb=>?_⟩
  rcases RV.mp hb with rfl|hb
  .rw[au (TY hlt2)];exact fe.1
  .rw[R4.mp hb];obtain⟨o',ho',_⟩:=hit;rw[au (TY (N4 ho'))];exact fi.1
 done:=by intro X hP hw hK hc i gV s σ H E I hf st hg;subst hP hw hK;obtain⟨⟨old,he⟩,hit⟩:=st;have hg:i=x.cps.size:=hg;subst hg;have fe:=hf e (by simp);have fi:=hf it (by simp);have D:=g6 (prog:=X.prog) (w:=X.w) (A:=X.A.in1) (by show X.A.handled=none;exact I.ok.hd hc) it x t;exact wpAny_pyNext_enum_endD D he hit λh' hx=>⟨rfl,I.turned2 (t':=s.toks) (λb ob _ b2 q=>hx b ob b2 q) fe fi⟩
 self:=λA i s Q E st h=>by obtain⟨⟨old,he⟩,_⟩:=st;exact PY he h
section
variable{X:Cx}{p pos pos2:Qa}{a:Ol}{elts:List Ol}{k0:Nat}{ta:TE}
def wL(K:Frag)(ta:TE):TI:=λσ H R=>ta σ H λx H1=>match x with
 | .ref d=>(∃xs,aN K H1 d xs)/\R (MD K d) H1
 | .str z=>R (yV z) H1
 |_=>False
theorem Cd(hm:X.mg "enumerate"=none)(ha:PE X a ta)(hg:Gl X "enumerate":=by rfl)(hs:N6 [a] X.env=[(false,Ow a X.env)]:=by rfl):PI X (.Tuple elts k0 pos2) (.Call (.Name "enumerate" p) [a] [] pos) (wL X.K ta):=by
 intro gV s σ H R I h;have hA:PA X [a] (bo ta cL):=pa_cons ha pan (by rw[hs];rfl);refine Call_ (iH I hg hm qT (PyProof.Rows.callWith_type1 (bM (hA pos gV s σ H (λvs H1=>∃x,vs=[x]/\(match x with| .ref d=>(∃xs,aN X.K H1 d xs)/\R (MD X.K d) H1| .str z=>R (yV z) H1|_=>False)) I ?_) λus s1 ⟨vs,H1,I1,r1,x,e1,q1⟩=>?_) (by rw[hs];rfl) rfl) (by decide) (by decide))
 .show ta σ H _;have e:(λ(x:V)(H1:Hp)=>match x with| .ref d=>(∃xs,aN X.K H1 d xs)/\R (MD X.K d) H1| .str z=>R (yV z) H1|_=>False)=λx H1=>cL σ H1 λxs H2=>∃y,x::xs=[y]/\(match y with| .ref d=>(∃xs,aN X.K H2 d xs)/\R (MD X.K d) H2| .str z=>R (yV z) H2|_=>False):=by
   funext x H1;apply propext
   constructor
   .intro q;exact⟨x,rfl,q⟩
   .rintro⟨y,e,q⟩;have:x=y:=by injection e
    subst this;exact q
  rw[<-e];exact h
 .subst e1;obtain⟨u,rfl,ru⟩:=di r1;cases x with
  |ref d=>
   obtain⟨⟨xs,hq⟩,q⟩:=q1;cases ru;obtain⟨its,rv,pl,hz⟩:=I1.list hq;refine call_enumerate_list pl.isList λh' he hit hsz hk=>?_;have I2:aK X gV σ H1 {s1 with heap:=h'}:=I1.kept (t':=s1.toks) hk;refine PY he ⟨s1.heap.objs.size+1,[s1.heap.objs.size+1,s1.heap.objs.size],_,_,H1,rfl,I2,ud d _ _ (Ud _),⟨⟨_,he⟩,hit⟩,λb hb=>?_,q⟩
   rcases RV.mp hb with rfl|hb
   .exact I1.fpOk (T3 _) (I1.hok.fresh (T3 _))
   .rw[R4.mp hb];exact I1.fpOk (TX _) (I1.hok.fresh (TX _))
  |str z=>
   obtain⟨t,rfl⟩:=ru;refine call_enumerate_str λh' he hit hsz hk=>?_;have I2:aK X gV σ H1 {s1 with heap:=h'}:=I1.kept (t':=s1.toks) hk;refine PY he ⟨s1.heap.objs.size+1,[s1.heap.objs.size+1,s1.heap.objs.size],_,_,H1,rfl,I2,uc _ _ z t (Ud _),⟨⟨_,he⟩,hit⟩,λb hb=>?_,q1⟩
   rcases RV.mp hb with rfl|hb
   .exact I1.fpOk (T3 _) (I1.hok.fresh (T3 _))
   .rw[R4.mp hb];exact I1.fpOk (TX _) (I1.hok.fresh (TX _))
  |_=>exact q1.elim
theorem AF(K:Frag)(hm:X.mg "enumerate"=none)(ha:PE X a ta)(hg:Gl X "enumerate":=by rfl)(hs:N6 [a] X.env=[(false,Ow a X.env)]:=by rfl)(hK:X.K=K:=by rfl):PI X (.Tuple elts k0 pos2) (.Call (.Name "enumerate" p) [a] [] pos) (wL K ta):=by subst hK;exact Cd hm ha hg hs
end
section
variable{X:Cx}
def LR(x:V)(vs:List V)(H:Hp)(Q:VK):Prop:=match x,vs with
 | .str a,[]=>a.length<=v1/\(∀c∈a.cps.toList,c<128)/\Q (.str ⟨a.cps.map lo1⟩) H
 |_,_=>False
theorem Au:qX X "str.lower" LR:=by
 unfold qX;intro gV s σ H x xs v us Q I rx r h;unfold LR at h;split at h
 .rename_i a;obtain⟨hz,ha,q⟩:=h;obtain⟨t,rfl⟩:=rx;cases r;have e:placed a (λi _=>Q3 a.cps i)=a.cps.map lo1:=placed_single a _ lo1 λi c hc=>by
   have hc':a.cps[i]? =some c:=by simpa using hc
   have hlt:=ha c (Sl hc);unfold Q3;rw[hc'];have hne:(c == 0x3A3)=false:=by rw[beq_eq_false_iff_ne];omega
   simp only[hne,Bool.false_and,UE,if_false];exact lowerOf_ascii c hlt
  have hfit:PK (placed a λi _=>Q3 a.cps i).size=false:=by rw[e,UU];unfold PK;exact NP (by show¬a.cps.size > v1;have:a.length=a.cps.size:=rfl;omega)
  refine call_gives F.slot_str_lower (Qb _ _ _) F.entry_str_lower (F.args_str_lower_1 _) (gives_str_lower a t hfit) ?_;rw[e];exact⟨by show(a.cps.map lo1).size<=v1;rw[UU];exact hz,⟨.str _,H,I.tok _,⟨_,rfl⟩,q⟩⟩
 .exact h.elim
theorem vj:∀c,c<128->(Unicode.isUpper c&& !(Unicode.isLower c||Unicode.isTitle c))=decide (65<=c/\c<=90):=by decide+kernel
def ML(x:V)(vs:List V)(H:Hp)(Q:VK):Prop:=match x,vs with
 | .str a,[]=>∃c,a=⟨#[c]⟩/\c<128/\Q (.bl (decide (65<=c/\c<=90))) H
 |_,_=>False
theorem Il:qX X "str.isupper" ML:=by
 unfold qX;intro gV s σ H x xs v us Q I rx r h;unfold ML at h;split at h
 .rename_i a;obtain⟨c,rfl,hc,q⟩:=h;obtain⟨t,rfl⟩:=rx;cases r;refine call_gives F.slot_str_isupper (Qb _ _ _) F.entry_str_isupper (F.args_str_isupper_1 _) (gives_str_isupper _ t) ?_;refine fin_bl I q ?_;rw[<-vj c hc];simp
 .exact h.elim
theorem Nq{a:Str}{H:Hp}{Q:VK}:(LR (.str a) [] H Q)=(a.length<=v1/\(∀c∈a.cps.toList,c<128)/\Q (.str ⟨a.cps.map lo1⟩) H):=rfl
end
abbrev one(c:Nat):Str:=⟨#[c]⟩
def jF(c:Nat):Prop:=97<=c/\c<=122
def Sg(c:Nat):Prop:=c=46\/c=35\/(97<=c/\c<=122)\/(65<=c/\c<=90)
theorem Sg.lt{c:Nat}(h:Sg c):c<128:=by unfold Sg at h;omega
def lf(c:Nat):V:=if c=46\/c=35 then .non else .str (one (lo1 c))
def bB(c:Nat):V:=if c=46\/c=35 then .non else .int (if 65<=c/\c<=90 then 0 else 1)
theorem Bz:("abcdefghijklmnopqrstuvwxyz":Str).cps.toList=[97,98,99,100,101,102,103,104,105,106,107,108,109,110,111,112,113,114,115,116,117,118,119,120,121,122]:=by decide+kernel
theorem dh_in(c:Nat):decide (c∈(".#":Str).cps.toList)=decide (c=46\/c=35):=by
 have e:(".#":Str).cps.toList=[46,35]:=by decide+kernel
 rw[e,UF];simp only[decide_eq_true_eq,RV,Sb,or_false]
theorem Jj{i:Int}(h0:0<=i)(h1:i<26):jn ("abcdefghijklmnopqrstuvwxyz":Str).cps.toList i=some (97+i.toNat):=by
 have e:i=((i.toNat:Nat):Int):=by omega
 have hx:∀k<26,("abcdefghijklmnopqrstuvwxyz":Str).cps.toList[k]? =some (97+k):=by rw[Bz];decide
 have q:=bw (hx i.toNat (by omega));rw[<-e]at q;exact q
theorem Ml(b:Bool):jn (".#":Str).cps.toList (if b=true then 1 else 0)=some (if b=true then 35 else 46):=by
 have e:(".#":Str).cps.toList=[46,35]:=by decide+kernel
 rw[e];cases b<;>decide
theorem BR:(".":Str)=one 46:=by decide+kernel
theorem zq:("#":Str)=one 35:=by decide+kernel
section
variable{K:Frag}{σ rest:St}{H:Hp}{te ta tb tl:TE}{tt:TT}{R:Bool->Hp->Prop}{Q:VK}{c:Nat}{z:Str}{src:List (Option Nat)}
theorem GT(h:Ev te σ H (.str (one c)))(ha:Ev ta σ H (.str (one 46)))(hb:Ev tb σ H (.str (one 35)))(q:∀H',ak H H'->R (decide (c=46\/c=35)) H'):fX (eY K .In te (zm (bo ta (bo tb cL)))) σ H R:=
 h _ (ha _ (hb _ ⟨by show 2<=v1;decide,λt ht=>by
  show aV K .In (.str (one c)) (.ref t) _ (dw R);rw[hU];refine⟨t,_,rfl,.inr (cJ.of ah),rfl,rfl,?_⟩;have e:CK (.str (one c)) [.str (one 46),.str (one 35)]=decide (c=46\/c=35):=by
   unfold CK;have e1:eqV (.str (one 46)) (.str (one c))=decide (c=46):=by
    show((one 46) == (one c))=_
    by_cases h:c=46
    .subst h;simp
    .rw[NP h];exact beq_eq_false_iff_ne.mpr (λe=>h (by have:=NW (λx:Str=>x.cps.toList) e;simp[one]at this;omega))
   have e2:eqV (.str (one 35)) (.str (one c))=decide (c=35):=by
    show((one 35) == (one c))=_
    by_cases h:c=35
    .subst h;simp
    .rw[NP h];exact beq_eq_false_iff_ne.mpr (λe=>h (by have:=NW (λx:Str=>x.cps.toList) e;simp[one]at this;omega))
   show(eqV (.str (one 46)) (.str (one c))||(eqV (.str (one 35)) (.str (one c))||false))=_
   rw[e1,e2]
   by_cases h1:c=46<;>by_cases h2:c=35<;>simp[h1,h2]
  show dw R (.bl (if false then _ else CK (.str (one c)) [.str (one 46),.str (one 35)])) _;rw[e];exact q _ ((ak.refl H).upd ht)⟩))
theorem IL(ha:Ev ta σ H (.str (one c)))(hb:Ev tb σ H (.str z)):Ev (eY K .In ta tb) σ H (.bl (decide (c∈z.cps.toList))):=λQ q=>ha _ (hb _ (by
 show aV K .In _ _ _ _;rw[rY,StrLaws.found_one];exact q))
theorem A4(ha:Ev ta σ H (.str (one c)))(hc:jF c):Ev (yR Jp ta) σ H (.str (one (c - 32))):=λQ q=>ha _ (by
 show Jp (.str (one c)) [] H Q;rw[Lk];refine⟨by show 1<=v1;decide,λd hd=>?_,?_⟩
 .have e:d=c:=by simpa[one]using hd
  have:=hc.2;omega
 have e:(⟨(one c).cps.map up1⟩:Str)=one (c - 32):=by
  show(⟨#[c].map up1⟩:Str)=_;have:up1 c=c - 32:=by unfold up1;exact NR hc
  simp[one,this]
 rw[e];exact q)
theorem GY(ha:Ev ta σ H (.str (one c)))(hc:c<128):Ev (yR LR ta) σ H (.str (one (lo1 c))):=λQ q=>ha _ (by
 show LR (.str (one c)) [] H Q;rw[Nq];refine⟨by show 1<=v1;decide,λd hd=>?_,?_⟩
 .have e:d=c:=by simpa[one]using hd
  omega
 have e:(⟨(one c).cps.map lo1⟩:Str)=one (lo1 c):=by show(⟨#[c].map lo1⟩:Str)=_;simp[one]
 rw[e];exact q)
theorem Mg(ha:Ev ta σ H (.str (one c)))(hc:c<128):Ev (yR ML ta) σ H (.bl (decide (65<=c/\c<=90))):=λQ q=>ha _ (by
 show ML (.str (one c)) [] H Q;exact⟨c,rfl,hc,q⟩)
theorem GX{lo hi:Option Int}{tl' th:TO}(ha:Ev ta σ H (.str z))(hl:∀Q:Option Int->Hp->Prop,Q lo H->tl' σ H Q)(hh:∀Q:Option Int->Hp->Prop,Q hi H->th σ H Q)(hz:z.length<=v1):Ev (Ju K ta tl' th) σ H (.str (jB z lo hi)):=λQ q=>ha _ (hl _ (hh _ ⟨hz,q⟩))
theorem n4:∀Q:Option Int->Hp->Prop,Q none H->lB σ H Q:=λQ q=>q
theorem k5{i:Int}(h:Ev te σ H (.int i)):∀Q:Option Int->Hp->Prop,Q (some i) H->w9 te σ H Q:=λQ q=>h _ q
theorem wf{sd:Int}:aV K .Eq (bB c) (.int sd) H Q=Q (.bl (decide (bB c=.int sd))) H:=by
 unfold bB
 by_cases h:c=46\/c=35
 .rw[NR h];show Q (.bl false) H=Q (.bl (decide (V.non=V.int sd))) H;rw[NP (by intro z;cases z)]
 .rw[NQ h];show Q (.bl (decide (_=sd))) H=Q (.bl (decide (V.int _=V.int sd))) H;have:∀i:Int,decide (i=sd)=decide (V.int i=V.int sd):=λi=>by
   by_cases e:i=sd
   .rw[C0 e,C0 (NW V.int e)]
   .rw[NP e,NP (λz=>e (by injection z))]
  rw[this]
def C1(l:List Nat)(p:Nat->Nat->Bool)(f:Nat->Nat->V)(n:Nat):List V:=((List.range n).filter λi=>p i (l.getD i 0)).map λi=>f i (l.getD i 0)
theorem tw{l:List Nat}{p:Nat->Nat->Bool}{f:Nat->Nat->V}{n:Nat}:C1 l p f (n+1)=C1 l p f n++(if p n (l.getD n 0)=true then [f n (l.getD n 0)]else []):=by
 unfold C1;rw[SW,Tl,Sc];congr 1
 by_cases h:p n (l.getD n 0)=true
 .rw[NR h];have e:(List.filter (λi=>p i (l.getD i 0)) [n])=[n]:=by rw[Sr];exact NR h
  rw[e];rfl
 .rw[NQ h];have e:(List.filter (λi=>p i (l.getD i 0)) [n])=[]:=by rw[Sr];exact NQ h
  rw[e];rfl
theorem CZ{l:List Nat}{p:Nat->Nat->Bool}{f:Nat->Nat->V}{n:Nat}:(C1 l p f n).length<=n:=by unfold C1;rw[RT];exact T0 (SK _ _) (by rw[Sx];exact TX _)
theorem Bk(hl:Ev tl σ H (.str z))(hz:z.length<=1000)(hs:dX src σ=none::none::rest)(p:Nat->Nat->Bool)(f:Nat->Nat->V)(ht:∀(i c:Nat)(H':Hp),z.cps.toList[i]? =some c->ak H H'->∀R:Bool->Hp->Prop,(∀H'',ak H' H''->R (p i c) H'')->tt (some (.int (i:Int))::some (.str (one c))::rest) H' R)(he:∀(i c:Nat)(H':Hp),z.cps.toList[i]? =some c->p i c=true->ak H H'->Ev te (some (.int (i:Int))::some (.str (one c))::rest) H' (f i c))(q:∀H' d,ak H H'->H' d=none->Q (.ref d) (upd H' d (.lst (C1 z.cps.toList p f z.length)))):tComp (wL K tl) (vn K 2 (gZ (gName 0) (gZ (gName 1) yu))) tt te src σ H Q:=by
 refine hl _ ?_;show df _ tt te src σ Q (yV z) H;refine iO z.length (λi ys σ' H'=>ak H H'/\(∃o0 o1,σ'=o0::o1::rest)/\ys=C1 z.cps.toList p f i) (T0 hz (by decide)) (λi ys σ H h=>by rw[h.2.2];exact CZ) (λi ys σ H h hi=>hi) (λys σ H h=>rfl) ⟨ak.refl H,⟨_,_,hs⟩,rfl⟩ ?_ ?_
 .rintro i ys _ H1 x H2 hi ⟨s1,⟨o0,o1,rfl⟩,rfl⟩ ⟨t,c,rfl,ht0,hc,rfl⟩ Kt Kf kt kf;have s2:ak H (upd H1 t (.tup [.int (i:Int),.str ⟨#[c]⟩])):=s1.upd ht0;refine⟨t,_,rfl,cJ.of ah,rfl,_,_,rfl,_,_,rfl,rfl,?_⟩;have eg:z.cps.toList.getD i 0=c:=by rw[RY,hc];rfl
  show tt (some (.int (i:Int))::some (.str (one c))::rest) _ _;refine ht i c _ hc s2 _ (λH3 s3=>?_);cases hp:p i c with
  |true=>
   refine iI (he i c _ hc hp (s2.trans s3) _ (kt _ _ _ ⟨s2.trans s3,⟨_,_,rfl⟩,?_⟩));rw[tw,eg,hp,NR rfl]
  |false=>
   refine iJ (kf _ _ ⟨s2.trans s3,⟨_,_,rfl⟩,?_⟩);rw[tw,eg,hp,NQ (by simp),Sw]
 .rintro ys σ' H' d ⟨s1,_,rfl⟩ hd;exact q H' d s1 hd
end
theorem ow(cs:List Nat):P5 ("":Str) (cs.map one)=⟨cs.toArray⟩:=by
 have key:∀(r:List Nat)(acc:Array Nat),(r.map one).foldl (λacc p=>acc++("":Str).cps++p.cps) acc=acc++r.toArray:=by
  intro r
  induction r with
  |nil=>intro acc;simp
  |cons a r ih=>
   intro acc;rw[Sk,List.foldl_cons,ih];have e:("":Str).cps= #[]:=by decide+kernel
   rw[e];apply UV.mp;simp[one]
 unfold P5 Builtin.Str.glued;cases cs with
 |nil=>rfl
 |cons a r=>
  show(⟨((r.map one).foldl (λacc p=>acc++("":Str).cps++p.cps) (one a).cps)⟩:Str)=_;rw[key];apply lC;simp[one]
def emptyT(wi hi:Int)(hs:List Int):Str:=⟨((List.range (wi*hi).toNat).map λ(s:Nat)=>if(s:Int)∈hs then 35 else 46).toArray⟩
theorem mW{wi hi:Int}{hs:List Int}:(emptyT wi hi hs).length=(wi*hi).toNat:=by unfold emptyT Str.length;simp
def fg(row:Str)(s:Int)(sg:Str):Str:=jB row none (some s)++sg++jB row (some (s+1)) none
def sqsOf(row:Str)(sd:Int):List Int:=((List.range row.length).filter λi=>decide (bB (row.cps.toList.getD i 0)=.int sd)).map λ(i:Nat)=>(i:Int)
theorem kG{row:Str}{s:Int}{c:Nat}(h0:0<=s)(h1:s<row.length):(fg row s (one c)).cps.toList=row.cps.toList.take s.toNat++[c]++row.cps.toList.drop (s.toNat+1):=by
 unfold fg;have e:s=((s.toNat:Nat):Int):=by omega
 have e1:s+1=((s.toNat+1:Nat):Int):=by omega
 rw[dg,dg,i8,i8];have hl:s.toNat<row.length:=by omega
 have f1:HT.sIx row.length row.length (some s)=s.toNat:=by rw[e,HT.sIx_nat];omega
 have f2:HT.sIx row.length 0 (some (s+1))=s.toNat+1:=by rw[e1,HT.sIx_nat];omega
 have f3:HT.sIx row.length 0 none=0:=rfl;have f4:HT.sIx row.length row.length none=row.length:=rfl;rw[f1,f2,f3,f4,SV,Uf];congr 1;rw[SJ];rw[SI,dC];exact TX _
theorem gU{row:Str}{s:Int}{c:Nat}(h0:0<=s)(h1:s<row.length):(fg row s (one c)).length=row.length:=by rw[dC,kG h0 h1,R9,R9,Si,SI,<-dC];show min s.toNat row.length+1+(row.length - (s.toNat+1))=row.length;omega
def oU:Sp:=λvs H Q _=>∃(c:Nat)(sd:Int),vs=[.str (one c),.int sd]/\jF c/\Q (.str (one (if sd=0 then c - 32 else c))) H
def uk:Sp:=λvs H Q _=>∃c:Nat,vs=[.str (one c)]/\c<128/\∀H',ak H H'->Q (lf c) H'
def lX:Sp:=λvs H Q _=>∃c:Nat,vs=[.str (one c)]/\c<128/\∀H',ak H H'->Q (bB c) H'
def Gw(K:Frag)(C:VB):Sp:=λvs H Q _=>∃(p:VB)(wi hi:Int)(hs:List Int)(s:Int),vs=[.ref p,.int s]/\cb K C H p wi hi hs/\Q (.bl (decide (0<=s/\s<wi*hi/\¬s∈hs))) H
def wc(K:Frag)(C:VB):Sp:=λvs H Q _=>∃(p:VB)(wi hi:Int)(hs:List Int),vs=[.ref p]/\cb K C H p wi hi hs/\∀H',ak H H'->Q (.str (emptyT wi hi hs)) H'
def Gv:Sp:=λvs H Q _=>∃(row:Str)(s:Int)(c:Nat),vs=[.str row,.int s,.str (one c)]/\0<=s/\row.length<=100/\Q (.str (fg row s (one c))) H
def nQ:Sp:=λvs H Q _=>∃(row:Str)(sd:Int),vs=[.str row,.int sd]/\row.length<=100/\(∀c∈row.cps.toList,c<128)/\∀(q:VB)(H':Hp),H q=none->H' q=some (.lst ((sqsOf row sd).map V.int))->ak H H'->Q (.ref q) H'
section
variable{K:Frag}{σ:St}{H:Hp}{tb:TE}{t:TA}{op:Po}{R:Bool->Hp->Prop}{vs:List V}{sp:Sp}
theorem vv:Ev (tC (.str ".")) σ H (.str (one 46)):=by rw[<-BR];exact ao
theorem qF:Ev (tC (.str "#")) σ H (.str (one 35)):=by rw[<-zq];exact ao
theorem wU(h:Av t σ H vs)(q:sp vs H (λx H1=>tb σ H1 λy H2=>aV K op x y H2 (dw R)) E0):fX (eY K op (eA sp t) tb) σ H R:=h _ q
end
theorem GA{σ:St}{H:Hp}{Q:VK}{to te:TE}{z:Str}{r:V->List V->Hp->VK->Prop}(ho:Ev to σ H (.str z))(q:te σ H λx H2=>r (.str z) [x] H2 Q):Ms r to (bo te cL) σ H Q:=ho _ q
structure CP1(P:N5)(w:N9)(K:Frag)(mg:NX)(np:Oe):Prop where
 side_of:cy P w K mg np "side_of" ["sign"] 1 lX
structure CP2(P:N5)(w:N9)(K:Frag)(mg:NX)(np:Oe)(cB:VB):Prop where
 Board_has:nj P w K mg np cB "has" ["self","square"] 3 (Gw K cB)
section
variable{K:Frag}{σ rest:St}{H:Hp}{te to ta tb tl:TE}{t:TA}{tt u:TT}{src:List (Option Nat)}{Q:VK}{R:Bool->Hp->Prop}{D:dW}{g:TG}{tB:TS}{v x y:V}{vs:List V}{sp:Sp}
theorem wS{b:Bool}(h:Ev te σ H (.bl b)):Ev (cB yq (bo te cL)) σ H (.int (if b then 1 else 0)):=λQ q=>h _ q
theorem yG{ta:TA}{n:Int}(hl:∀Q:List V->Hp->Prop,(∀H',ak H H'->Q [.int n] H')->ta σ H Q)(h0:0<=n)(hz:n.toNat<=v1)(h1:n<2 ^ 62)(hs:dX src σ=none::rest)(p:V->Bool)(f:V->V)(ht:∀(i:Nat) H',ak H H'->i<n.toNat->Tv tt (some (.int (0+(i:Int)))::rest) H' (p (.int (0+(i:Int)))))(he:∀(i:Nat) H',ak H H'->i<n.toNat->p (.int (0+(i:Int)))=true->Ev te (some (.int (0+(i:Int)))::rest) H' (f (.int (0+(i:Int)))))(q:∀H' d',ak H H'->H' d'=none->Q (.ref d') (upd H' d' (.lst ((((List.range n.toNat).map λ(i:Nat)=>V.int (0+(i:Int))).filter p).map f)))):tComp (mP ta) (gName 0) tt te src σ H Q:=by
 have hin:∀x∈(List.range n.toNat).map λ(i:Nat)=>V.int (0+(i:Int)),∃i:Nat,i<n.toNat/\x=.int (0+(i:Int)):=λx hx=>by obtain⟨i,hi,rfl⟩:=RW.mp hx;exact⟨i,R8.mp hi,rfl⟩
 have hlen:((List.range n.toNat).map λ(i:Nat)=>V.int (0+(i:Int))).length=n.toNat:=by simp
 refine hl _ λH' s=>⟨n,rfl,by omega,h1,mZ (xs:=(List.range n.toNat).map λ(i:Nat)=>V.int (0+(i:Int))) (by rw[hlen];exact hz) hs p f (λi hi=>by rw[hlen]at hi;exact hi) (by rw[hlen];exact TX _) (λi v H2 hi y=>⟨y.1,?_⟩) (λx hx=>?_) (λx hx hp=>?_) (λd' hd'=>q H' d' s hd')⟩
 .rw[hlen]at hi;rw[RX,SE hi,y.2];rfl
 .obtain⟨i,hi,rfl⟩:=hin x hx;exact ht i H' s hi
 .obtain⟨i,hi,rfl⟩:=hin x hx;exact he i H' s hi hp
theorem kN{ta:TA}(n:Int)(hta:∀Q:List V->Hp->Prop,(∀H',ak H H'->Q [.int n] H')->ta σ H Q)(h0: -(2 ^ 62)<=n)(h1:n<2 ^ 62)(Pv:Nat->St->Hp->Prop)(hp0:∀H',ak H H'->Pv 0 σ H')(hs:∀i σ H,i<n.toNat->Pv i σ H->g (.int (0+i)) σ H λσ2 H2=>tB {D with nx:=Pv (i+1),ct:=Pv (i+1),bk:=D.nx} σ2 H2)(hd:∀σ H,Pv n.toNat σ H->D.nx σ H):tFor (mP ta) g tB D σ H:=
 hta _ λH' s=>⟨n,rfl,h0,h1,oB Pv (hp0 H' s) hs hd⟩
theorem wm{i:Int}{Q:List V->Hp->Prop}(h:Av t σ H vs)(hz:vs.length<=1000)(hi:∀H',Ev te σ H' (.int i))(e:jn vs i=some v)(q:∀H',ak H H'->Q [v] H'):bo (tK K (uf t) te) cL σ H Q:=lc (K:=K) (Q:=λx H1=>Q [x] H1) h hz hi e q
theorem zj{tc:TE}{z:V}(ha:Ev ta σ H x)(hb:Ev tb σ H y)(hc:Ev tc σ H z)(q:∀p,H p=none->Q (.ref p) (upd H p (.tup [x,y,z]))):zm (bo ta (bo tb (bo tc cL))) σ H Q:=ha _ (hb _ (hc _ ⟨by show 3<=v1;decide,q⟩))
theorem Lf(h:Tv tt σ H false)(q:u σ H R):Hq tt u σ H R:=h _ (iJ q)
theorem sZ(P0:VB->Hp->Prop)(htl:∀Q:VK,(∀d H',P0 d H'->Q (.ref d) H')->tl σ H Q)(h:∀d H',P0 d H'->∃xs,aN K H' d xs/\∃Pv:Nat->St->Hp->Prop,Pv 0 σ H'/\(∀i σ' H',Pv i σ' H'->aN K H' d xs)/\
   (∀(i:Nat) x σ' H' t,xs[i]? =some x->Pv i σ' H'->H' t=none->g (.ref t) σ' (upd H' t (.tup [.int (i:Int),x])) λσ2 H2=>tB {D with nx:=Pv (i+1),ct:=Pv (i+1),bk:=D.nx} σ2 H2)/\(∀σ' H',Pv xs.length σ' H'->D.nx σ' H')):tFor (wL K tl) g tB D σ H:=by
 refine htl _ λd H1 p1=>?_;obtain⟨xs,hq,Pv,hp0,hl,hs,hd⟩:=h d H1 p1;refine⟨⟨xs,hq⟩,λi m σ' H'=>m=xs.length - i/\i<=xs.length/\Pv i σ' H',⟨_,rfl,TZ _,hp0⟩,?_⟩;rintro i m σ' H' ⟨rfl,hi,pv⟩;have hS:=hl i σ' H' pv
 by_cases hlt:i<xs.length
 .refine .inr ⟨⟨xs,xs[i],hS,RU hlt⟩,Pv (i+1),λσ2 H2 p2=>⟨xs.length - (i+1),by omega,rfl,hlt,p2⟩,?_⟩;rintro x H2 ⟨t,w,rfl,ht,rfl,hx⟩;exact hs i w σ' H' t (hx xs hS) pv ht
 .have e:i=xs.length:=by omega
  subst e;exact .inl ⟨⟨xs,hS,TX _⟩,hd σ' H' pv⟩
theorem l4{d:VB}{xs:List V}{lo hi:Option Int}{tl' th:TO}(ha:Ev ta σ H (.ref d))(hl:∀Q:Option Int->Hp->Prop,Q lo H->tl' σ H Q)(hh:∀Q:Option Int->Hp->Prop,Q hi H->th σ H Q)(hx:aN K H d xs)(q:∀p,H p=none->Q (.ref p) (upd H p (.lst (fu xs lo hi)))):Ju K ta tl' th σ H Q:=ha _ (hl _ (hh _ ⟨xs,hx,q⟩))
theorem ms{ns:List Int}{i:Int}(h0:0<=i)(h1:i<ns.length):∃n:Int,jn (ns.map V.int) i=some (.int n)/\n∈ns:=by
 have hlt:i.toNat<ns.length:=by omega
 have e:(ns.map V.int)[i.toNat]? =some (.int ns[i.toNat]):=by rw[RX,RU hlt];rfl
 have q:=bw e;have ei:((i.toNat:Nat):Int)=i:=by omega
 rw[ei]at q;exact⟨_,q,Se hlt⟩
theorem Ah{xs:List V}{i:Int}(h0:0<=i)(h1:i<xs.length):∃v,jn xs i=some v/\v∈xs:=by
 have hlt:i.toNat<xs.length:=by omega
 have q:=bw (RU hlt);have ei:((i.toNat:Nat):Int)=i:=by omega
 rw[ei]at q;exact⟨_,q,Se hlt⟩
theorem GU{i j:Nat}{d:VB}{a b:V}{R:St->Hp->Prop}(h:H d=some (.tup [a,b]))(q:R ((σ.set i (some a)).set j (some b)) H):vn K 2 (gZ (gName i) (gZ (gName j) yu)) (.ref d) σ H R:=⟨d,_,rfl,cJ.of h,rfl,_,_,rfl,_,_,rfl,rfl,q⟩
theorem L7{i j l:Nat}{d:VB}{a b c:V}{R:St->Hp->Prop}(h:H d=some (.tup [a,b,c]))(q:R (((σ.set i (some a)).set j (some b)).set l (some c)) H):vn K 3 (gZ (gName i) (gZ (gName j) (gZ (gName l) yu))) (.ref d) σ H R:=⟨d,_,rfl,cJ.of h,rfl,_,_,rfl,_,_,rfl,_,_,rfl,rfl,q⟩
theorem Jd(h:Av t σ H vs)(q:sp vs H (λx H1=>g x σ H1 D.nx) E0):tAsg (eA sp t) g D σ H:=h _ q
theorem Bi{xs:List V}{lo hi:Option Int}{v:V}(h:v∈fu xs lo hi):v∈xs:=TL (SY h)
end
theorem Af:∀(n:Nat)(l:List Int),l.length<n->∃s:Nat,s<n/\¬((s:Int)∈l)
 |0,l,h=>by omega
 |n+1,l,h=>by
  by_cases m:((n:Nat):Int)∈l
  .have hl:=Tn m;have hp:=S8 m;obtain⟨s,h1,h2⟩:=Af n (l.erase ((n:Nat):Int)) (by omega);refine⟨s,by omega,λz=>h2 ?_⟩;exact(To (by omega)).mpr z
  .exact⟨n,by omega,m⟩
def fA(wi hi:Int)(hs:List Int):List Int:=((List.range (wi*hi).toNat).map λ(i:Nat)=>(i:Int)).filter λi=> !decide (i∈hs)
theorem AZ{wi hi:Int}{hs:List Int}{s:Int}(h:s∈fA wi hi hs):0<=s/\s<wi*hi/\¬s∈hs:=by unfold fA at h;rw[Ss]at h;obtain⟨h1,h2⟩:=h;obtain⟨i,hi,rfl⟩:=RW.mp h1;have hi:=R8.mp hi;refine⟨by omega,by omega,?_⟩;intro z;rw[C0 z]at h2;cases h2
theorem yx{wi hi:Int}{hs:List Int}(h:(hs.length:Int)<wi*hi):0<(fA wi hi hs).length:=by obtain⟨s,h1,h2⟩:=Af (wi*hi).toNat hs (by omega);refine S8 (a:=(s:Int)) ?_;unfold fA;rw[Ss];refine⟨RW.mpr ⟨s,R8.mpr h1,rfl⟩,?_⟩;rw[NP h2];rfl
def AY(hs:List Int):V->Bool
 | .int i=> !decide (i∈hs)
 |_=>false
theorem vp{wi hi:Int}{hs:List Int}:(((List.range (wi*hi).toNat).map λ(i:Nat)=>V.int (0+(i:Int))).filter (AY hs)).map (λv=>v)=(fA wi hi hs).map V.int:=by
 unfold fA;rw[List.map_id',Tp,Tp,R5];have e:(AY hs∘λ(i:Nat)=>V.int (0+(i:Int)))=((λi=> !decide (i∈hs))∘λ(i:Nat)=>(i:Int)):=by funext i;show(!decide (0+(i:Int)∈hs))= !decide ((i:Int)∈hs);rw[Uo]
 rw[e];refine Sq λi _=>?_;show V.int (0+(i:Int))=V.int (i:Int);rw[Uo]
def cellAt(ns:List Int)(k:Int):Int:=ns.getD k.toNat 0
def mixed(c k:Int):Int:=(c+7919*k+3)*48271 % 2147483647
def jz(b s:Int)(n:Nat):List Nat:=(List.range n).map λ(k:Nat)=>97+((b+s*(k:Int)) % 26).toNat
theorem vg{b s:Int}{n:Nat}:∀c∈jz b s n,jF c:=by intro c hc;obtain⟨k,_,rfl⟩:=RW.mp hc;unfold jF;omega
theorem yj{b s:Int}{n:Nat}(hn:n<=6)(hs:s∈([1,3,5,7,9,11]:List Int)):(jz b s n).Nodup:=by
 unfold jz;rw[SL,Sv];refine List.Pairwise.imp_of_mem ?_ (SL.mp Tq);intro i j hi hj ne e;have hi:=R8.mp hi;have hj:=R8.mp hj;apply ne;simp only[RV,Sb,or_false]at hs
 rcases hs with rfl|rfl|rfl|rfl|rfl|rfl
 all_goals omega
def strV(c:Nat):V:=.str (one c)
def jI(K:Frag):Sp:=λvs H Q _=>∃(a:VB)(ns:List Int)(k:Int),vs=[.ref a,.int k]/\aN K H a (ns.map V.int)/\0<=k/\Q (.int (cellAt ns k)) H
def oV:Sp:=λvs H Q _=>∃c k:Int,vs=[.int c,.int k]/\Q (.int (mixed c k)) H
def rA(K:Frag):Sp:=λvs H Q _=>∃(a:VB)(ns:List Int),vs=[.ref a]/\aN K H a (ns.map V.int)/\∀(t q:VB)(wi hi:Int)(hs:List Int)(H':Hp),1<=wi->wi<=8->1<=hi->hi<=8->H' t=some (.tup [.int wi,.int hi,.ref q])->H' q=some (.lst (hs.map V.int))->(∀h∈hs,0<=h/\h<wi*hi)->hs.Nodup->(hs.length:Int)<wi*hi->hs.length<=2->H q=none->H t=none->ak H H'->Q (.ref t) H'
def rz:Sp:=λvs H Q _=>∃c:Int,vs=[.int c]/\∀(q:VB)(ks:List Nat)(H':Hp),H q=none->H' q=some (.lst (ks.map strV))->(∀k∈ks,jF k)->ks.Nodup->1<=ks.length->ks.length<=6->ak H H'->Q (.ref q) H'
structure LG1(P:N5)(w:N9)(K:Frag)(mg:NX)(np:Oe):Prop where
 _law_cell_at:cy P w K mg np "_law_cell_at" ["_law_script","_law_k"] 1 (jI K)
 _law_mixed:cy P w K mg np "_law_mixed" ["_law_cell","_law_k"] 1 oV
section
variable{κ:Type}[DecidableEq κ]
def vA(l:List κ)(x:κ):List κ:=if x∈l then l else l++[x]
def bT(val:Nat->κ):Nat->List κ
 |0=>[]
 |i+1=>vA (bT val i) (val i)
theorem jV(val:Nat->κ):∀i,(bT val i).length<=i
 |0=>TX 0
 |i+1=>by
  have ih:=jV val i;show(vA (bT val i) (val i)).length<=i+1;unfold vA
  by_cases h:val i∈bT val i
  .rw[NR h];omega
  .rw[NQ h,R9];show _+1<=_;omega
theorem mK(val:Nat->κ)(x:κ):∀i,x∈bT val i<->x∈(List.range i).map val
 |0=>by simp[bT]
 |i+1=>by
  have ih:=mK val x i;show x∈vA (bT val i) (val i)<->_;rw[SW,Sc,Sa,<-ih];unfold vA
  by_cases h:val i∈bT val i
  .rw[NR h]
   constructor
   .exact λz=>.inl z
   .rintro(z|z)
    .exact z
    .have:x=val i:=by simpa using z
     rw[this];exact h
  .rw[NQ h,Sa];simp
theorem mJ(val:Nat->κ):∀i,(bT val i).length=i<->((List.range i).map val).Nodup
 |0=>by simp[bT]
 |i+1=>by
  have ih:=mJ val i;have hle:=jV val i;have hm:=mK val (val i) i;show(vA (bT val i) (val i)).length=i+1<->_;rw[SW,Sc,S6];unfold vA
  by_cases h:val i∈bT val i
  .rw[NR h]
   constructor
   .intro z;omega
   .intro z;exact NU rfl (z.2.2 (val i) (hm.mp h) (val i) (by simp))
  .rw[NQ h,R9]
   constructor
   .intro z;have z:(bT val i).length+1=i+1:=z;refine⟨ih.mp (by omega),by simp,λa ha b hb e=>h (hm.mpr ?_)⟩;have:b=val i:=by simpa using hb
    rw[<-this,<-e];exact ha
   .intro z;rw[ih.mpr z.1];rfl
end
section
variable{prog:N5}{w:N9}{A:Oi}{R:RL->N3->Prop}{I:VB}{fp wr:List VB}{G:Array P8->Array P8->Prop}{n:Nat}{Pt:Nat->VA->Prop}{St:Nat->N3->Prop}{κ:Type}[DecidableEq κ]{knd:KeyKind prog w κ}
theorem zI(W:WalksS prog w A.in1 I fp wr G n Pt St)(D:VB)(hD:D∉fp)(val:Nat->κ)(hv:∀i v,Pt i v->knd.is (val i) v=true/\v.scannable=true)(hb:n+1<scanBound):∀(k i:Nat)(s:N3),n - i=k->i<=n->St i s->s.heap.SetOf knd D (λx=>decide (x∈bT val i)) (bT val i).length->(∀s2,Moved (D::wr) G s s2->s2.heap.SetOf knd D (λx=>decide (x∈bT val n)) (bT val n).length->R (.ok (.ret .none)) s2)->PQ (Od prog w) A (.builtin "set.update.loop" ⟨[.ref D,.ref I],[]⟩) R s:=by
 have nW:D∉wr:=λz=>hD (W.sub _ z);have up:∀b∈wr,b∈D::wr:=λb z=>R7 _ z;have mv:∀{s s2:N3}{S:κ->Bool}{m:Nat},Moved wr G s s2->s.heap.SetOf knd D S m->s2.heap.SetOf knd D S m:=λ{s s2 S m} hm ⟨o,es,ep,t,ho,r⟩=>⟨o,es,ep,t,hm.heap D _ nW ho,r⟩;intro k
 induction k with
 |zero=>
  intro i s e1 e2 st hS hR;have e3:i=n:=by omega
  subst e3;refine Ou Pm ?_;rw[Om OO _];show N8 _ A.in1 (Ph (.ref I) >>= _) _ _ s;refine N0 (W.done s _ _ st λs2 hm=>?_);show N8 _ A.in1 (ret O8) _ _ s2;exact N2 (hR s2 (hm.mono up) (mv hm hS))
 |succ k ih=>
  intro i s e1 e2 st hS hR;have e3:i<n:=by omega
  refine Ou Pm ?_;rw[Om OO _];show N8 _ A.in1 (Ph (.ref I) >>= _) _ _ s;refine N0 (W.item i s _ _ e3 st λv s2 hp st2 hm=>?_);obtain⟨kv,sv⟩:=hv i v hp;have hS2:=mv hm hS;show N8 _ A.in1 (QU [v] (setAdd D v) >>= _) _ _ s2;refine N0 (On ?_);unfold setAdd;refine On (N0 (knd.pyHash (k:=val i) kv ?_));have room:(bT val i).length+1<scanBound:=by have:=jV val i;omega
  refine wpAny_setAddHashed_of (knd:=knd) (s:={s2 with toks:=s2.toks+1}) kv sv hS2 room λh2 sb hS3=>?_;have hS4:h2.SetOf knd D (λx=>decide (x∈bT val (i+1))) (bT val (i+1)).length:=by
   refine SetOf_congr hS3 (λx=>?_) ?_
   .show(decide (x∈bT val i)||decide (x=val i))=decide (x∈vA (bT val i) (val i))
    unfold vA
    by_cases m:val i∈bT val i
    .rw[NR m]
     by_cases e:x=val i
     .subst e;rw[C0 m];simp
     .rw[NP e,UK]
    .rw[NQ m,UF];simp
   .show(if decide (val i∈bT val i)=true then _ else _)=(vA (bT val i) (val i)).length;unfold vA
    by_cases m:val i∈bT val i
    .rw[NR (C0 m),NR m]
    .rw[NQ (by rw[NP m];decide),NQ m,R9];rfl
  refine N2 ⟨O5 OO _,ih (i+1) _ (by omega) e3 (W.frame _ s2 _ _ st2 (T3 _) λb hb o e=>?_) hS4 λs3 hm3 hS5=>?_⟩
  .exact(sb.2 b (λz:b=D=>hD (z▸hb))).trans e
  .refine hR s3 (Moved.trans W.gtrans ((hm.mono up).then_heap (T3 _) λb o hb e=>?_) hm3) hS5;exact(sb.2 b (λz:b=D=>hb (by rw[z];exact R6))).trans e
end
section
variable{prog:N5}{w:N9}{A:Oi}{E:NY}{s:N3}{κ:Type}[DecidableEq κ]{knd:KeyKind prog w κ}
abbrev cu(led:Bool):Obj:={cls:=.type "set",dict:=none,data:=.set #[] 0 (.fresh 0 0 led)}
theorem zG{l:VB}{its:Array VA}{Q:NY}(val:Nat->κ)(hh:A.handled=none)(hl:s.heap.IsList l its)(hv:∀i v,its[i]? =some v->knd.is (val i) v=true/\v.scannable=true)(hb:its.size+1<scanBound)(k:∀(h2:Oe)(tk:Nat),h2.SetOf knd s.heap.objs.size (λx=>decide (x∈bT val its.size)) (bT val its.size).length->(∀b o,b<s.heap.objs.size->s.heap.get? b=some o->h2.get? b=some o)->Q (.ref s.heap.objs.size) {s with heap:=h2,toks:=tk}):N8 (Od prog w) A (call (.type "set") [.ref l]) Q E s:=by
 obtain⟨c0,tl0,hmro⟩:=F.called_set.mro;have hmade:=F.called_set.made;have hsub:=F.called_set.sub;have n1:=F.called_set.notType;have n2:=F.called_set.canCreate;have n3:=F.typeCall_set_1 (.ref l);refine QR (Q0 ?_);show N8 _ _ (callAny (.type "set") _) _ _ _;refine N2 ⟨Code.quiet_builtin _ (by decide+kernel),Ou F.entry_type_call ?_⟩;rw[Around.under_plain (Q7 "set" [.ref l] []) rfl]
 repeat (any_goals (first|assumption|wp_step))
 refine OZ (code_set_new_1 (.ref l) (E:=E) (Q₁:=λo s1=>∃led:Bool,o=.ref s.heap.objs.size/\s1={s with heap:=s.heap.push (cu led)}) λled=>⟨led,rfl,rfl⟩) λr s1 hr=>?_;cases r with
 |error e=>exact hr
 |ok fl=>
  cases fl with
  |ret ob=>
   obtain⟨led,rfl,rfl⟩:=hr;have g0:(s.heap.push (cu led)).get? s.heap.objs.size=some (cu led):=N7 _ rfl;have ty:Qd {s with heap:=s.heap.push (cu led)} (.ref s.heap.objs.size) "set":=⟨_,g0,rfl⟩;have m1:=F.called_set.init.lookup;have m2:=F.called_set.init.bind (.ref s.heap.objs.size)
   repeat (any_goals (first|assumption|wp_step))
   refine OZ (Qe (R:=wants (λr s2=>r=.none/\∃h2 tk,s2={s with heap:=h2,toks:=tk}/\h2.SetOf knd s.heap.objs.size (λx=>decide (x∈bT val its.size)) (bT val its.size).length/\
     (∀b o,b<s.heap.objs.size->s.heap.get? b=some o->h2.get? b=some o)) E) F.called_set.init.plain F.entry_set_init (check_set_init_1 ty ?_)) λr2 s2 hr2=>?_
   .obtain⟨⟨oc,od,oda,osl⟩,ho,hc,nl,hd⟩:=hl;simp only at hc hd;subst hc;subst hd;have hol:(s.heap.push (cu led)).get? l=some {cls:=.type "list",dict:=od,data:=.seq its nl,slots:=osl}:=N1 _ ho;have b1:=F.sub_list_set;have b2:=F.sub_list_frozenset;have b3:(Qv "list" == Qv "dict")=false:=by decide
    have hl1:(s.heap.push (cu led)).IsList l its:=⟨_,hol,rfl,nl,rfl⟩;unfold Pj.«set.__init__» noKeywords Qk;generalize hPI:pyIter=PI
    wp_walk
    subst hPI;refine Pd hl1 (N0 (Qn ?_));have hlt:l<s.heap.objs.size:=N4 ho;have h3:A.in1.in1.in1.handled=none:=by simp[hh]
    have sz:(s.heap.push (cu led)).objs.size=s.heap.objs.size+1:=Os ..;have ne1:l≠(s.heap.push (cu led)).objs.size:=by rw[sz];exact TY (Ua hlt)
    have ne2:s.heap.objs.size∉[(s.heap.push (cu led)).objs.size,l]:=by
     rw[sz];intro z
     rcases RV.mp z with z|z
     .exact Ud _ z.symm
     .exact T4 hlt (R4.mp z)
    refine zI (knd:=knd) ((Rq h3 _ l ne1 its).toS) s.heap.objs.size ne2 val hv hb (its.size - 0) 0 _ (by omega) (TZ _) ⟨⟨_,N7 _ rfl,rfl,rfl⟩,(hl1.push _)⟩ ?_ (λs3 hm hS3=>?_)
    .refine SetOf_congr ((setObjOf_fresh (knd:=knd) led).setOf (N1 _ g0) (by unfold scanBound;omega)) (λx=>?_) rfl;show false=decide (x∈([]:List κ));simp
    .obtain⟨hh3,gg3,dd3,tk3,os3⟩:=s3;obtain rfl:gg3=s.gens:=hm.gens;obtain rfl:dd3=s.drawn:=hm.drawn;obtain rfl:os3=s.os:=hm.os;show N8 _ _ _ _ _ _;refine N2 ?_;show N8 _ _ (ret O8) _ _ _;refine N2 ⟨rfl,hh3,tk3,rfl,hS3,λb o hb2 e=>?_⟩;refine hm.heap b o ?_ (N1 _ (N1 _ e));rw[sz];intro z
     rcases RV.mp z with z|z
     .exact TY hb2 z
     .exact TY (Ua hb2) (R4.mp z)
   .cases r2 with
    |error e=>exact hr2
    |ok fl2=>
     cases fl2 with
     |ret r3=>
      obtain⟨rfl,h2,tk,rfl,hS2,kp⟩:=hr2
      repeat (any_goals (first|assumption|wp_step))
      exact k _ _ hS2 kp
     |_=>exact hr2.elim
  |_=>exact hr.elim
end
def kY(ss:List Str):List Str:=bT (λi=>ss.getD i Pu) ss.length
theorem iU(ss:List Str):(kY ss).length=ss.length<->ss.Nodup:=by
 unfold kY;rw[mJ];have e:(List.range ss.length).map (λi=>ss.getD i Pu)=ss:=by
  apply SD;intro i;rw[RX]
  by_cases h:i<ss.length
  .rw[SE h,RU h];show some (ss.getD i Pu)=_;rw[RY,RU h];rfl
  .rw[Sn (by rw[Sx];omega),Sn (by omega)];rfl
 rw[e]
section
variable{X:Cx}
def wg(K:Frag)(xs:List V)(H:Hp)(Q:VK):Prop:=match xs with
 | [.ref d]=>∃ss:List Str,aN K H d (ss.map V.str)/\ss.length+1<scanBound/\∀q φ,H q=none->(∀h:Oe,φ h->∃(o:Obj)(es:Array (Int×VA))(ep:Nat)(t:SetTable),h.get? q=some o/\o.ExactSet/\o.data=.set es ep t/\t.fits es.size=true/\es.size=(kY ss).length)->Q (.ref q) (upd H q (.ext φ))
 |_=>False
theorem vG(hh:X.A.handled=none):bf X (.type "set") (wg X.K):=by
 intro gV s σ H xs us Q I r h;unfold wg at h;split at h
 .rename_i d;obtain⟨ss,hq,hb,q⟩:=h;obtain⟨u,rfl,rx⟩:=di r;cases rx;obtain⟨its,r',pl,hz⟩:=I.list hq;have hlen:=r'.length;rw[RT]at hlen;have hs:its.toArray.size=ss.length:=by rw[RZ,<-hlen]
  refine zG (knd:=PySem.strKind X.prog X.w) (λi=>ss.getD i Pu) hh pl.isList (λi v hv=>?_) (by rw[hs];exact hb) λh2 tk hS kp=>?_
  .rw[Tk]at hv;have hi:i<its.length:=(Sd.mp hv).1;have hx:(ss.map V.str)[i]? =some (.str (ss.getD i Pu)):=by rw[RX,RY,RU (by omega)];rfl
   obtain⟨u,hu,ru⟩:=r'.get hx;rw[hv]at hu;cases hu;obtain⟨t,rfl⟩:=ru;exact⟨by simp[PySem.strKind,Rj],rfl⟩
  .rw[hs]at hS;have k2:∀b u,s.heap.get? b=some u->h2.get? b=some u:=λb u e=>kp b u (N4 e) e;obtain⟨o,es,ep,t,h1,h2',h3,_,_,h6,h7,h8⟩:=hS;refine⟨.ref s.heap.objs.size,upd H s.heap.objs.size (.ext λh=>h.get? s.heap.objs.size=some o),I.laid (t':=tk) k2 (TX _) ?_,rfl,q _ _ (I.hok.fresh (TX _)) λh e=>⟨o,es,ep,t,e,h2',h3,h7,h8⟩⟩;exact⟨h1,⟨o,h1⟩,λh1 h2 e k=>k o e⟩
 .exact h.elim
def AC(xs:List V)(H:Hp)(Q:VK):Prop:=match xs with
 | [.ref d]=>∃(φ:Oe->Prop)(n:Nat),H d=some (.ext φ)/\n<=1000/\(∀h:Oe,φ h->∃(o:Obj)(es:Array (Int×VA))(ep:Nat)(t:SetTable),h.get? d=some o/\o.ExactSet/\o.data=.set es ep t/\t.fits es.size=true/\es.size=n)/\Q (.int n) H
 |_=>False
theorem m7:bf X (.builtin "len") AC:=by
 intro gV s σ H xs us Q I r h;unfold AC at h;split at h
 .rename_i d;obtain⟨φ,n,hd,hn,hφ,q⟩:=h;obtain⟨u,rfl,rx⟩:=di r;cases rx;obtain⟨p,_,_⟩:=(show bD X.prog X.w H s.heap d (.ext φ)from I.hok d _ hd);obtain⟨o,es,ep,t,h1,h2,h3,h4,h5⟩:=hφ _ p;subst h5;exact PySem.call_len_set h1 h2 h3 h4 (by omega) ⟨.int es.size,H,I.tok _,⟨_,rfl⟩,q⟩
 .exact h.elim
theorem GN(K:Frag){j:Nat}(hr:cY j X.A)(hK:X.K=K:=by rfl):bf X (.type "set") (wg K):=by subst hK;exact vG hr.hd
end
theorem sR{K:Frag}{σ:St}{H:Hp}{Q:VK}{te:TE}{d:VB}{ss:List Str}(h:Ev te σ H (.ref d))(hd:aN K H d (ss.map V.str))(hl:ss.length<=1000)(q:∀H',ak H H'->Q (.int (kY ss).length) H'):cB AC (bo (cB (wg K) (bo te cL)) cL) σ H Q:=
 h _ ⟨ss,hd,by show ss.length+1<4096;omega,λp φ hp hφ=>⟨φ,_,ah,T0 (jV _ _) hl,hφ,q _ ((ak.refl H).upd hp)⟩⟩
section
variable{X:Cx}
theorem xK(ks:List Bool):(List.range ks.length).any (λi=>ks.getD i false)=ks.any id:=by
 rw[UF,Su,Su]
 constructor
 .rintro⟨i,hi,e⟩;have hi:=R8.mp hi;rw[RY,RU hi]at e;exact⟨_,Se hi,e⟩
 .rintro⟨b,hb,e⟩;obtain⟨i,hi,e2⟩:=TH.mp hb;refine⟨i,R8.mpr hi,?_⟩;rw[RY,RU hi,e2];exact e
def Je(K:Frag)(xs:List V)(H:Hp)(Q:VK):Prop:=match xs with
 | [.ref d]=>∃ks:List Bool,aN K H d (ks.map V.bl)/\Q (.bl (ks.any id)) H
 |_=>False
theorem yO(hc:X.calm=true):bf X (.builtin "any") (Je X.K):=by
 intro gV s σ H xs us Q I r h;unfold Je at h;split at h
 .rename_i p;obtain⟨ks,hp,q⟩:=h;obtain⟨u,rfl,ru⟩:=di r;cases ru;obtain⟨its,rv,pl,hl⟩:=I.list hp;have hlen:=rv.length;rw[RT]at hlen;refine call_any_walk (Pd pl.isList ?_);have hne:p≠s.heap.objs.size:=by obtain⟨o,ho,_⟩:=pl.isList;exact TY (N4 ho)
  have W:=Rq (prog:=X.prog) (w:=X.w) (A:=X.A.in1) (show X.A.in1.handled=none from I.ok.hd hc) s.heap.objs.size p hne its.toArray;have hpush:∀o b ob,s.heap.get? b=some ob->(s.heap.push o).get? b=some ob:=λo b ob e=>N1 _ e;refine⟨_,_,_,_,_,_,λi=>ks.getD i false,rfl,W,⟨⟨_,N7 _ rfl,rfl,rfl⟩,pl.isList.at λo e=>hpush _ _ o e⟩,qZ rv,λh' tk k=>?_⟩;have e:(List.range its.toArray.size).any (λi=>ks.getD i false)=ks.any id:=by rw[<-xK,RZ,<-hlen]
  rw[e];refine⟨.bl _,H,I.kept (t':=tk) (h':=h') λb ob e=>k b ob ?_ (hpush _ b ob e),rfl,q⟩;intro hb;have:b=s.heap.objs.size:=by simpa using hb
  subst this;exact NU (N4 e) (T5 _)
 .exact h.elim
theorem Ny(K:Frag)(hc:X.calm=true:=by rfl)(hK:X.K=K:=by rfl):bf X (.builtin "any") (Je K):=by subst hK;exact yO hc
end
def Thg(H:Hp):V->Prop
 | .non=>True
 | .bl _=>True
 | .int _=>True
 | .str z=>z.length<=1000
 | .ref a=>(∃xs,H a=some (.lst xs))\/(∃xs,H a=some (.tup xs))\/(∃kvs,H a=some (.dK kvs))
 |_=>False
def mM(T:BT)(H:Hp):V->Bool
 | .bl _=>dN .bool T
 | .int _=>dN .int T
 | .str _=>dN .str T
 | .ref a=>match H a with
   |some (.lst _)=>dN .list T
   |some (.tup _)=>dN .tuple T
   |some (.dK _)=>dN .dict T
   |_=>false
 |_=>false
def tupOf(H:Hp):V->Option (List V)
 | .ref a=>match H a with
   |some (.tup xs)=>some xs
   |_=>none
 |_=>none
def lstOf(H:Hp):V->Option (List V)
 | .ref a=>match H a with
   |some (.lst xs)=>some xs
   |_=>none
 |_=>none
def fv(H:Hp):Nat->V->Prop
 |0,v=>Thg H v
 |n+1,v=>Thg H v/\∀xs,(tupOf H v=some xs\/lstOf H v=some xs)->∀x∈xs,fv H n x
theorem fv.thg{H:Hp}{n:Nat}{v:V}(h:fv H n v):Thg H v:=by
 cases n with
 |zero=>exact h
 |succ n=>exact h.1
def y8:V->Bool
 | .int _=>true
 |_=>false
def amongB(v:V)(a b:Int):Bool:=match v with
 | .int i=>decide (a<=i/\i<=b)
 |_=>false
def wordB(v:V)(ws:List Str):Bool:=match v with
 | .str z=>decide (z∈ws)
 |_=>false
section
variable{K:Frag}{σ:St}{H H':Hp}{te ta tb:TE}{v:V}{T:BT}{ws:List Str}
theorem Thg.same(h:Thg H v)(s:ak H H'):Thg H' v:=by
 cases v with
 |ref a=>
  rcases h with⟨xs,e⟩|⟨xs,e⟩|⟨xs,e⟩
  .exact .inl ⟨xs,s _ _ e⟩
  .exact .inr (.inl ⟨xs,s _ _ e⟩)
  .exact .inr (.inr ⟨xs,s _ _ e⟩)
 |_=>exact h
theorem fL(h:Thg H v)(s:ak H H'):tupOf H' v=tupOf H v:=by
 cases v with
 |ref a=>
  rcases h with⟨xs,e⟩|⟨xs,e⟩|⟨xs,e⟩<;>simp only[tupOf,e,s _ _ e]
 |_=>rfl
theorem h9(h:Thg H v)(s:ak H H'):lstOf H' v=lstOf H v:=by
 cases v with
 |ref a=>
  rcases h with⟨xs,e⟩|⟨xs,e⟩|⟨xs,e⟩<;>simp only[lstOf,e,s _ _ e]
 |_=>rfl
theorem fv.same{n:Nat}:∀{v:V},fv H n v->ak H H'->fv H' n v:=by
 induction n with
 |zero=>intro v h s;exact Thg.same h s
 |succ n ih=>
  intro v h s;refine⟨h.1.same s,λxs hx x hm=>ih (h.2 xs ?_ x hm) s⟩;rw[fL h.1 s,h9 h.1 s]at hx;exact hx
theorem fK{xs:List V}(h:tupOf H v=some xs):∃a,v=.ref a/\H a=some (.tup xs):=by
 cases v with
 |ref a=>
  simp only[tupOf]at h;split at h
  .rename_i e;cases h;exact⟨a,rfl,e⟩
  .cases h
 |_=>cases h
theorem fR{xs:List V}(h:lstOf H v=some xs):∃a,v=.ref a/\H a=some (.lst xs):=by
 cases v with
 |ref a=>
  simp only[lstOf]at h;split at h
  .rename_i e;cases h;exact⟨a,rfl,e⟩
  .cases h
 |_=>cases h
theorem mS(h:Ev te σ H v)(t:Thg H v):Ev (Jv T te) σ H (.bl (mM T H v)):=λQ q=>h _ (by
 cases v with
 |ref a=>
  rcases t with⟨xs,e⟩|⟨xs,e⟩|⟨xs,e⟩<;>(simp only[wJ,e];simp only[mM,e]at q;exact q)
 |non=>exact q
 |bl b=>exact q
 |int b=>exact q
 |str b=>exact q
 |_=>exact t.elim)
theorem y7(t:Thg H v):(mM .int H v&& !mM .bool H v)=y8 v:=by
 cases v with
 |ref a=>rcases t with⟨xs,e⟩|⟨xs,e⟩|⟨xs,e⟩<;>(simp only[mM,e];rfl)
 |non=>rfl
 |bl b=>rfl
 |int b=>rfl
 |str b=>rfl
 |_=>exact t.elim
theorem ug(t:Thg H v):mM .str H v=(match v with| .str _=>true|_=>false):=by
 cases v with
 |ref a=>rcases t with⟨xs,e⟩|⟨xs,e⟩|⟨xs,e⟩<;>(simp only[mM,e];rfl)
 |non=>rfl
 |bl b=>rfl
 |int b=>rfl
 |str b=>rfl
 |_=>exact t.elim
theorem Hk(t:Thg H v):mM .tuple H v=(tupOf H v).isSome:=by
 cases v with
 |ref a=>rcases t with⟨xs,e⟩|⟨xs,e⟩|⟨xs,e⟩<;>(simp only[mM,tupOf,e];rfl)
 |non=>rfl
 |bl b=>rfl
 |int b=>rfl
 |str b=>rfl
 |_=>exact t.elim
theorem Im(t:Thg H v):mM .list H v=(lstOf H v).isSome:=by
 cases v with
 |ref a=>rcases t with⟨xs,e⟩|⟨xs,e⟩|⟨xs,e⟩<;>(simp only[mM,lstOf,e];rfl)
 |non=>rfl
 |bl b=>rfl
 |int b=>rfl
 |str b=>rfl
 |_=>exact t.elim
theorem AL(z:Str)(ws:List Str):CK (.str z) (ws.map V.str)=decide (z∈ws):=by
 unfold CK;rw[S7]
 by_cases h:z∈ws
 .rw[C0 h];exact Su.mpr ⟨z,h,by simp[eqV]⟩
 .rw[NP h];apply SF.mpr;intro y hy;have:y≠z:=λe=>h (e▸hy);simp[eqV,this]
theorem yz(ss:List Str):(ss.map V.str).all flatV=true:=Sh.mpr λx hx=>by obtain⟨z,_,rfl⟩:=RW.mp hx;rfl
theorem vt{z:Str}{p:VB}(ha:Ev ta σ H (.str z))(hb:Ev tb σ H (.ref p))(h:aN K H p (ws.map V.str)\/cJ K H p (ws.map V.str)):Ev (eY K .In ta tb) σ H (.bl (decide (z∈ws))):=λQ q=>ha _ (hb _ (by
 show aV K .In (.str z) (.ref p) H Q;rw[hU];refine⟨p,_,rfl,h,rfl,yz ws,?_⟩;rw[AL];exact q))
end
def sortsL:List Str:=["leap","slide","jump"]
def aimsL:List Str:=["go","hit","any"]
def ik:List Str:=["without","home"]
def iu:List Str:=["lost","even","won"]
def tupB(H:Hp)(v:V)(n:Int):Bool:=match tupOf H v with
 |some xs=>decide ((xs.length:Int)=n)
 |none=>false
def kK(H:Hp)(v:V)(a b:Int):Bool:=match lstOf H v with
 |some xs=>decide (a<=(xs.length:Int)/\(xs.length:Int)<=b)
 |none=>false
def limS(so:Str):Int:=if so="leap"then 3 else 1
def kZ(so:Str)(x y:V):Bool:=amongB x (-limS so) (limS so)&&amongB y (-limS so) (limS so)&& !(decide (x=.int 0)&&decide (y=.int 0))
def jg(xs:List V)(ws:List Str):Bool:=match xs with
 | [k,.str so,.str ai,x,y]=>wordB k ws&&decide (so∈sortsL)&&decide (ai∈aimsL)&& !(decide (so="jump")&& !decide (ai="hit"))&&kZ so x y
 |_=>false
def dI(H:Hp)(v:V)(ws:List Str):Bool:=match tupOf H v with
 |some xs=>jg xs ws
 |none=>false
def sC(xs:List V)(A B:List Str):Bool:=match xs with
 | [a,b]=>wordB a A&&wordB b B
 |_=>false
def dL(H:Hp)(v:V)(A B:List Str):Bool:=match tupOf H v with
 |some xs=>sC xs A B
 |none=>false
def pairsB(H:Hp)(v:V)(A B:List Str):Bool:=match lstOf H v with
 |some vs=>decide (vs.length<=6)&&vs.all (λx=>dL H x A B)
 |none=>false
def cx(H:Hp)(v:V):Str:=match tupOf H v with
 |some (.str a::_)=>a
 |_=>Pu
def gF(H:Hp)(v:V):Str:=match tupOf H v with
 |some (_:: .str b::_)=>b
 |_=>Pu
def fJ(H:Hp)(v:V)(ws:List Str):Bool:=pairsB H v ws ws&&match lstOf H v with
 |some vs=> !(vs.any λx=>decide (gF H x∈vs.map (cx H)))&&decide ((vs.map (cx H)).Nodup)
 |none=>false
def lW:Sp:=λvs H Q _=>∃v,vs=[v]/\Thg H v/\Q (.bl (y8 v)) H
def iz:Sp:=λvs H Q _=>∃v a b,vs=[v,.int a,.int b]/\Thg H v/\Q (.bl (amongB v a b)) H
def io(K:Frag)(H:Hp)(d:VB)(ws:List Str):Prop:=aN K H d (ws.map V.str)\/cJ K H d (ws.map V.str)
def iX(K:Frag):Sp:=λvs H Q _=>∃v d ws,vs=[v,.ref d]/\Thg H v/\io K H d ws/\Q (.bl (wordB v ws)) H
def iy:Sp:=λvs H Q _=>∃v n,vs=[v,.int n]/\Thg H v/\Q (.bl (tupB H v n)) H
def oW:Sp:=λvs H Q _=>∃v a b,vs=[v,.int a,.int b]/\Thg H v/\Q (.bl (kK H v a b)) H
def v3:Sp:=λvs H Q _=>∃so x y,vs=[.str so,x,y]/\Thg H x/\Thg H y/\Q (.bl (kZ so x y)) H
def v4(K:Frag):Sp:=λvs H Q _=>∃v d ws,vs=[v,.ref d]/\fv H 1 v/\io K H d ws/\Q (.bl (dI H v ws)) H
def v5(K:Frag):Sp:=λvs H Q _=>∃v d e A B,vs=[v,.ref d,.ref e]/\fv H 1 v/\io K H d A/\io K H e B/\Q (.bl (dL H v A B)) H
def rj(K:Frag):Sp:=λvs H Q _=>∃v d e A B,vs=[v,.ref d,.ref e]/\fv H 2 v/\io K H d A/\io K H e B/\∀H',ak H H'->Q (.bl (pairsB H v A B)) H'
def ra(K:Frag):Sp:=λvs H Q _=>∃v d ws,vs=[v,.ref d]/\fv H 2 v/\io K H d ws/\∀H',ak H H'->Q (.bl (fJ H v ws)) H'
def wb(K:Frag):Sp:=λvs H Q _=>∃v d ws,vs=[v,.ref d]/\fv H 2 v/\io K H d ws/\∀H',ak H H'->Q (.bl (pairsB H v ik ws)) H'
theorem vO{σ:St}{H:Hp}{Q:VK}{ta tb:TE}{a:Bool}(ha:Ev ta σ H (.bl a))(h1:a=true->tb σ H Q)(h2:a=false->Q (.bl false) H):tL ta tb σ H Q:=ha _ (by
 cases a with
 |true=>exact h1 rfl
 |false=>exact h2 rfl)
theorem Bm{K:Frag}{σ:St}{H:Hp}{Q:VK}{ta tb:TE}{op:Po}(h:ta σ H λx H1=>tb σ H1 λy H2=>aV K op x y H2 Q):eY K op ta tb σ H Q:=h
theorem xV{H:Hp}{v:V}{A B:List Str}(h:pairsB H v A B=true):∃xs,lstOf H v=some xs/\xs.length<=6/\∀x∈xs,∃c f1 f2,x=.ref c/\H c=some (.tup [.str f1,.str f2]):=by
 unfold pairsB at h;cases e1:lstOf H v with
 |none=>rw[e1]at h;cases h
 |some xs=>
  rw[e1]at h;have h:(decide (xs.length<=6)&&xs.all (λx=>dL H x A B))=true:=h;rw[UD]at h;refine⟨xs,rfl,NS h.1,λx hx=>?_⟩;have hp:=Sh.mp h.2 x hx;unfold dL at hp;cases e2:tupOf H x with
  |none=>rw[e2]at hp;cases hp
  |some ys=>
   rw[e2]at hp;obtain⟨c,rfl,hc⟩:=fK e2;have hp:sC ys A B=true:=hp
   match ys,hp,hc with
   | [a,b],hp,hc=>
     have hp:(wordB a A&&wordB b B)=true:=hp;rw[UD]at hp;cases a with
     |str f1=>
      cases b with
      |str f2=>exact⟨c,f1,f2,rfl,hc⟩
      |_=>cases hp.2
     |_=>cases hp.1
   | [],hp,_=>cases hp
   | [_],hp,_=>cases hp
   |_::_::_::_,hp,_=>cases hp
structure RG0(P:N5)(w:N9)(K:Frag)(mg:NX)(np:Oe):Prop where
 is_whole:cy P w K mg np "is_whole" ["thing"] 1 lW
structure RG1(P:N5)(w:N9)(K:Frag)(mg:NX)(np:Oe):Prop where
 is_among:cy P w K mg np "is_among" ["thing","least","most"] 2 iz
structure RG2(P:N5)(w:N9)(K:Frag)(mg:NX)(np:Oe):Prop where
 is_word:cy P w K mg np "is_word" ["thing","words"] 1 (iX K)
 is_tuple_of:cy P w K mg np "is_tuple_of" ["thing","many"] 1 iy
structure RG3(P:N5)(w:N9)(K:Frag)(mg:NX)(np:Oe):Prop extends RG2 P w K mg np where
 is_step:cy P w K mg np "is_step" ["sort","across","up"] 3 v3
structure RG4(P:N5)(w:N9)(K:Frag)(mg:NX)(np:Oe):Prop where
 is_list_of:cy P w K mg np "is_list_of" ["thing","least","most"] 1 oW
 is_pair:cy P w K mg np "is_pair" ["thing","firsts","seconds"] 2 (v5 K)
structure RG5(P:N5)(w:N9)(K:Frag)(mg:NX)(np:Oe):Prop where
 are_pairs:cy P w K mg np "are_pairs" ["thing","firsts","seconds"] 3 (rj K)
def letB:V->Bool
 | .str z=>match z.cps.toList with
   | [c]=>decide (97<=c/\c<=122)
   |_=>false
 |_=>false
def iw:V->Str
 | .str z=>z
 |_=>Pu
def mL(H:Hp)(v:V):Bool:=match lstOf H v with
 |some xs=>decide (1<=xs.length/\xs.length<=6)&&xs.all letB&&decide ((xs.map iw).Nodup)
 |none=>false
def eZ(H:Hp)(v:V)(ws:List Str):Bool:=match lstOf H v with
 |some xs=>decide (xs.length<=24)&&xs.all (λx=>dI H x ws)
 |none=>false
theorem Lh:("a":Str).cps.toList=[97]:=by decide+kernel
theorem Lg:("z":Str).cps.toList=[122]:=by decide+kernel
theorem Az{c d:Nat}:([c]<[d])<->c<d:=by
 constructor
 .intro h;cases h with
  |rel h=>exact h
  |cons h=>cases h
 .intro h;exact List.Lex.rel h
theorem CV{K:Frag}{σ:St}{H:Hp}{ta tb tc:TE}{x y z:Str}(ha:Ev ta σ H (.str x))(hb:Ev tb σ H (.str y))(hc:Ev tc σ H (.str z)):Ev (kS K .LtE .LtE ta tb tc) σ H (.bl (!decide (y.cps.toList<x.cps.toList)&& !decide (z.cps.toList<y.cps.toList))):=λQ q=>ha _ (hb _ (by
 show aV K .LtE (.str x) (.str y) H _;rw[nY,r_b];cases h: !decide (y.cps.toList<x.cps.toList)with
 |true=>
  rw[h]at q;exact hc _ q
 |false=>
  rw[h]at q;exact q))
def nU:Sp:=λvs H Q _=>∃v,vs=[v]/\Thg H v/\Q (.bl (letB v)) H
def rB:Sp:=λvs H Q _=>∃v,vs=[v]/\fv H 1 v/\∀H',ak H H'->Q (.bl (mL H v)) H'
def rf(K:Frag):Sp:=λvs H Q _=>∃v d ws,vs=[v,.ref d]/\fv H 2 v/\io K H d ws/\∀H',ak H H'->Q (.bl (eZ H v ws)) H'
theorem AB{v:V}(h:letB v=true):∃c,v=.str (one c)/\jF c:=by
 cases v with
 |str z=>
  match e:z.cps.toList with
  | [c]=>
    simp only[letB,e]at h;exact⟨c,by rw[lC (x:=z) (y:=one c) (by rw[e])],NS (p:=97<=c/\c<=122) h⟩
  | []=>simp only[letB,e]at h;cases h
  |_::_::_=>simp only[letB,e]at h;cases h
 |_=>cases h
structure vS(K:Frag)(C:VB):Prop where
 cl:tX K C
 board:cm K C "board"
 kinds:cm K C "kinds"
 rules:cm K C "rules"
 turns:cm K C "turns"
 ends:cm K C "ends"
 stuck:cm K C "stuck"
def gf1(b:VB):List (Str×V):=putF "board" (.ref b) []
def gf2(b k:VB):List (Str×V):=putF "kinds" (.ref k) (gf1 b)
def gf3(b k r:VB):List (Str×V):=putF "rules" (.ref r) (gf2 b k)
def gf4(b k r t:VB):List (Str×V):=putF "turns" (.ref t) (gf3 b k r)
def CO(b k r t e:VB):List (Str×V):=putF "ends" (.ref e) (gf4 b k r t)
def iK(b k r t e:VB)(st:Str):List (Str×V):=putF "stuck" (.str st) (CO b k r t e)
section
variable{b k r t e:VB}{st:Str}
theorem AV:(iK b k r t e st).lookup ("board":Str)=some (.ref b):=by unfold iK CO gf4 gf3 gf2 gf1;rw[ay,NQ (by decide+kernel),ay,NQ (by decide+kernel),ay,NQ (by decide+kernel),ay,NQ (by decide+kernel),ay,NQ (by decide+kernel),ay,NR rfl]
theorem AU:(iK b k r t e st).lookup ("kinds":Str)=some (.ref k):=by unfold iK CO gf4 gf3 gf2;rw[ay,NQ (by decide+kernel),ay,NQ (by decide+kernel),ay,NQ (by decide+kernel),ay,NQ (by decide+kernel),ay,NR rfl]
theorem AT:(iK b k r t e st).lookup ("rules":Str)=some (.ref r):=by unfold iK CO gf4 gf3;rw[ay,NQ (by decide+kernel),ay,NQ (by decide+kernel),ay,NQ (by decide+kernel),ay,NR rfl]
theorem AS:(iK b k r t e st).lookup ("turns":Str)=some (.ref t):=by unfold iK CO gf4;rw[ay,NQ (by decide+kernel),ay,NQ (by decide+kernel),ay,NR rfl]
theorem L8{m:Str}(h1:¬m="board")(h2:¬m="kinds")(h3:¬m="rules")(h4:¬m="turns")(h5:¬m="ends")(h6:¬m="stuck"):(iK b k r t e st).lookup m=none:=by unfold iK CO gf4 gf3 gf2 gf1;rw[ay,NQ h6,ay,NQ h5,ay,NQ h4,ay,NQ h3,ay,NQ h2,ay,NQ h1];rfl
theorem IF:(gf1 b).length<=1/\(gf2 b k).length<=2/\(gf3 b k r).length<=3/\(gf4 b k r t).length<=4/\(CO b k r t e).length<=5:=by have a1:(gf1 b).length<=1:=bQ "board" (.ref b) [];have a2:(gf2 b k).length<=(gf1 b).length+1:=bQ "kinds" (.ref k) (gf1 b);have a3:(gf3 b k r).length<=(gf2 b k).length+1:=bQ "rules" (.ref r) (gf2 b k);have a4:(gf4 b k r t).length<=(gf3 b k r).length+1:=bQ "turns" (.ref t) (gf3 b k r);have a5:(CO b k r t e).length<=(gf4 b k r t).length+1:=bQ "ends" (.ref e) (gf4 b k r t);omega
end
structure fY(C:VB)(H:Hp)(p b:VB)(ks rs ts es:List V)(st:Str):Prop where
 ex:∃dx kq rq tq eq,H p=some (.ins C dx (iK b kq rq tq eq st))/\H kq=some (.lst ks)/\H rq=some (.lst rs)/\H tq=some (.lst ts)/\H eq=some (.lst es)
section
variable{K:Frag}{C:VB}{H H':Hp}{p b:VB}{ks rs ts es:List V}{st:Str}
theorem fY.same(G:fY C H p b ks rs ts es st)(s:ak H H'):fY C H' p b ks rs ts es st:=by obtain⟨dx,kq,rq,tq,eq,a,c,d,e,f⟩:=G.ex;exact⟨dx,kq,rq,tq,eq,s _ _ a,s _ _ c,s _ _ d,s _ _ e,s _ _ f⟩
theorem fY.board(G:fY C H p b ks rs ts es st)(D:vS K C):Fl K H p "board" (.ref b):=by obtain⟨dx,kq,rq,tq,eq,a,_⟩:=G.ex;exact⟨C,dx,_,a,D.cl,D.board,AV⟩
theorem fY.kinds(G:fY C H p b ks rs ts es st)(D:vS K C):∃q,Fl K H p "kinds" (.ref q)/\H q=some (.lst ks):=by obtain⟨dx,kq,rq,tq,eq,a,c,d,e,f⟩:=G.ex;exact⟨kq,⟨C,dx,_,a,D.cl,D.kinds,AU⟩,c⟩
theorem fY.rules(G:fY C H p b ks rs ts es st)(D:vS K C):∃q,Fl K H p "rules" (.ref q)/\H q=some (.lst rs):=by obtain⟨dx,kq,rq,tq,eq,a,c,d,e,f⟩:=G.ex;exact⟨rq,⟨C,dx,_,a,D.cl,D.rules,AT⟩,d⟩
theorem fY.turns(G:fY C H p b ks rs ts es st)(D:vS K C):∃q,Fl K H p "turns" (.ref q)/\H q=some (.lst ts):=by obtain⟨dx,kq,rq,tq,eq,a,c,d,e,f⟩:=G.ex;exact⟨tq,⟨C,dx,_,a,D.cl,D.turns,AS⟩,e⟩
theorem fY.no(G:fY C H p b ks rs ts es st){m:Str}(h1:¬m="board":=by decide+kernel)(h2:¬m="kinds":=by decide+kernel)(h3:¬m="rules":=by decide+kernel)(h4:¬m="turns":=by decide+kernel)(h5:¬m="ends":=by decide+kernel)(h6:¬m="stuck":=by decide+kernel):tW C m H p:=by obtain⟨dx,kq,rq,tq,eq,a,_⟩:=G.ex;exact⟨dx,_,a,L8 h1 h2 h3 h4 h5 h6⟩
end
section
variable{H H':Hp}{v:V}{A B ws:List Str}
theorem uJ(t:Thg H v)(s:ak H H'):dL H' v A B=dL H v A B:=by unfold dL;rw[fL t s]
theorem uA(t:Thg H v)(s:ak H H'):dI H' v ws=dI H v ws:=by unfold dI;rw[fL t s]
theorem yv(t:Thg H v)(s:ak H H'):cx H' v=cx H v:=by unfold cx;rw[fL t s]
theorem xw(t:Thg H v)(s:ak H H'):gF H' v=gF H v:=by unfold gF;rw[fL t s]
theorem tQ{f g:V->Bool}{xs:List V}(h:∀x∈xs,f x=g x):xs.all f=xs.all g:=by
 induction xs with
 |nil=>rfl
 |cons a r ih=>rw[So,So,h a (by simp),ih λx hx=>h x (by simp[hx])]
theorem Bx{f g:V->Bool}{xs:List V}(h:∀x∈xs,f x=g x):xs.any f=xs.any g:=by
 induction xs with
 |nil=>rfl
 |cons a r ih=>rw[SQ,SQ,h a (by simp),ih λx hx=>h x (by simp[hx])]
theorem la(t:fv H 2 v)(s:ak H H'):pairsB H' v A B=pairsB H v A B:=by
 unfold pairsB;rw[h9 t.1 s];cases e:lstOf H v with
 |none=>rfl
 |some xs=>
  show(_&&xs.all _)=(_&&xs.all _);rw[tQ (g:=λx=>dL H x A B) λx hx=>uJ (t.2 xs (.inr e) x hx).thg s]
theorem rN(t:fv H 2 v)(s:ak H H'):eZ H' v ws=eZ H v ws:=by
 unfold eZ;rw[h9 t.1 s];cases e:lstOf H v with
 |none=>rfl
 |some xs=>
  show(_&&xs.all _)=(_&&xs.all _);rw[tQ (g:=λx=>dI H x ws) λx hx=>uA (t.2 xs (.inr e) x hx).thg s]
theorem qY(t:fv H 2 v)(s:ak H H'):fJ H' v ws=fJ H v ws:=by
 unfold fJ;rw[la t s,h9 t.1 s];cases e:lstOf H v with
 |none=>rfl
 |some xs=>
  have tx:∀x∈xs,Thg H x:=λx hx=>(t.2 xs (.inr e) x hx).thg;have em:xs.map (cx H')=xs.map (cx H):=Sq λx hx=>yv (tx x hx) s;show(_&&((!xs.any λx=>decide (gF H' x∈xs.map (cx H')))&&decide ((xs.map (cx H')).Nodup)))=(_&&((!xs.any λx=>decide (gF H x∈xs.map (cx H)))&&decide ((xs.map (cx H)).Nodup)));rw[em,Bx (g:=λx=>decide (gF H x∈xs.map (cx H))) λx hx=>by rw[xw (tx x hx) s]]
end
def wa(K:Frag)(C:VB):Sp:=λvs H Q _=>∃(p b kd rd td ed dx:VB)(ws:List Str)(rs ts es:List V)(st:Str),vs=[.ref p,.ref b,.ref kd,.ref rd,.ref td,.ref ed,.str st]/\H p=some (.ins C dx [])/\H kd=some (.lst (ws.map V.str))/\H rd=some (.lst rs)/\H td=some (.lst ts)/\H ed=some (.lst es)/\
 fv H 1 (.ref kd)/\fv H 2 (.ref rd)/\fv H 2 (.ref td)/\fv H 2 (.ref ed)/\mL H (.ref kd)=true/\eZ H (.ref rd) ws=true/\fJ H (.ref td) ws=true/\pairsB H (.ref ed) ik ws=true/\st∈iu/\st.length<=1000/\
 ∀H',fY C H' p b (ws.map V.str) rs ts es st->SameBut p H H'->Q .non H'
structure NO(P:N5)(w:N9)(K:Frag)(mg:NX)(np:Oe):Prop where
 is_list_of:cy P w K mg np "is_list_of" ["thing","least","most"] 1 oW
 is_letter:cy P w K mg np "is_letter" ["thing"] 1 nU
 is_rule:cy P w K mg np "is_rule" ["thing","kinds"] 4 (v4 K)
structure GG2(P:N5)(w:N9)(K:Frag)(mg:NX)(np:Oe):Prop where
 are_kinds:cy P w K mg np "are_kinds" ["thing"] 2 rB
 are_rules:cy P w K mg np "are_rules" ["thing","kinds"] 5 (rf K)
 is_turns:cy P w K mg np "is_turns" ["thing","kinds"] 4 (ra K)
 is_ends:cy P w K mg np "is_ends" ["thing","kinds"] 4 (wb K)
 is_word:cy P w K mg np "is_word" ["thing","words"] 1 (iX K)
theorem lE{K:Frag}{σ:St}{H:Hp}{to te:TE}{u:TS}{D:dW}{f:Str}{p C dx d:VB}{fs:List (Str×V)}{xs:List V}(he:Ev te σ H (.ref d))(hd:H d=some (.lst xs))(ho:∀H',Ev to σ H' (.ref p))(hp:H p=some (.ins C dx fs))(hc:tX K C)(hn:cm K C f)(hl:fs.length<1000)(h2:∀q,H q=none->u D σ (upd (upd H q (.lst xs)) p (.ins C dx (putF f (.ref q) fs)))):bj (xG K to (cB (wA K) (bo te cL)) f) u D σ H:=
 he _ ⟨xs,.inl (aN.of hd),λq hq=>ho _ _ ⟨p,C,dx,fs,rfl,by rw[au (aw hp hq)];exact hp,hc,hn,hl,h2 q hq⟩⟩
end L2
namespace L2
open PySem
theorem dB{N P:List Str}{sc:PF}(a:sc.kind=.function:=by rfl)(b:sc.isCoroutine=false:=by rfl)(c:sc.isGenerator=false:=by rfl)(d:N.Nodup:=by decide+kernel)(e:N.take P.length=P:=by rfl)(f:∀x∈P,sc.names.lookup x=some .local\/sc.names.lookup x=some .cell:=by decide+kernel)(g:∀y∈sc.names,y.2≠.free:=by decide+kernel):aD N P sc:=⟨a,b,c,d,e,f,g⟩
end L2
namespace L2
open PySem PySem.Spec PyProof.Rows
def yT(H:Hp):V->Prop
 | .non=>True
 | .bl _=>True
 | .int _=>True
 | .str z=>z.length<=1000
 | .ref a=>(∃xs,H a=some (.lst xs))\/(∃xs,H a=some (.tup xs))
 |_=>False
def jE(H:Hp):Nat->V->Prop
 |0,v=>yT H v
 |n+1,v=>yT H v/\∀xs,(tupOf H v=some xs\/lstOf H v=some xs)->∀x∈xs,jE H n x
theorem yT.thg{H:Hp}{v:V}(h:yT H v):Thg H v:=by
 cases v with
 |ref a=>
  rcases h with h|h
  .exact .inl h
  .exact .inr (.inl h)
 |_=>exact h
theorem jE.n{H:Hp}:∀{n:Nat}{v:V},jE H n v->fv H n v
 |0,v,h=>yT.thg h
 |n+1,v,h=>⟨h.1.thg,λxs hx x hm=>(h.2 xs hx x hm).n⟩
theorem jE.flat{H:Hp}{n:Nat}{v:V}(h:yT H v)(f:flatV v=true):jE H n v:=by
 cases n with
 |zero=>exact h
 |succ n=>
  refine⟨h,λxs hx=>?_⟩;cases v with
  |ref a=>cases f
  |_=>rcases hx with z|z<;>cases z
theorem jE.lst{H:Hp}{n:Nat}{a:VB}{xs:List V}(h:H a=some (.lst xs))(hx:∀x∈xs,jE H n x):jE H (n+1) (.ref a):=⟨.inl ⟨xs,h⟩,λys hy=>by
 rcases hy with z|z
 .simp only[tupOf,h]at z;cases z
 .simp only[lstOf,h]at z;cases z;exact hx⟩
theorem jE.tup{H:Hp}{n:Nat}{a:VB}{xs:List V}(h:H a=some (.tup xs))(hx:∀x∈xs,jE H n x):jE H (n+1) (.ref a):=⟨.inr ⟨xs,h⟩,λys hy=>by
 rcases hy with z|z
 .simp only[tupOf,h]at z;cases z;exact hx
 .simp only[lstOf,h]at z;cases z⟩
section
variable{X:Cx}{a b:Ol}{ta tb:TE}{pos:Qa}
theorem BP{r:R2}{op:Po}(ho:jb X (OC op) r)(ha:PE X a ta)(hb:PE X b tb)(hm:behindInMarks op b=false):PT X (.Compare a [op] [b] pos) (fX λσ H Q=>ta σ H λx H1=>tb σ H1 λy H2=>r x y H2 Q):=by intro gV s σ H Q I h;refine Q5 (bM (ha gV s σ H _ I h) λv s1 ⟨x,H1,I1,r1,q1⟩=>bM (hb gV s1 σ H1 _ I1 q1) λu s2 ⟨y,H2,I2,r2,q2⟩=>bM (ho gV s2 σ H2 x y v u _ I2 r1 r2 q2) λc s3 ⟨z,H3,I3,r3,q3⟩=>?_) hm;obtain⟨k,rfl,q4⟩:=dQ q3;cases r3;exact OA ⟨H3,I3,q4⟩
end
section
variable{K:Frag}{te to ta tb ti:TE}{u:TS}{D:dW}{σ:St}{H:Hp}{Q:VK}{v:V}
theorem LB{l:VB}{i:Int}{P:V->Hp->Prop}(h:∀Q:VK,(∀v H',P v H'->Q v H')->te σ H Q)(h2:∀v H',P v H'->Ev to σ H' (.ref l)/\Ev ti σ H' (.int i)/\∃xs,H' l=some (.lst xs)/\0<=i/\i<xs.length/\D.nx σ (upd H' l (.lst (xs.set i.toNat v)))):tAsg te (gSub to ti GF) D σ H:=
 h _ λv H' p=>by obtain⟨ho,hi,xs,hl,h0,h1,q⟩:=h2 v H' p;refine ho _ (hi _ ⟨l,xs,i,i.toNat,rfl,rfl,hl,?_,q⟩);unfold ixN;rw[NR h0,NR h1]
end
structure Mz(z TI TO i1 i2:VB):Prop where
 a:TI≠z
 b:TO≠z
 c:i1≠z
 d:i2≠z
 e:TI≠TO
 f:TO≠i1
 g:TO≠i2
 h:i1≠i2
 i:TI≠i1
 j:TI≠i2
section
variable{prog:N5}{w:N9}{A:Oi}{E:NY}{s:N3}{z TI TO i1 i2:VB}{n1 n2 i:Nat}{P1 P2:Nat->VA->Prop}{S1 S2:Nat->Oe->Prop}{a b:VA}
theorem BI{Q:NY}(D1:Draws prog w A i1 [i1] n1 P1 S1)(D2:Draws prog w A i2 [i2] n2 P2 S2)(ap:Mz z TI TO i1 i2)(hz:QB s.heap z TI TO .none)(hTI:Pw s.heap TI (.ref i1) (.ref i2))(hTO:Pw s.heap TO a b)(h1:S1 i s.heap)(h2:S2 i s.heap)(l1:i<n1)(l2:i<n2)(hQ:∀x y h' tk,P1 i x->P2 i y->QB h' z TI TO (Qh s.heap.objs.size)->Pw h' TO x y->S1 (i+1) h'->S2 (i+1) h'->Pw h' s.heap.objs.size x y->(∀c o,c≠z->c≠TO->c≠i1->c≠i2->s.heap.get? c=some o->h'.get? c=some o)->Q (.ref s.heap.objs.size) {s with heap:=h',toks:=tk}):N8 (Od prog w) A (Pj.«zip.__next__» ⟨[.ref z],[]⟩) (λfin s'=>∃v,fin=.done (.ret v)/\Q v s') E s:=by
 have f1:∀{k:Nat}{c:VB}{g g':Oe},S1 k g->OH c g g'->i1≠c->S1 k g':=λst sb ne=>D1.frame _ _ _ st λq hq o ho=>by rw[R4.mp hq]at ho ⊢;exact sb.extBut _ _ ne ho
 have f2:∀{k:Nat}{c:VB}{g g':Oe},S2 k g->OH c g g'->i2≠c->S2 k g':=λst sb ne=>D2.frame _ _ _ st λq hq o ho=>by rw[R4.mp hq]at ho ⊢;exact sb.extBut _ _ ne ho
 refine N0 (m:=field (.ref z) 2) (OV hz rfl (x:=.bool false) rfl (N0 (m:=field (.ref z) 3) (OV hz rfl (x:=.ref TI) rfl (N0 (OD hTI rfl ?_)))));refine N0 (m:=OM (.ref z)) ?_;unfold OM;refine N0 (OV hz rfl (x:=.none) rfl (N2 ?_));rw[NR rfl];refine N0 (QP ?_);refine N0 (OV hz rfl (x:=.ref TO) rfl (N0 (Pp hz (by simp) λg1 zz1 b1=>N0 ?_)));have z1:QB g1 z TI TO .ellipsis:=zz1;simp only[List.zipIdx_cons,List.zipIdx_nil,Th,List.forIn_nil];refine N0 (N0 (Rh (N0 (m:=PJ (.ref i1)) (D1.item i _ _ _ l1 (f1 h1 b1 ap.c) λx g2 k2 p1 t2 b2=>N2 ?_))));have o2:Pw g2 TO a b:=b2.extBut _ _ ap.f (b1.extBut _ _ ap.b hTO);refine N0 (OD o2 rfl (N0 (wpAny_updateSeq_pair o2 λg3 oo3 b3=>N0 (wpAny_letGo (N2 ?_)))));have o3:Pw g3 TO x b:=oo3;refine N0 (N0 (Rh (N0 (m:=PJ (.ref i2)) (D2.item i _ _ _ l2 (f2 (f2 (f2 h2 b1 ap.d) b2 ap.h.symm) b3 ap.g.symm) λy g4 k4 p2 t4 b4=>N2 ?_))));have o4:Pw g4 TO x b:=b4.extBut _ _ ap.g o3;refine N0 (OD o4 rfl (N0 (wpAny_updateSeq_pair o4 λg5 oo5 b5=>N0 (wpAny_letGo (N2 (N2 ?_))))));have o5:Pw g5 TO x y:=oo5;have n5:g5.objs.size=s.heap.objs.size:=by rw[b5.1,b4.1,b3.1,b2.1,b1.1]
 have z5:QB g5 z TI TO .ellipsis:=b5.extBut _ _ ap.b.symm (b4.extBut _ _ ap.d.symm (b3.extBut _ _ ap.b.symm (b2.extBut _ _ ap.c.symm z1)));have u1:S1 (i+1) g5:=f1 (f1 (f1 t2 b3 ap.f.symm) b4 ap.h) b5 ap.f.symm;have u2:S2 (i+1) g5:=f2 t4 b5 ap.g.symm;have zl:z<g5.objs.size:=N4 z5;refine N0 (OD o5 rfl (N0 (wpAny_newTuple (N0 (m:=PL (.ref z) (.ref g5.objs.size)) ?_))));unfold PL;have z6:QB (g5.push {cls:=.type "tuple",data:=.seq #[x,y]}) z TI TO .ellipsis:=N1 _ z5;refine N0 (Pp z6 (by simp) λg7 zz7 b7=>Pp (show QB g7 z TI TO (Qh g5.objs.size)from zz7) (by simp) λg8 zz8 b8=>N2 ⟨_,rfl,?_⟩);have z8:QB g8 z TI TO (Qh g5.objs.size):=zz8;have up:∀c o,c≠z->g5.get? c=some o->g8.get? c=some o:=λc o c1 e=>b8.extBut _ _ c1 (b7.extBut _ _ c1 (N1 _ e));have t8:Pw g8 g5.objs.size x y:=b8.extBut _ _ (T4 zl) (b7.extBut _ _ (T4 zl) (N7 _ rfl));show Q (.ref g5.objs.size) _;rw[n5]at z8 t8 ⊢;exact hQ x y g8 k4 p1 p2 z8 (up _ _ ap.b o5) (D1.frame _ _ _ u1 λq hq o ho=>by rw[R4.mp hq]at ho ⊢;exact up _ _ ap.c ho) (D2.frame _ _ _ u2 λq hq o ho=>by rw[R4.mp hq]at ho ⊢;exact up _ _ ap.d ho) t8 λc o c1 c2 c3 c4 e=>up c o c1 (b5.extBut _ _ c2 (b4.extBut _ _ c4 (b3.extBut _ _ c2 (b2.extBut _ _ c3 (b1.extBut _ _ c1 e)))))
theorem He{Q:Fin->N3->Prop}(D1:Draws prog w A i1 [i1] n1 P1 S1)(ap:Mz z TI TO i1 i2)(hz:QB s.heap z TI TO .none)(hTI:Pw s.heap TI (.ref i1) (.ref i2))(h1:S1 n1 s.heap)(hE:∀h' e,(∀c o,c≠z->c≠i1->s.heap.get? c=some o->h'.get? c=some o)->(∃o,h'.get? e=some o/\o.cls=.type "StopIteration")->E (.ref e) {s with heap:=h'}):N8 (Od prog w) A (Pj.«zip.__next__» ⟨[.ref z],[]⟩) Q E s:=by
 have f1:∀{k:Nat}{c:VB}{g g':Oe},S1 k g->OH c g g'->i1≠c->S1 k g':=λst sb ne=>D1.frame _ _ _ st λq hq o ho=>by rw[R4.mp hq]at ho ⊢;exact sb.extBut _ _ ne ho
 refine N0 (m:=field (.ref z) 2) (OV hz rfl (x:=.bool false) rfl (N0 (m:=field (.ref z) 3) (OV hz rfl (x:=.ref TI) rfl (N0 (OD hTI rfl ?_)))));refine N0 (m:=OM (.ref z)) ?_;unfold OM;refine N0 (OV hz rfl (x:=.none) rfl (N2 ?_));rw[NR rfl];refine N0 (QP ?_);refine N0 (OV hz rfl (x:=.ref TO) rfl (N0 (Pp hz (by simp) λg1 zz1 b1=>N0 ?_)));have z1:QB g1 z TI TO .ellipsis:=zz1;simp only[List.zipIdx_cons,List.zipIdx_nil,Th,List.forIn_nil];refine N0 (N0 (Rh (N0 (m:=PJ (.ref i1)) (D1.done _ _ _ (f1 h1 b1 ap.c) λg2 e b2 he=>?_))));obtain⟨oe,hoe,hce⟩:=he;have z2:QB g2 z TI TO .ellipsis:=b2 _ _ ap.c.symm z1;have ne:e≠z:=λq=>by rw[q]at hoe;have z2':g2.get? z=_:=z2;rw[z2']at hoe;cases hoe;simp at hce
 exact Pp z2 (by simp) λg3 _ b3=>hE g3 e (λc o c1 c3 q=>b3.extBut _ _ c1 (b2 _ _ c3 (b1.extBut _ _ c1 q))) ⟨oe,b3.extBut _ _ ne hoe,hce⟩
theorem BH{Q:Option VA->N3->Prop}(D1:Draws prog w A.in1 i1 [i1] n1 P1 S1)(D2:Draws prog w A.in1 i2 [i2] n2 P2 S2)(ap:Mz z TI TO i1 i2)(hz:QB s.heap z TI TO .none)(hTI:Pw s.heap TI (.ref i1) (.ref i2))(hTO:Pw s.heap TO a b)(h1:S1 i s.heap)(h2:S2 i s.heap)(l1:i<n1)(l2:i<n2)(hQ:∀x y h' tk,P1 i x->P2 i y->QB h' z TI TO (Qh s.heap.objs.size)->Pw h' TO x y->S1 (i+1) h'->S2 (i+1) h'->Pw h' s.heap.objs.size x y->(∀c o,c≠z->c≠TO->c≠i1->c≠i2->s.heap.get? c=some o->h'.get? c=some o)->Q (some (.ref s.heap.objs.size)) {s with heap:=h',toks:=tk}):N8 (Od prog w) A (Ph (.ref z)) Q E s:=by have hT:s.TypeIs (.ref z) "zip":=⟨_,hz,rfl⟩;unfold Ph;exact N0 (Pr (Ov (name:=OG "__next__") hT Qj (Oz Qj hT F.entry_zip_next (BI D1 D2 ap hz hTI hTO h1 h2 l1 l2 λx y h' tk q1 q2 q3 q4 q5 q6 q7 q8=>N2 (hQ x y h' tk q1 q2 q3 q4 q5 q6 q7 q8)) (F.args_zip_next_1 _))))
theorem BG{Q:Option VA->N3->Prop}(D1:Draws prog w A.in1 i1 [i1] n1 P1 S1)(ap:Mz z TI TO i1 i2)(hz:QB s.heap z TI TO .none)(hTI:Pw s.heap TI (.ref i1) (.ref i2))(h1:S1 n1 s.heap)(hQ:∀h',(∀c o,c≠z->c≠i1->s.heap.get? c=some o->h'.get? c=some o)->Q none {s with heap:=h'}):N8 (Od prog w) A (Ph (.ref z)) Q E s:=by have hT:s.TypeIs (.ref z) "zip":=⟨_,hz,rfl⟩;unfold Ph;refine N0 (Pr (Ov (name:=OG "__next__") hT Qj (Oz Qj hT F.entry_zip_next (He D1 ap hz hTI h1 λh' e hk he=>?_) (F.args_zip_next_1 _))));obtain⟨o,ho,hc⟩:=he;exact N0 (Pk (T:="StopIteration") (b:=true) ⟨o,ho,hc⟩ Qt (N2 (hQ _ hk)))
end
def sI(x:Str)(t:Rt):Obj:={cls:=.type (O4 x),data:=.fields #[.str x t,.int 0 0]}
def BJ(h:Oe)(x:Str)(t:Rt)(y:Str)(u:Rt):Oe:=(h.push (sI x t)).push (sI y u)
def Le(h:Oe)(x:Str)(t:Rt)(y:Str)(u:Rt):Oe:=((BJ h x t y u).push {cls:=.type "tuple",data:=.seq #[.ref h.objs.size,.ref (h.push (sI x t)).objs.size]}).push {cls:=.type "tuple",data:=.seq #[.none,.none]}
def Hf(h:Oe)(x:Str)(t:Rt)(y:Str)(u:Rt):Oe:=(Le h x t y u).push {cls:=.type "zip",data:=.fields #[.none,.bool false,.bool false,.ref (BJ h x t y u).objs.size,.ref ((BJ h x t y u).push {cls:=.type "tuple",data:=.seq #[.ref h.objs.size,.ref (h.push (sI x t)).objs.size]}).objs.size]}
theorem uZ(x:Str)(t:Rt)(y:Str)(u:Rt):Meets (Pj.«zip.__new__» ⟨[.type "zip",.str x t,.str y u],[]⟩) (λ_ R s=>R (.ok (.ret (.ref (Le s.heap x t y u).objs.size))) {s with heap:=Hf s.heap x t y u}):=
 .of_wp λprog w A R s h=>by
  obtain⟨hp,g,d,tk,os⟩:=s;have hsub:=sub_zip
  wp_walk using wpAny_pyIter_strU
  exact⟨_,rfl,h⟩
section
variable{prog:N5}{w:N9}{A:Oi}{E:NY}{s:N3}
theorem yI{x y:Str}{t u:Rt}{Q:NY}(h:∀h',QB h' (s.heap.objs.size+4) (s.heap.objs.size+2) (s.heap.objs.size+3) .none->Pw h' (s.heap.objs.size+2) (.ref s.heap.objs.size) (.ref (s.heap.objs.size+1))->Pw h' (s.heap.objs.size+3) .none .none->
   h'.IsStrIter s.heap.objs.size (O4 x) x t 0->h'.IsStrIter (s.heap.objs.size+1) (O4 y) y u 0->(∀c o,s.heap.get? c=some o->h'.get? c=some o)->Q (.ref (s.heap.objs.size+4)) {s with heap:=h'}):N8 (Od prog w) A (call (.type "zip") [.str x t,.str y u]) Q E s:=by
 refine callType_new F.called_zip (by decide) (F.typeCall_zip_2 _ _) (F.newCall_zip_2 _ _) (λobj=>F.args_object_init_3 obj _ _) F.entry_zip_new (uZ x t y u) ?_;have y1:(s.heap.push (sI x t)).objs.size=s.heap.objs.size+1:=Os ..;have y2:(BJ s.heap x t y u).objs.size=s.heap.objs.size+2:=by unfold BJ;rw[Os,y1]
 have y3:((BJ s.heap x t y u).push {cls:=.type "tuple",data:=.seq #[.ref s.heap.objs.size,.ref (s.heap.push (sI x t)).objs.size]}).objs.size=s.heap.objs.size+3:=by rw[Os,y2]
 have y4:(Le s.heap x t y u).objs.size=s.heap.objs.size+4:=by unfold Le;rw[Os,y3]
 have g5:(Hf s.heap x t y u).get? (Le s.heap x t y u).objs.size=some _:=N7 _ rfl;have up:∀c o,(BJ s.heap x t y u).get? c=some o->(Hf s.heap x t y u).get? c=some o:=λc o e=>N1 _ (N1 _ (N1 _ e));have g3:(Hf s.heap x t y u).get? (BJ s.heap x t y u).objs.size=some _:=N1 _ (N1 _ (N7 _ rfl));have g4:(Hf s.heap x t y u).get? ((BJ s.heap x t y u).push {cls:=.type "tuple",data:=.seq #[.ref s.heap.objs.size,.ref (s.heap.push (sI x t)).objs.size]}).objs.size=some _:=N1 _ (N7 _ rfl);have g1:(Hf s.heap x t y u).get? s.heap.objs.size=some (sI x t):=up _ _ (N1 _ (N7 _ rfl));have g2:(Hf s.heap x t y u).get? (s.heap.push (sI x t)).objs.size=some (sI y u):=up _ _ (N7 _ rfl);show _/\_;rw[y2,y3,y4]at g5;rw[y1,y2]at g3;rw[y3]at g4;rw[y1]at g2;rw[y4];exact⟨⟨_,g5,rfl⟩,h _ g5 g3 g4 ⟨_,g1,rfl,rfl⟩ ⟨_,g2,rfl,rfl⟩ λc o e=>up _ _ (N1 _ (N1 _ e))⟩
end
section
variable{X:Cx}{gV:NZ}{σ:St}{H:Hp}{s:N3}{h':Oe}
theorem aK.turnedN{t':Nat}{fp:List VB}(I:aK X gV σ H s)(k:∀b ob,b∉fp->s.heap.get? b=some ob->h'.get? b=some ob)(hf:∀b∈fp,iq X gV H b):aK X gV σ H {s with heap:=h',toks:=t'}:=by
 have nf:∀b u,H b=some u->b∉fp:=λb u q z=>by rw[(hf b z).1]at q;cases q
 have nl:X.env.locals∉fp:=λz=>(hf _ z).2.1 rfl;refine I.step (g':=s.gens) (d':=s.drawn) (ch:=fp) (λb hb=>⟨(hf b hb).2.2.2.1,(hf b hb).2.1,(hf b hb).2.2.2.2.1,(hf b hb).2.2.2.2.2⟩) (λb ob _ _ hc q _=>k b ob hc q) (λb ob _ _ hc q _=>⟨ob.slots,k b ob hc q⟩)
  (λ_ _ _ _ n=>n) (λb ob hc q=>⟨ob,k b ob hc q⟩) (λ_ _ q=>q) (λ_ _ _ q=>q) (λb ps q=>⟨#[],by rw[q];simp⟩) (λm hm=>?_) (λb u q=>?_) I.bare
 .obtain⟨ob,es,ep,ho,r⟩:=hm;exact⟨ob,es,ep,k _ ob nl ho,r⟩
 .refine(I.hok b u q).stay (λc v hc z=>k c v ?_ z) (λc z=>z) λc xs z=>z
  rcases hc with z|z
  .rw[z];exact nf b u q
  .exact nf c _ z
theorem aK.turned_laidN{t':Nat}{fp:List VB}{a:VB}{o:HO}(I:aK X gV σ H s)(k:∀b ob,b∉fp->s.heap.get? b=some ob->h'.get? b=some ob)(hf:∀b∈fp,iq X gV H b)(hp:s.heap.objs.size<=a)(new:bD X.prog X.w (upd H a o) h' a o):aK X gV σ (upd H a o) {s with heap:=h',toks:=t'}:=by
 have hn:H a=none:=I.hok.fresh hp;have nf:∀b u,H b=some u->b∉fp:=λb u q z=>by rw[(hf b z).1]at q;cases q
 have nl:X.env.locals∉fp:=λz=>(hf _ z).2.1 rfl;refine I.step (g':=s.gens) (d':=s.drawn) (ch:=fp) (λb hb=>⟨(hf b hb).2.2.2.1,(hf b hb).2.1,(hf b hb).2.2.2.2.1,(hf b hb).2.2.2.2.2⟩) (λb ob _ _ hc q _=>k b ob hc q) (λb ob _ _ hc q _=>⟨ob.slots,k b ob hc q⟩)
  (λb ob hc q n=>by rw[au (TY (T2 (N4 q) hp))];exact n) (λb ob hc q=>⟨ob,k b ob hc q⟩) (λb xs q=>by rw[au (aw q hn)];exact q) (λb ob u q=>by rw[au (aw q hn)];exact q)
  (λb ps q=>⟨#[],by rw[au (aw q hn),q];simp⟩) (λm hm=>?_) (λb u q=>?_) I.bare
 .obtain⟨ob,es,ep,ho,r⟩:=hm;exact⟨ob,es,ep,k _ ob nl ho,r⟩
 .by_cases hb:b=a
  .subst hb;rw[ah]at q;cases q;exact new
  .rw[au hb]at q;refine(I.hok b u q).stay (λc v hc z=>k c v ?_ z) (λc z=>by rw[au (aw z hn)];exact z) λc xs z=>by rw[au (aw z hn)];exact z
   rcases hc with z|z
   .rw[z];exact nf b u q
   .exact nf c _ z
end
def Jn(x y:Str):It:=
 ⟨λi _=>i<x.cps.size,λi H v H'=>∃t c e,v=.ref t/\H t=none/\x.cps.toList[i]? =some c/\y.cps.toList[i]? =some e/\H'=upd H t (.tup [.str ⟨#[c]⟩,.str ⟨#[e]⟩]),λi _=>i=x.cps.size⟩
def ZSt(z TI TO i1 i2:VB)(x:Str)(t:Rt)(y:Str)(u:Rt)(i:Nat)(h:Oe):Prop:=QB h z TI TO .none/\Pw h TI (.ref i1) (.ref i2)/\(∃a b,Pw h TO a b)/\h.IsStrIter i1 (O4 x) x t i/\h.IsStrIter i2 (O4 y) y u i
theorem xt{P:N5}{w:N9}{K:Frag}{elts:List Ol}{k0:Nat}{pos:Qa}(z TI TO i1 i2:VB)(x:Str)(t:Rt)(y:Str)(u:Rt)(ap:Mz z TI TO i1 i2)(hl:x.cps.size=y.cps.size):vP P w K (.Tuple elts k0 pos) (Jn x y) [z,TI,TO,i1,i2] z (ZSt z TI TO i1 i2 x t y u) where
 mem:=by simp
 obj:=λi h st b hb=>by
  obtain⟨hz,hTI,⟨a,a',hTO⟩,⟨o1,q1,c1,d1⟩,o2,q2,c2,d2⟩:=st;simp only[RV,Sb,or_false]at hb
  rcases hb with rfl|rfl|rfl|rfl|rfl
  .exact⟨_,hz,λv e=>by cases e⟩
  .exact⟨_,hTI,λv e=>by cases e⟩
  .exact⟨_,hTO,λv e=>by cases e⟩
  .exact⟨o1,q1,λv e=>by rw[d1]at e;cases e⟩
  .exact⟨o2,q2,λv e=>by rw[d2]at e;cases e⟩
 keep:=λi h h' st k=>by obtain⟨hz,hTI,⟨a,a',hTO⟩,⟨o1,q1,r1⟩,o2,q2,r2⟩:=st;exact⟨k z (by simp) _ hz,k TI (by simp) _ hTI,⟨a,a',k TO (by simp) _ hTO⟩,⟨o1,k i1 (by simp) _ q1,r1⟩,o2,k i2 (by simp) _ q2,r2⟩
 item:=by
  intro X hP hw hK hc i gV s σ H E I hf st hg;subst hP hw hK;obtain⟨hz,hTI,⟨a,a',hTO⟩,h1,h2⟩:=st;have hh:X.A.in1.handled=none:=by show X.A.handled=none;exact I.ok.hd hc
  have D1:=g6 (prog:=X.prog) (w:=X.w) hh i1 x t;have D2:=g6 (prog:=X.prog) (w:=X.w) hh i2 y u;have hg:i<x.cps.size:=hg;refine BH D1 D2 ap hz hTI hTO h1 h2 hg (by omega) λv1 v2 g1 tk p1 p2 z1 o1 s1 s2 t1 k1=>?_;obtain⟨c,u1,hc1,rfl⟩:=p1;obtain⟨e,u2,hc2,rfl⟩:=p2;refine⟨_,rfl,wpAny_letOwnedTupleGo_zip z1 λg2 z2 sb=>?_⟩;have lz:z<s.heap.objs.size:=N4 hz;have kk:∀b ob,b∉[z,TI,TO,i1,i2]->s.heap.get? b=some ob->g2.get? b=some ob:=λb ob hb q=>by simp only[RV,Sb,or_false,not_or]at hb;exact(sb.2 b hb.1).trans (k1 b ob hb.1 hb.2.2.1 hb.2.2.2.1 hb.2.2.2.2 q)
  have t2:g2.get? s.heap.objs.size=some {cls:=.type "tuple",data:=.seq #[.str ⟨#[c]⟩ u1,.str ⟨#[e]⟩ u2]}:=(sb.2 _ (T4 lz)).trans t1;have new:bD X.prog X.w (upd H s.heap.objs.size (.tup [.str ⟨#[c]⟩,.str ⟨#[e]⟩])) g2 s.heap.objs.size (.tup [.str ⟨#[c]⟩,.str ⟨#[e]⟩]):=
   ⟨by show 2<=v1;decide,[.str ⟨#[c]⟩ u1,.str ⟨#[e]⟩ u2],.cons ⟨u1,rfl⟩ (.cons ⟨u2,rfl⟩ .nil),⟨_,t2,rfl,_,rfl⟩⟩
  have I2:=I.turned_laidN (t':=tk) kk hf (TX _) new;obtain⟨q1,w1,r1⟩:=s1;obtain⟨q2,w2,r2⟩:=s2;have kTI:g1.get? TI=_:=k1 _ _ ap.a ap.e ap.i ap.j hTI;refine⟨.ref s.heap.objs.size,_,I2,rfl,⟨_,c,e,rfl,I.hok.fresh (TX _),by rw[UR];exact hc1,by rw[UR];exact hc2,rfl⟩,⟨z2,(sb.2 _ ap.a).trans kTI,⟨_,_,(sb.2 _ ap.b).trans o1⟩,⟨q1,(sb.2 _ ap.c).trans w1,r1⟩,q2,(sb.2 _ ap.d).trans w2,r2⟩,λb hb=>?_⟩;have hlt:b<s.heap.objs.size:=by
   simp only[RV,Sb,or_false]at hb
   rcases hb with rfl|rfl|rfl|rfl|rfl
   .exact lz
   .exact N4 hTI
   .exact N4 hTO
   .obtain⟨o,ho,_⟩:=h1;exact N4 ho
   .obtain⟨o,ho,_⟩:=h2;exact N4 ho
  rw[au (TY hlt)];exact(hf b hb).1
 done:=by
   intro X hP hw hK hc i gV s σ H E I hf st hg;subst hP hw hK;obtain⟨hz,hTI,⟨a,a',hTO⟩,h1,h2⟩:=st;have hg:i=x.cps.size:=hg;subst hg;have D1:=g6 (prog:=X.prog) (w:=X.w) (A:=X.A.in1) (by show X.A.handled=none;exact I.ok.hd hc) i1 x t;exact BG D1 ap hz hTI h1 λh' hx=>⟨rfl,I.turnedN (t':=s.toks) (λb ob hb q=>by
    simp only[RV,Sb,or_false,not_or]at hb;exact hx b ob hb.1 hb.2.2.2.1 q) hf⟩
 self:=λA i s Q E st h=>wpAny_pyIter_zip st.1 h
section
variable{X:Cx}{p pos pos2:Qa}{a b:Ol}{elts:List Ol}{k0:Nat}{ta tb:TE}
def Ca(R:It->Hp->Prop)(vs:List V)(H:Hp):Prop:=match vs with
 | [.str x,.str y]=>x.cps.size=y.cps.size/\R (Jn x y) H
 |_=>False
def LZ(t:TA):TI:=λσ H R=>t σ H λvs H1=>Ca R vs H1
theorem Nv{t:TA}(hm:X.mg "zip"=none)(hA:PA X [a,b] t)(hg:Gl X "zip":=by rfl)(hs:N6 [a,b] X.env=(false,Ow a X.env)::N6 [b] X.env:=by rfl)(hp:(Ot pos (N6 [b] X.env)).any (·.1)=false:=by rfl):PI X (.Tuple elts k0 pos2) (.Call (.Name "zip" p) [a,b] [] pos) (LZ t):=by
 intro gV s σ H R I h;refine Call_ (iH I hg hm IY (PyProof.Rows.callWith_type1 (bM (hA pos gV s σ H (λvs H1=>Ca R vs H1) I h) λus s1 ⟨vs,H1,I1,r1,q1⟩=>?_) hs hp) (by decide) (by decide))
 replace q1:Ca R vs H1:=q1
 unfold Ca at q1;split at q1
 .rename_i x y;obtain⟨u1,u2,rfl,⟨t1,rfl⟩,t2,rfl⟩:=Gp r1;refine yI λh' q2 q3 q4 q5 q6 hk=>?_;have I2:aK X gV σ H1 {s1 with heap:=h'}:=I1.kept (t':=s1.toks) hk;refine wpAny_pyIter_zip q2 ⟨s1.heap.objs.size+4,[s1.heap.objs.size+4,s1.heap.objs.size+2,s1.heap.objs.size+3,s1.heap.objs.size,s1.heap.objs.size+1],_,_,H1,rfl,I2,xt _ _ _ _ _ x t1 y t2 ?_ q1.1,⟨q2,q3,⟨_,_,q4⟩,q5,q6⟩,λb hb=>?_,q1.2⟩
  .have f:∀i j:Nat,i≠j->s1.heap.objs.size+i≠s1.heap.objs.size+j:=λi j h=>by omega
   exact⟨f 2 4 (by decide),f 3 4 (by decide),f 0 4 (by decide),f 1 4 (by decide),f 2 3 (by decide),f 3 0 (by decide),f 3 1 (by decide),f 0 1 (by decide),f 2 0 (by decide),f 2 1 (by decide)⟩
  .have hb2:s1.heap.objs.size<=b:=by
    simp only[RV,Sb,or_false]at hb
    rcases hb with rfl|rfl|rfl|rfl|rfl
    .exact T7 _ _
    .exact T7 _ _
    .exact T7 _ _
    .exact TX _
    .exact T7 _ _
   exact I1.fpOk hb2 (I1.hok.fresh hb2)
 .exact q1.elim
end
section
variable{K:Frag}{σ rest:St}{H:Hp}{t:TA}{te:TE}{src:List (Option Nat)}{Q:VK}{x y:Str}
theorem yD(hl:Av t σ H [.str x,.str y])(hlen:x.cps.size=y.cps.size)(hz:x.length<=1000)(hs:dX src σ=none::none::rest)(f:Nat->Nat->V)(he:∀(i c e:Nat)(H':Hp),x.cps.toList[i]? =some c->y.cps.toList[i]? =some e->ak H H'->Ev te (some (.str (one c))::some (.str (one e))::rest) H' (f c e))(q:∀H' d,ak H H'->H' d=none->Q (.ref d) (upd H' d (.lst (List.zipWith f x.cps.toList y.cps.toList)))):tComp (LZ t) (vn K 2 (gZ (gName 0) (gZ (gName 1) yu))) je te src σ H Q:=by
 have hx:x.cps.toList.length=x.length:=UT;have hy:y.cps.toList.length=x.length:=by rw[UT];exact hlen.symm
 refine hl _ ⟨hlen,?_⟩;show df _ je te src σ Q (Jn x y) H;refine iO x.length (λi ys σ' H'=>ak H H'/\(∃o0 o1,σ'=o0::o1::rest)/\ys=List.zipWith f (x.cps.toList.take i) (y.cps.toList.take i)) (T0 hz (by decide)) (λi ys σ H h=>?_) (λi ys σ H h hi=>hi) (λys σ H h=>rfl) ⟨ak.refl H,⟨_,_,hs⟩,by simp⟩ ?_ ?_
 .rw[h.2.2,List.length_zipWith,Si,Si];omega
 .rintro i ys _ H1 v H2 hi ⟨s1,⟨o0,o1,rfl⟩,rfl⟩ ⟨tq,c,e,rfl,ht0,hc,hd,rfl⟩ Kt Kf kt kf;have s2:ak H (upd H1 tq (.tup [.str ⟨#[c]⟩,.str ⟨#[e]⟩])):=s1.upd ht0;refine⟨tq,_,rfl,cJ.of ah,rfl,_,_,rfl,_,_,rfl,rfl,?_⟩;simp only[je,if_true];refine he i c e _ hc hd s2 _ (kt _ _ _ ⟨s2,⟨_,_,rfl⟩,?_⟩);rw[Tr,Tr,hc,hd];rw[List.zipWith_append (by rw[Si,Si,hx,hy])];rfl
 .rintro ys σ' H' d ⟨s1,_,rfl⟩ hd;rw[SJ (by omega),SJ (by omega)];exact q H' d s1 hd
end
def fW(ks:List Nat)(c e:Nat):Bool:=if e=35 then decide (c=35)else decide (c=46\/c∈ks\/c∈ks.map (· - 32))
def rowB(wi hi:Int)(hs:List Int)(ks:List Nat)(v:V):Bool:=match v with
 | .str z=>decide (z.length=(emptyT wi hi hs).length)&&(List.zipWith (fW ks) z.cps.toList (emptyT wi hi hs).cps.toList).all id
 |_=>false
def jx(wi hi:Int)(hs:List Int)(ks:List Nat)(H:Hp)(v:V):Bool:=match tupOf H v with
 |some [a,b]=>rowB wi hi hs ks a&&amongB b 0 1
 |_=>false
theorem jw{wi hi:Int}{hs:List Int}{ks:List Nat}{H:Hp}{v a b:V}(e:tupOf H v=some [a,b]):jx wi hi hs ks H v=(rowB wi hi hs ks a&&amongB b 0 1):=by unfold jx;rw[e]
theorem xR{wi hi:Int}{hs:List Int}{ks:List Nat}{H:Hp}{v:V}(h:tupB H v 2=false):jx wi hi hs ks H v=false:=by
 unfold tupB at h;unfold jx;split
 .rename_i e1;rw[e1]at h;cases h
 .rfl
def uj(K:Frag)(cB cG:VB):Sp:=λvs H Q _=>∃(g b:VB)(v:V)(wi hi:Int)(hs:List Int)(ks:List Nat)(rs ts es:List V)(st:Str),vs=[.ref g,v]/\fY cG H g b (ks.map strV) rs ts es st/\cb K cB H b wi hi hs/\(∀k∈ks,jF k)/\ks.length<=6/\Thg H v/\∀H',ak H H'->Q (.bl (rowB wi hi hs ks v)) H'
def jH(K:Frag)(cB cG:VB):Sp:=λvs H Q _=>∃(g b:VB)(v:V)(wi hi:Int)(hs:List Int)(ks:List Nat)(rs ts es:List V)(st:Str),vs=[.ref g,v]/\fY cG H g b (ks.map strV) rs ts es st/\cb K cB H b wi hi hs/\(∀k∈ks,jF k)/\ks.length<=6/\fv H 1 v/\∀H',ak H H'->Q (.bl (jx wi hi hs ks H v)) H'
structure CR1(P:N5)(w:N9)(K:Frag)(mg:NX)(np:Oe)(cB:VB):Prop where
 sign_of:cy P w K mg np "sign_of" ["kind","side"] 1 oU
 empty_row:cy P w K mg np "empty_row" ["board"] 4 (wc K cB)
structure CR2(P:N5)(w:N9)(K:Frag)(mg:NX)(np:Oe)(cB cG:VB):Prop where
 is_tuple_of:cy P w K mg np "is_tuple_of" ["thing","many"] 1 iy
 is_among:cy P w K mg np "is_among" ["thing","least","most"] 2 iz
 is_row:cy P w K mg np "is_row" ["game","thing"] 5 (uj K cB cG)
section
variable{K:Frag}{te ta tb:TE}{t ta':TA}{c:TT}{u e t1:TS}{D:dW}{σ:St}{H:Hp}{Q:VK}{R:List V->Hp->Prop}{v:V}
theorem gf(P:St->Hp->Prop)(hu:∀σ' H',P σ' H'->u D σ' H')(h:(∀σ' H',P σ' H'->u D σ' H')->bj (lS c t1 e) u D σ H):bj (lS c t1 e) u D σ H:=h hu
theorem na{i:Nat}(h:te σ H (λv H'=>D.nx (σ.set i (some v)) H')):tAsg te (gName i) D σ H:=h
theorem jC(h:Ev te σ H v)(q:ta' σ H (λxs H2=>R (v::xs) H2)):bo te ta' σ H R:=h _ q
theorem gr(h:te σ H (λx H1=>ta' σ H1 (λxs H2=>R (x::xs) H2))):bo te ta' σ H R:=h
theorem jU(q:R [] H):cL σ H R:=q
theorem sP(q:t σ H (λvs H2=>vs.length<=v1/\∀p,H2 p=none->Q (.ref p) (upd H2 p (.lst vs)))):uf t σ H Q:=q
theorem lh(h:ta σ H λx H1=>tb σ H1 λy H2=>j6 .Add x y H2 Q):nK .Add ta tb σ H Q:=h
theorem qL{a b:VB}{xs ys:List V}(ha:H a=some (.lst xs))(hb:H b=some (.lst ys))(hz:xs.length+ys.length<=1000)(q:∀p,H p=none->Q (.ref p) (upd H p (.lst (xs++ys)))):j6 .Add (.ref a) (.ref b) H Q:=by rw[zZ];exact⟨a,b,xs,ys,rfl,rfl,ha,hb,T0 hz (by decide),q⟩
end
theorem qc{a b:Nat}:(one a=one b)<->a=b:=by
 constructor
 .intro h;have h:(one a).cps.toList=(one b).cps.toList:=by rw[h]
  have h:[a]=[b]:=h;injection h
 .intro h;rw[h]
theorem AO:("#":Str)=one 35:=by decide+kernel
theorem C2:(".":Str)=one 46:=by decide+kernel
theorem qI{p q:Prop}[Decidable p][Decidable q](h:p<->q):decide p=decide q:=by
 by_cases hp:p
 .rw[C0 hp,C0 (h.mp hp)]
 .rw[NP hp,NP (λz=>hp (h.mpr z))]
def upV:V->V
 | .str z=>.str (one (z.cps.toList.getD 0 0 - 32))
 |v=>v
end L2
namespace L2
open PySem
def tU(xs:Array Nat):Prop:= ∀i j,i<j->j<xs.size->xs.getD i 0<xs.getD j 0
theorem bA{α:Type}{xs:Array α}{i:Nat}{d:α}(h:i<xs.size):xs.getD i d=xs[i]:=by simp[Array.getD,h]
theorem Ji{xs:Array Nat}{i d e:Nat}(h:i<xs.size):xs.getD i d=xs.getD i e:=by rw[bA h,bA h]
theorem m9(xs:Array Nat)(j:Nat)(hr:tU xs):∀(f lo hi:Nat),hi - lo<=f->lo<=hi->hi<=xs.size->(∀k,k<lo->xs.getD k 0<j)->(∀k,hi<=k->k<xs.size->j<=xs.getD k 0)->P7 xs j f lo hi<=xs.size/\(∀k,k<P7 xs j f lo hi->xs.getD k 0<j)/\(∀k,P7 xs j f lo hi<=k->k<xs.size->j<=xs.getD k 0)
 |0,lo,hi,h1,h2,h3,h4,h5=>by
  have:lo=hi:=by omega
  subst this;exact⟨h3,h4,h5⟩
 |f+1,lo,hi,h1,h2,h3,h4,h5=>by
  unfold P7
  by_cases h:lo<hi
  .rw[NR h];have hm:(lo+hi) / 2<xs.size:=by omega
   dsimp only;rw[Ji (e:=0) hm]
   by_cases q:xs.getD ((lo+hi) / 2) 0<j
   .rw[NR q];refine m9 xs j hr f _ hi (by omega) (by omega) h3 (λk hk=>?_) h5
    by_cases e:k=(lo+hi) / 2
    .rw[e];exact q
    .exact T6 (hr k _ (by omega) hm) q
   .rw[NQ q];refine m9 xs j hr f lo _ (by omega) (by omega) (by omega) h4 (λk hk hks=>?_)
    by_cases e:k=(lo+hi) / 2
    .rw[e];omega
    .have:=hr ((lo+hi) / 2) k (by omega) hks;omega
  .rw[NQ h];have:lo=hi:=by omega
   subst this;exact⟨h3,h4,h5⟩
theorem eG(xs:Array Nat)(j:Nat)(hr:tU xs):Og xs j<=xs.size/\(∀k,k<Og xs j->xs.getD k 0<j)/\(∀k,Og xs j<=k->k<xs.size->j<=xs.getD k 0):=
 m9 xs j hr _ 0 xs.size (by omega) (TZ _) (TX _) (λk hk=>by omega) (λk h1 h2=>by omega)
theorem vM{xs:Array Nat}(hr:tU xs){i:Nat}(h:i<xs.size):Og xs (xs.getD i 0+1)=i+1:=by
 obtain⟨h1,h2,h3⟩:=eG xs (xs.getD i 0+1) hr
 rcases Ue (Og xs (xs.getD i 0+1)) (i+1)with q|q|q
 .have:=h3 i (by omega) h;omega
 .exact q
 .have:=h2 (i+1) (by omega);have:=hr i (i+1) (by omega) (by omega);omega
theorem tP{xs:Array Nat}(hr:tU xs):Og xs 0=0:=by
 obtain⟨h1,h2,h3⟩:=eG xs 0 hr
 rcases Ui (Og xs 0)with q|q
 .exact q
 .have:=h2 0 q;omega
def Do(xs:Array Nat)(j:Nat):Prop:= ∀k,k<xs.size->¬xs.getD k 0=j
theorem CU{xs:Array Nat}{j:Nat}(hr:tU xs)(h:(xs[Og xs j]? == some j)=false):Do xs j:=by
 obtain⟨h1,h2,h3⟩:=eG xs j hr;intro k hk e
 rcases Ue k (Og xs j)with q|q|q
 .have:=h2 k q;omega
 .rw[<-q,UQ hk,<-bA (d:=0) hk,e]at h;simp at h
 .have a1:=hr (Og xs j) k q hk;have a2:=h3 (Og xs j) (TX _) (by omega);omega
theorem gC{α:Type}(xs:Array α)(p:Nat)(x:α):(Oq xs p x).size=xs.size+1:=by have h:=(P6 xs p x).length_eq;simpa using h
theorem pF{xs:Array Nat}:tU xs<->xs.toList.Pairwise (· < ·):=by
 rw[S9]
 constructor
 .intro h i j hi hj hij;have hi':i<xs.size:=by simpa using hi
  have hj':j<xs.size:=by simpa using hj
  have:=h i j hij hj';rw[bA hi',bA hj']at this;simpa using this
 .intro h i j hij hj;have hi:i<xs.size:=by omega
  have:=h i j (by simpa using hi) (by simpa using hj) hij;rw[bA hi,bA hj];simpa using this
theorem uC{xs:Array Nat}{j:Nat}(hr:tU xs)(hf:Do xs j):tU (Oq xs (Og xs j) j):=by
 obtain⟨h1,h2,h3⟩:=eG xs j hr;have g:∀m(hm:m<xs.toList.length),xs.toList[m]=xs.getD m 0:=λm hm=>by
  have hm':m<xs.size:=by simpa using hm
  rw[bA hm'];simp
 rw[pF,QF,TM];have hp:=pF.mp hr;refine⟨hp.sublist (TF _ _),Sz.mpr ⟨λa ha=>?_,hp.sublist (List.drop_sublist _ _)⟩,λa ha b hb=>?_⟩
 .obtain⟨k,hk,rfl⟩:=TN.mp ha;have hk':Og xs j+k<xs.size:=by simpa[Nat.add_comm]using hk
  have a1:=h3 (Og xs j+k) (by omega) hk';have a2:=hf _ hk';rw[g];omega
 .obtain⟨k,hk,rfl⟩:=List.mem_take_iff_getElem.mp ha;have hk1:k<Og xs j:=by omega
  have a1:=h2 k hk1;rw[g]
  rcases RV.mp hb with rfl|hb
  .exact a1
  .obtain⟨m,hm,rfl⟩:=TN.mp hb;have hm':Og xs j+m<xs.size:=by simpa[Nat.add_comm]using hm
   have a2:=h3 (Og xs j+m) (by omega) hm';rw[g];omega
structure SG(led:Bool)(n:Nat)(t:SetTable):Prop where
 fits:t.fits n=true
 led:t.led=led
 ris:tU t.place
theorem xx{t:SetTable}{j:Nat}(hr:tU t.place)(h:t.slot j=.empty\/t.slot j=.dummy):Do t.place j:=by
 apply CU hr;unfold QG at h;dsimp only at h;cases e:(t.place[Og t.place j]? == some j)with
 |false=>rfl
 |true=>
  rw[e]at h;simp at h
theorem ji{α:Type}(f:Nat->Option (Nat×α))(hf:∀j p,f j=some p->p.1=j):∀(l:List Nat),l.Pairwise (· < ·)->((l.filterMap f).map (·.1)).Pairwise (· < ·)/\∀a∈(l.filterMap f).map (·.1),a∈l
 | [],_=>⟨by simp,by simp⟩
 |j::l,h=>by
  obtain⟨h1,h2⟩:=Sz.mp h;obtain⟨i1,i2⟩:=ji f hf l h2;rw[SO];cases e:f j with
  |none=>exact⟨i1,λa ha=>R7 _ (i2 a ha)⟩
  |some p=>
   have ep:=hf j p e;dsimp only;rw[Sk,ep];refine⟨Sz.mpr ⟨λa ha=>h1 a (i2 a ha),i1⟩,λa ha=>?_⟩
   rcases RV.mp ha with rfl|ha
   .exact R6
   .exact R7 _ (i2 a ha)
theorem mU{α:Type}{l:List α}{i:Nat}{x:α}(h:l[i]? =some x):(x::l.eraseIdx i).Perm l:=by
 have hi:i<l.length:=(Sd.mp h).1;have e:l=l.take i++x::l.drop (i+1):=by
  have e1:=(List.take_append_drop i l).symm;have e2:l.drop i=x::l.drop (i+1):=by rw[Ti hi];rw[RU hi]at h;rw[NV h]
  rw[e2]at e1;exact e1
 rw[List.eraseIdx_eq_take_drop_succ]
 conv=>rhs;rw[e]
 exact List.perm_middle.symm
theorem wj{α:Type}(next:Nat->Nat):∀(f k:Nat)(left:List α)(out:Array α),left.length<=f->(RA next f k left out).toList.Perm (out.toList++left)
 |0,k,left,out,h=>by have:left=[]:=Tj.mp (by omega);subst this;simp[RA]
 |f+1,k,left,out,h=>by
  unfold RA;split
  .rename_i x e;have hi:next k % left.length<left.length:=(Sd.mp e).1;have hl:=TQ hi;refine(wj next f (k+1) _ _ (by omega)).trans ?_;rw[UW,SM];exact List.Perm.append_left _ (mU e)
  .rename_i e;have:left=[]:=by
    cases left with
    |nil=>rfl
    |cons a l=>
     rw[RU (Ug _ (by simp))]at e;cases e
   subst this;simp
theorem xS{α:Type}(next:Nat->Nat)(xs:Array α):(PX next xs).toList.Perm xs.toList:=by have:=wj next xs.size 0 xs.toList #[] (by simp);simpa[PX]using this
def wI(M:Nat):Nat->Nat->Nat
 |0,i=>i
 |n+1,i=>wI M n ((i*5+1) % M)
theorem jZ(M:Nat):∀(a b i:Nat),wI M (a+b) i=wI M b (wI M a i)
 |0,b,i=>by rw[T8];rfl
 |a+1,b,i=>by rw[Nat.succ_add];show wI M (a+b) _=wI M b (wI M a _);exact jZ M a b _
def MG(M:Nat):Nat->Nat->List Nat
 |0,_=>[]
 |n+1,i=>i::MG M n ((i*5+1) % M)
theorem pY(M:Nat):∀(n i e:Nat),e∈MG M n i->∃t,t<n/\wI M t i=e
 |0,i,e,h=>by cases h
 |n+1,i,e,h=>by
  rcases RV.mp h with rfl|h
  .exact⟨0,Uh _,rfl⟩
  .obtain⟨t,ht,e2⟩:=pY M n _ e h;exact⟨t+1,by omega,e2⟩
def kX(M:Nat):Prop:=(∀e,e<M->e∈MG M M 0)/\wI M M 0=0
def chk(M:Nat):Bool:=(List.range M).all λe=>(MG M M 0).contains e
theorem lL{M:Nat}(h:chk M=true)(h2:wI M M 0=0):kX M:=⟨λe he=>by
 have:=Sh.mp h e (R8.mpr he);simpa using this,h2⟩
theorem GV:kX 8:=lL (by decide+kernel) (by decide+kernel)
theorem IH:kX 32:=lL (by decide+kernel) (by decide+kernel)
theorem CT:kX 128:=lL (by decide+kernel) (by decide+kernel)
theorem CS:kX 512:=lL (by decide+kernel) (by decide+kernel)
theorem CQ{M:Nat}(f:kX M){i e:Nat}(hi:i<M)(he:e<M):∃t,t<M/\wI M t i=e:=by
 obtain⟨s,hs,es⟩:=pY M M 0 i (f.1 i hi);obtain⟨t,ht,et⟩:=pY M M 0 e (f.1 e he)
 by_cases h:s<=t
 .refine⟨t - s,by omega,?_⟩;rw[<-es,<-jZ,<-et];congr 1;omega
 .refine⟨M - s+t,by omega,?_⟩;rw[<-es,<-jZ,<-et];have:s+(M - s+t)=M+t:=by omega
  rw[this,jZ,f.2]
def lp(mask:Nat)(h:Int):Nat->Nat×Nat
 |0=>(OF h % (mask+1),OF h)
 |n+1=>SetTable.leap mask (lp mask h n).1 (lp mask h n).2
theorem wy(mask:Nat)(h:Int):∀n,(lp mask h n).2=OF h / 32 ^ n
 |0=>by simp[lp]
 |n+1=>by show(lp mask h n).2 / 32=_;rw[wy mask h n,Nat.div_div_eq_div_mul,Nat.pow_succ]
theorem Dc(h:Int):OF h<2 ^ 64:=by unfold OF;omega
theorem GK(mask:Nat)(h:Int):∀n,(lp mask h n).1<mask+1
 |0=>Ug _ (Uh _)
 |n+1=>Ug _ (Uh _)
theorem CD(mask:Nat)(h:Int){n:Nat}(hn:13<=n):(lp mask h n).2=0:=by rw[wy];apply Nat.div_eq_of_lt;refine T2 (Dc h) ?_;have:(32:Nat) ^ 13<=32 ^ n:=Nat.pow_le_pow_right (by decide) hn;refine T0 ?_ this;decide
theorem wx(mask:Nat)(h:Int):∀t,(lp mask h (13+t)).1=wI (mask+1) t (lp mask h 13).1
 |0=>rfl
 |t+1=>by
  have e:wI (mask+1) (t+1) (lp mask h 13).1=(wI (mask+1) t (lp mask h 13).1*5+1) % (mask+1):=by rw[jZ];rfl
  rw[e,<-wx mask h t];show((lp mask h (13+t)).1*5+1+(lp mask h (13+t)).2 / 32) % (mask+1)=_;rw[CD mask h (by omega)]
theorem wz{mask:Nat}(f:kX (mask+1))(h:Int){e:Nat}(he:e<=mask):∃N,N<=mask+13/\(lp mask h N).1=e:=by obtain⟨t,ht,et⟩:=CQ f (GK mask h 13) (Nat.lt_succ_of_le he);exact⟨13+t,by omega,by rw[wx,et]⟩
def vQ(mask:Nat)(h:Int)(n c:Nat)(p:PD):Prop:=
 p.i=(lp mask h n).1/\p.perturb=(lp mask h n).2/\p.j=(lp mask h n).1+c/\c+p.more=Ox mask (lp mask h n).1 - (lp mask h n).1
def sl(mask:Nat)(h:Int)(n c:Nat):Nat:=(lp mask h n).1+c
theorem mq(mask i:Nat):Ox mask i - i<=9:=by unfold Ox;split<;>omega
theorem vQ.start{t:SetTable}{h:Int}:vQ t.mask h 0 0 (t.probeStart h):=⟨rfl,rfl,rfl,by rw[T8];rfl⟩
theorem vQ.more{t:SetTable}{h:Int}{n c:Nat}{p:PD}(a:vQ t.mask h n c p)(hm:0<p.more):vQ t.mask h n (c+1) (t.advance p):=by obtain⟨a1,a2,a3,a4⟩:=a;unfold Qc;rw[NR hm];exact⟨a1,a2,by show p.j+1=_;omega,by show c+1+(p.more - 1)=_;omega⟩
theorem vQ.leap{t:SetTable}{h:Int}{n c:Nat}{p:PD}(a:vQ t.mask h n c p)(hm:¬0<p.more):vQ t.mask h (n+1) 0 (t.advance p):=by obtain⟨a1,a2,a3,a4⟩:=a;unfold Qc;rw[NQ hm,a1,a2];exact⟨rfl,rfl,rfl,by rw[T8];rfl⟩
def ir(n c n' c':Nat):Prop:=n<n'\/(n=n'/\c<c')
def j8(mask:Nat)(h:Int)(n c:Nat):Prop:=c<=Ox mask (lp mask h n).1 - (lp mask h n).1
theorem vQ.ok{mask:Nat}{h:Int}{n c:Nat}{p:PD}(a:vQ mask h n c p):j8 mask h n c:=by obtain⟨_,_,_,a4⟩:=a;unfold j8;omega
theorem qB{t:SetTable}(hd:t.dummies= #[]){h:Int}(hashAt:Nat->Int){N:Nat}(he:t.slot (sl t.mask h N 0)=.empty):∀(f n c:Nat)(p:PD),vQ t.mask h n c p->(n<N\/(n=N/\c=0))->10*(N - n)+1<=f+c->∃n' c' p',vQ t.mask h n' c' p'/\(n'<N\/(n'=N/\c'=0))/\(ir n c n' c'\/(n=n'/\c=c'))/\(∀a b,j8 t.mask h a b->(ir n c a b\/(n=a/\c=b))->ir a b n' c'->∃i,t.slot (sl t.mask h a b)=.live i/\¬hashAt i=h)/\((t.slot (sl t.mask h n' c')=.empty/\OX t hashAt h f p=some (.empty (sl t.mask h n' c') p.dummy))\/
    (∃i,t.slot (sl t.mask h n' c')=.live i/\hashAt i=h/\OX t hashAt h f p=some (.candidate (sl t.mask h n' c') i (t.advance p'))/\n'<N/\p'.dummy=p.dummy))
 |0,n,c,p,a,hn,hf=>by have:=mq t.mask (lp t.mask h n).1;have:=a.ok;unfold j8 at this;omega
 |f+1,n,c,p,a,hn,hf=>by
  have hj:p.j=sl t.mask h n c:=a.2.2.1;have nodum:∀j,¬t.slot j=.dummy:=λj e=>by
   unfold QG at e;rw[hd]at e;dsimp only at e;split at e
   .cases e
   .rw[NQ (by simp[RC])]at e;cases e
  cases q:t.slot p.j with
  |empty=>
   refine⟨n,c,p,a,hn,.inr ⟨rfl,rfl⟩,λx y _ h1 h2=>?_,.inl ⟨by rw[<-hj];exact q,?_⟩⟩
   .exfalso
    rcases h1 with h1|h1<;>rcases h2 with h2|h2<;>(unfold ir at *;omega)
   .unfold OX;rw[q,hj]
  |dummy=>exact NU q (nodum _)
  |live i=>
   by_cases hh:hashAt i=h
   .refine⟨n,c,p,a,hn,.inr ⟨rfl,rfl⟩,λx y _ h1 h2=>?_,.inr ⟨i,by rw[<-hj];exact q,hh,?_,?_,rfl⟩⟩
    .exfalso
     rcases h1 with h1|h1<;>rcases h2 with h2|h2<;>(unfold ir at *;omega)
    .unfold OX;rw[q];dsimp only;rw[NR (by simp[hh]),hj]
    .rcases hn with hn|⟨rfl,rfl⟩
     .exact hn
     .rw[hj,he]at q;cases q
   .have hlt:n<N:=by
     rcases hn with hn|⟨rfl,rfl⟩
     .exact hn
     .rw[hj,he]at q;cases q
    have hgo:OX t hashAt h (f+1) p=OX t hashAt h f (t.advance p):=by
     conv=>lhs;unfold OX
     rw[q];dsimp only;rw[NQ (by simp[hh])]
    rw[hgo];have hdm:(t.advance p).dummy=p.dummy:=by unfold Qc;split<;>rfl
    by_cases hm:0<p.more
    .obtain⟨n',c',p',b1,b2,b3,b4,b5⟩:=qB hd hashAt he f n (c+1) (t.advance p) (a.more hm) (.inl hlt) (by omega);refine⟨n',c',p',b1,b2,.inl (by unfold ir at *;omega),λx y o h1 h2=>?_,by rw[hdm]at b5;exact b5⟩
     by_cases e:x=n/\y=c
     .obtain⟨rfl,rfl⟩:=e;exact⟨i,by rw[<-hj];exact q,hh⟩
     .exact b4 x y o (by unfold ir at *;omega) h2
    .have hc9:=mq t.mask (lp t.mask h n).1;have hck:=a.2.2.2;obtain⟨n',c',p',b1,b2,b3,b4,b5⟩:=qB hd hashAt he f (n+1) 0 (t.advance p) (a.leap hm) (by omega) (by omega);refine⟨n',c',p',b1,b2,.inl (by unfold ir at *;omega),λx y o h1 h2=>?_,by rw[hdm]at b5;exact b5⟩
     by_cases e:x=n/\y=c
     .obtain⟨rfl,rfl⟩:=e;exact⟨i,by rw[<-hj];exact q,hh⟩
     .refine b4 x y o ?_ h2;unfold j8 at o;unfold ir at*
      by_cases e2:x=n
      .subst e2;omega
      .omega
theorem ko{t:SetTable}(hr:tU t.place){j i:Nat}:t.slot j=.live i<->i<t.place.size/\t.place.getD i 0=j:=by
 obtain⟨b1,b2,b3⟩:=eG t.place j hr;unfold QG;dsimp only
 constructor
 .intro h;split at h
  .rename_i e;cases h;have hlt:Og t.place j<t.place.size:=by
    rcases Nat.lt_or_ge (Og t.place j) t.place.size with q|q
    .exact q
    .rw[US q]at e;simp at e
   rw[UQ hlt]at e;refine⟨hlt,?_⟩;rw[bA hlt];simpa using e
  .split at h<;>cases h
 .rintro⟨hi,e⟩;have hb:Og t.place j=i:=by
   rcases Ue (Og t.place j) i with q|q|q
   .have a1:=b3 (Og t.place j) (TX _) (by omega);have a2:=hr _ _ q hi;omega
   .exact q
   .have:=b2 i q;omega
  rw[hb,UQ hi,NR];rw[bA hi]at e;simp[e]
theorem fM{t:SetTable}(hr:tU t.place)(hd:t.dummies= #[]){j:Nat}:t.slot j=.empty<->Do t.place j:=by
 constructor
 .intro h;exact xx hr (.inl h)
 .intro h;cases e:t.slot j with
  |empty=>rfl
  |live i=>
   obtain⟨h1,h2⟩:=(ko hr).mp e;exact NU h2 (h i h1)
  |dummy=>
   exfalso;unfold QG at e;rw[hd]at e;dsimp only at e;split at e
   .cases e
   .rw[NQ (by simp[RC])]at e;cases e
theorem pX:∀(n:Nat)(l:List Nat),l.length<n->∃s,s<n/\¬s∈l
 |0,l,h=>by omega
 |n+1,l,h=>by
  by_cases m:n∈l
  .have hl:=Tn m;have hp:=S8 m;obtain⟨s,h1,h2⟩:=pX n (l.erase n) (by omega);exact⟨s,by omega,λz=>h2 ((To (by omega)).mpr z)⟩
  .exact⟨n,by omega,m⟩
theorem yB{t:SetTable}(hr:tU t.place)(hd:t.dummies= #[])(hf:t.place.size<=t.mask):∃e,e<=t.mask/\t.slot e=.empty:=by obtain⟨e,h1,h2⟩:=pX (t.mask+1) t.place.toList (by simp;omega);refine⟨e,by omega,(fM hr hd).mpr λk hk z=>h2 ?_⟩;rw[<-z,bA hk];simp
def BB(t:SetTable)(h:Int)(j:Nat):Prop:= ∃n c,j8 t.mask h n c/\sl t.mask h n c=j/\∀a b,j8 t.mask h a b->ir a b n c->¬t.slot (sl t.mask h a b)=.empty
structure tZ(es:Array (Int×VA))(t:SetTable):Prop where
 ps:t.place.size=es.size
 ris:tU t.place
 nd:t.dummies= #[]
 full:kX (t.mask+1)
 odd:t.mask % 2=1
 fit:t.place.size<=t.mask
 pl:∀i,i<es.size->BB t (es.getD i (0,.none)).1 (t.place.getD i 0)
theorem GB{mask:Nat}{h:Int}{n c:Nat}(o:j8 mask h n c):sl mask h n c<=mask:=by have:=GK mask h n;unfold j8 Ox at o;unfold sl;split at o<;>omega
theorem tZ.fits{es:Array (Int×VA)}{t:SetTable}(g:tZ es t):t.fits es.size=true:=by unfold Rk SetTable.fill;rw[g.nd,g.ps];have:=g.fit;rw[g.ps]at this;simp[this]
theorem tZ.fresh{led:Bool}:tZ #[] (SetTable.fresh 0 0 led):=⟨rfl,λi j _ hj=>NU hj (by simp[SetTable.fresh]),rfl,GV,(by show(7:Nat) % 2=1;decide),TZ _,λi h=>NU h (by simp)⟩
theorem tZ.put{es:Array (Int×VA)}{t:SetTable}(g:tZ es t){h:Int}{x:VA}{n c:Nat}(o:j8 t.mask h n c)(he:t.slot (sl t.mask h n c)=.empty)(hb:∀a b,j8 t.mask h a b->ir a b n c->¬t.slot (sl t.mask h a b)=.empty)(hroom:es.size+1<=t.mask):tZ (Oq es (t.put (sl t.mask h n c)).2 (h,x)) (t.put (sl t.mask h n c)).1:=by
 have hf:=(fM g.ris g.nd).mp he;have hr':tU (t.put (sl t.mask h n c)).1.place:=uC g.ris hf;have hd':(t.put (sl t.mask h n c)).1.dummies= #[]:=by show(if RC t.dummies _ then _ else t.dummies)= #[];rw[g.nd];rfl
 have hsz:(t.put (sl t.mask h n c)).1.place.size=es.size+1:=by show(Oq t.place _ _).size=_;rw[gC,g.ps]
 have hes:(Oq es (t.put (sl t.mask h n c)).2 (h,x)).size=es.size+1:=gC ..;have keep:∀j,¬t.slot j=.empty->¬(t.put (sl t.mask h n c)).1.slot j=.empty:=λj hj z=>hj ((fM g.ris g.nd).mpr λk hk e=>by
  have q:=(fM hr' hd').mp z;have hm:j∈(t.put (sl t.mask h n c)).1.place.toList:=by show j∈(Oq t.place _ _).toList;rw[(P6 t.place _ _).mem_iff,UW];refine SA _ ?_;rw[<-e,bA hk];simp
  obtain⟨k',hk',e'⟩:=SN hm;have hk2:k'<(t.put (sl t.mask h n c)).1.place.size:=by simpa using hk'
  exact q k' hk2 (by rw[bA hk2];simpa using e'))
 refine⟨by rw[hsz,hes],hr',hd',g.full,g.odd,by rw[hsz];exact hroom,λi hi=>?_⟩;rw[hes]at hi;have hp:∀i,i<es.size+1->((Oq es (t.put (sl t.mask h n c)).2 (h,x)).getD i (0,.none)=(h,x)/\(t.put (sl t.mask h n c)).1.place.getD i 0=sl t.mask h n c)\/∃j,j<es.size/\(Oq es (t.put (sl t.mask h n c)).2 (h,x)).getD i (0,.none)=es.getD j (0,.none)/\(t.put (sl t.mask h n c)).1.place.getD i 0=t.place.getD j 0:=λi hi=>by
  have hpb:(t.put (sl t.mask h n c)).2<=es.size:=by show Og t.place _<=_;rw[<-g.ps];exact(eG t.place _ g.ris).1
  have at1:∀{α:Type}(xs:Array α)(p:Nat)(y d:α)(i:Nat),p<=xs.size->i<xs.size+1->(Oq xs p y).getD i d=if i<p then xs.getD i d else if i=p then y else xs.getD (i - 1) d:=λ{α} xs p y d i hp hi=>by
   have hs:=gC xs p y;have e1:(Oq xs p y).getD i d=(Oq xs p y).toList[i]'(by simpa[hs]using hi):=by rw[bA (by omega)];simp
   rw[e1];simp only[QF]
   by_cases l1:i<p
   .rw[NR l1,Ts (by simp;omega),bA (by omega)];simp
   .rw[NQ l1,Tt (by simp;omega)]
    by_cases l2:i=p
    .subst l2;rw[NR rfl];have hz:i - (xs.toList.take i).length=0:=by simp;omega
     have key:∀(l:List α)(k:Nat)(hk:k<(y::l).length),k=0->(y::l)[k]=y:=λl k hk e=>by subst e;rfl
     exact key _ _ _ hz
    .rw[NQ l2];have hl:(xs.toList.take p).length=p:=by simp;omega
     have e2:i - (xs.toList.take p).length=(i - 1 - p)+1:=by omega
     rw[bA (by omega)];simp only[e2,List.getElem_cons_succ,List.getElem_drop,UZ];congr 1;omega
  have q1:=at1 es (t.put (sl t.mask h n c)).2 (h,x) (0,.none) i hpb hi;have q2:=at1 t.place (t.put (sl t.mask h n c)).2 (sl t.mask h n c) 0 i (by rw[g.ps];exact hpb) (by rw[g.ps];exact hi);have q2':(t.put (sl t.mask h n c)).1.place.getD i 0=_:=q2;rw[q1,q2']
  by_cases l1:i<(t.put (sl t.mask h n c)).2
  .rw[NR l1,NR l1];exact .inr ⟨i,by omega,rfl,rfl⟩
  .rw[NQ l1,NQ l1]
   by_cases l2:i=(t.put (sl t.mask h n c)).2
   .rw[NR l2,NR l2];exact .inl ⟨rfl,rfl⟩
   .rw[NQ l2,NQ l2];exact .inr ⟨i - 1,by omega,rfl,rfl⟩
 rcases hp i hi with⟨e1,e2⟩|⟨j,hj,e1,e2⟩
 .rw[e1,e2];exact⟨n,c,o,rfl,λa b oab lab=>keep _ (hb a b oab lab)⟩
 .rw[e1,e2];obtain⟨n',c',o',e',hb'⟩:=g.pl j hj;exact⟨n',c',o',e',λa b oab lab=>keep _ (hb' a b oab lab)⟩
abbrev nn(owner:Array (Option Nat))(j:Nat):Bool:=(owner.getD j (some 0)).isNone
theorem AX{mask:Nat}{owner:Array (Option Nat)}{h:Int}{N:Nat}(hN:nn owner (sl mask h N 0)=true):∀(f n:Nat),n<=N->N - n<f->∃n' c',j8 mask h n' c'/\OR mask owner f (lp mask h n).1 (lp mask h n).2=some (sl mask h n' c')/\nn owner (sl mask h n' c')=true/\∀a b,j8 mask h a b->n<=a->ir a b n' c'->nn owner (sl mask h a b)=false
 |0,n,h1,h2=>by omega
 |f+1,n,h1,h2=>by
  unfold OR;cases e:(List.range (Ox mask (lp mask h n).1+1 - (lp mask h n).1)).find? (λk=>(owner.getD ((lp mask h n).1+k) (some 0)).isNone)with
  |some k=>
   obtain⟨hp,i,hi,ei,hb⟩:=List.find?_eq_some_iff_getElem.mp e;have hik:i=k:=by simpa using ei
   subst hik;have hir:i<Ox mask (lp mask h n).1+1 - (lp mask h n).1:=by simpa using hi
   refine⟨n,i,by unfold j8;omega,rfl,hp,λa b o ha lt=>?_⟩;have:a=n/\b<i:=by unfold ir at lt;omega
   obtain⟨rfl,hbi⟩:=this;have:=hb b hbi;simpa[nn,sl]using this
  |none=>
   have hall:=List.find?_eq_none.mp e;have hlt:n<N:=by
    rcases Nat.lt_or_ge n N with q|q
    .exact q
    .have:n=N:=by omega
     subst this;have hr0:(0:Nat)<Ox mask (lp mask h n).1+1 - (lp mask h n).1:=by unfold Ox;split<;>omega
     have:=hall 0 (R8.mpr hr0);exact NU hN this
   obtain⟨n',c',o,e2,e3,e4⟩:=AX hN f (n+1) hlt (by omega);refine⟨n',c',o,e2,e3,λa b oab ha lt=>?_⟩
   by_cases q:a=n
   .subst q;have hbr:b<Ox mask (lp mask h a).1+1 - (lp mask h a).1:=by
     unfold j8 at oab;have:(lp mask h a).1<=Ox mask (lp mask h a).1:=by unfold Ox;split<;>omega
     omega
    have:=hall b (R8.mpr hbr);exact Bool.eq_false_iff.mpr this
   .exact e4 a b oab (by omega) lt
structure OI(mask:Nat)(owner:Array (Option Nat))(hs:List Int)(js:List Nat):Prop where
 sz:owner.size=mask+1
 len:js.length=hs.length
 nd:js.Nodup
 le:∀j∈js,j<=mask
 at1:∀i(hi:i<js.length),owner.getD js[i] (some 0)=some i
 at2:∀j,j<=mask->¬j∈js->owner.getD j (some 0)=none
 pl:∀i(hi:i<js.length),∃n c,j8 mask (hs.getD i 0) n c/\sl mask (hs.getD i 0) n c=js[i]/\∀a b,j8 mask (hs.getD i 0) a b->ir a b n c->nn owner (sl mask (hs.getD i 0) a b)=false
theorem ur{owner:Array (Option Nat)}{j:Nat}{o:Option Nat}(h:j<owner.size)(k:Nat):(owner.setIfInBounds j o).getD k (some 0)=if k=j then o else owner.getD k (some 0):=by
 by_cases e:k=j
 .subst e;rw[NR rfl,bA (by simpa using h)];exact Array.getElem_setIfInBounds_self ..
 .rw[NQ e]
  by_cases hk:k<owner.size
  .rw[bA (by simpa using hk),bA hk];exact Array.getElem_setIfInBounds_ne hk (Ne.symm e)
  .have h1:¬k<(owner.setIfInBounds j o).size:=by simpa using hk
   simp[Array.getD,hk,h1]
theorem OI.step{mask:Nat}{owner:Array (Option Nat)}{hs:List Int}{js:List Nat}(f:kX (mask+1))(I:OI mask owner hs js)(h:Int)(hr:hs.length<=mask):∃j,OR mask owner (O9 mask) (OF h % (mask+1)) (OF h)=some j/\OI mask (owner.setIfInBounds j (some hs.length)) (hs++[h]) (js++[j]):=by
 obtain⟨e,e1,e2⟩:=pX (mask+1) js (by rw[I.len];omega);obtain⟨N,hN,eN⟩:=wz f h (Nat.le_of_lt_succ e1);have hNn:nn owner (sl mask h N 0)=true:=by show(owner.getD ((lp mask h N).1+0) (some 0)).isNone=true;rw[Nat.add_zero,eN,I.at2 e (by omega) e2];rfl
 obtain⟨n,c,o,g1,g2,g3⟩:=AX hNn (O9 mask) 0 (TZ _) (by unfold O9;omega);have hj:=GB o;refine⟨sl mask h n c,g1,?_⟩;have hlt:sl mask h n c<owner.size:=by rw[I.sz];omega
 have hnj:¬sl mask h n c∈js:=λz=>by obtain⟨i,hi,e⟩:=SN z;have:=I.at1 i hi;rw[e]at this;unfold nn at g2;rw[this]at g2;cases g2
 have up:∀k,nn owner k=false->nn (owner.setIfInBounds (sl mask h n c) (some hs.length)) k=false:=λk hk=>by
  unfold nn;rw[ur hlt]
  by_cases e:k=sl mask h n c
  .rw[NR e];rfl
  .rw[NQ e];exact hk
 refine⟨by simpa using I.sz,by simp[I.len],?_,λj hm=>?_,λi hi=>?_,λj hjm hn=>?_,λi hi=>?_⟩
 .rw[S6];refine⟨I.nd,by simp,λa ha b hb e=>hnj ?_⟩;have:b=sl mask h n c:=by simpa using hb
  rw[<-this,<-e];exact ha
 .rcases Sa.mp hm with z|z
  .exact I.le j z
  .rw[R4.mp z];exact hj
 .rw[ur hlt]
  by_cases l:i<js.length
  .rw[Ts l,NQ (λz:js[i]=sl mask h n c=>hnj (z▸Se l))];exact I.at1 i l
  .have:i=js.length:=by simp at hi;omega
   subst this;rw[Tt (TX _)];simp[I.len]
 .rw[ur hlt,NQ (λz=>hn (by rw[z];simp))];exact I.at2 j hjm (λz=>hn (SA _ z))
 .by_cases l:i<js.length
  .have e:(hs++[h]).getD i 0=hs.getD i 0:=by rw[RY,SU (by rw[<-I.len];exact l),<-RY]
   rw[Ts l,e];obtain⟨n',c',o',e',hb⟩:=I.pl i l;exact⟨n',c',o',e',λa b oab lab=>up _ (hb a b oab lab)⟩
  .have:i=js.length:=by simp at hi;omega
   subst this;have e:(hs++[h]).getD js.length 0=h:=by rw[I.len];simp
   rw[e];refine⟨n,c,o,?_,λa b oab lab=>up _ (g3 a b oab (TZ _) lab)⟩;rw[Tt (TX _)];simp
theorem sU{mask:Nat}(f:kX (mask+1)):∀(hs2 hs1:List Int)(owner:Array (Option Nat))(js:List Nat),OI mask owner hs1 js->hs1.length+hs2.length<=mask+1->∃owner' js',hs2.foldl (λacc h=>do
   let (owner,k)<-acc
   let j<-OR mask owner (O9 mask) (OF h % (mask+1)) (OF h)
   pure (owner.setIfInBounds j (some k),k+1)) (some (owner,hs1.length))=some (owner',(hs1++hs2).length)/\OI mask owner' (hs1++hs2) js'
 | [],hs1,owner,js,I,_=>⟨owner,js,by simp,by simpa using I⟩
 |h::hs2,hs1,owner,js,I,hl=>by
  simp only[Sf]at hl;obtain⟨j,e,I2⟩:=I.step f h (by omega);obtain⟨owner',js',e3,I3⟩:=sU f hs2 (hs1++[h]) _ _ I2 (by simp;omega);refine⟨owner',js',?_,by simpa using I3⟩;rw[List.foldl_cons];have e4:(do
    let (owner,k)<-(some (owner,hs1.length):Option (Array (Option Nat)×Nat))
    let j<-OR mask owner (O9 mask) (OF h % (mask+1)) (OF h)
    pure (owner.setIfInBounds j (some k),k+1))=some (owner.setIfInBounds j (some hs1.length),(hs1++[h]).length):=by
   simp[e]
  rw[e4,e3];simp
theorem yi{mask:Nat}(f:kX (mask+1)){hs:Array Int}(hl:hs.size<=mask+1):∃owner js,SetTable.layClean mask hs=some owner/\OI mask owner hs.toList js:=by
 have I0:OI mask (Array.replicate (mask+1) none) [] []:=⟨by simp,rfl,by simp,by simp,λi hi=>by simp at hi,λj hj _=>by rw[bA (by simp;omega)];simp,λi hi=>by simp at hi⟩;obtain⟨owner,js,e,I⟩:=sU f hs.toList [] _ _ I0 (by simpa using hl);refine⟨owner,js,?_,by simpa using I⟩;unfold SetTable.layClean;rw[<-Array.foldl_toList];have e:hs.toList.foldl (λacc h=>do
   let (owner,k)<-acc
   let j<-OR mask owner (O9 mask) (OF h % (mask+1)) (OF h)
   pure (owner.setIfInBounds j (some k),k+1)) (some (Array.replicate (mask+1) none,0))=some (owner,([]++hs.toList).length):=e
 rw[e];rfl
def liveP(owner:Array (Option Nat))(mask:Nat):List (Nat×Nat):=(List.range (mask+1)).filterMap λj=>(owner.getD j none).map (j,·)
theorem gY{mask:Nat}{owner:Array (Option Nat)}{j i:Nat}:(j,i)∈liveP owner mask<->j<=mask/\owner.getD j none=some i:=by
 unfold liveP;rw[SS]
 constructor
 .rintro⟨k,hk,e⟩;obtain⟨x,hx,e2⟩:=U1.mp e;cases e2;exact⟨by have:=R8.mp hk;omega,hx⟩
 .rintro⟨h1,h2⟩;exact⟨j,R8.mpr (by omega),by rw[h2];rfl⟩
theorem mw{mask:Nat}{owner:Array (Option Nat)}{hs:List Int}{js:List Nat}(I:OI mask owner hs js){j i:Nat}(hj:j<=mask):owner.getD j none=some i<->∃h:i<js.length,js[i]=j:=by
 have e0:owner.getD j none=owner.getD j (some 0):=by
  have:j<owner.size:=by rw[I.sz];omega
  rw[bA this,bA this]
 rw[e0]
 constructor
 .intro h
  by_cases m:j∈js
  .obtain⟨k,hk,e⟩:=SN m;have:=I.at1 k hk;rw[e,h]at this;cases this;exact⟨hk,e⟩
  .rw[I.at2 j hj m]at h;cases h
 .rintro⟨h,e⟩;rw[<-e];exact I.at1 i h
theorem sQ(owner:Array (Option Nat))(mask:Nat):((liveP owner mask).map (·.1)).Pairwise (· < ·):=
 (ji (λj=>(owner.getD j none).map (j,·)) (λj p hp=>by
  obtain⟨a,_,rfl⟩:=U1.mp hp;rfl) (List.range (mask+1)) List.pairwise_lt_range).1
theorem sA{κ:Type}[DecidableEq κ]:∀{l ns:List κ},l.Nodup->ns.Nodup->(∀k,k∈l<->k∈ns)->ns.Perm l
 | [],ns,_,_,h=>by
   cases ns with
   |nil=>exact List.Perm.refl _
   |cons a l=>exact NU ((h a).mpr (by simp)) (by simp)
 |a::l,ns,nd,nn,h=>by
  obtain⟨n1,n2⟩:=SH.mp nd;have ha:=(h a).mp (by simp);refine(TR ha).trans (List.Perm.cons _ (sA n2 (nn.erase a) λk=>?_));rw[nn.mem_erase_iff,<-h k,RV]
  constructor
  .intro hk;exact⟨λe=>n1 (e▸hk),.inr hk⟩
  .rintro⟨e,z|z⟩
   .exact NU z e
   .exact z
theorem uK{mask:Nat}{owner:Array (Option Nat)}{hs:List Int}{js:List Nat}(I:OI mask owner hs js):((liveP owner mask).map (·.2)).Perm (List.range hs.length):=by
 refine sA Tq ?_ (λi=>?_)
 ·
  have hp:=sQ owner mask;rw[Sv]at hp;rw[SL,Sv];refine List.Pairwise.imp_of_mem ?_ hp;intro a b ha hb lt e;obtain⟨a1,a2⟩:=gY.mp (show(a.1,a.2)∈_ from ha);obtain⟨b1,b2⟩:=gY.mp (show(b.1,b.2)∈_ from hb);obtain⟨x1,e1⟩:=(mw I a1).mp a2;obtain⟨x2,e2⟩:=(mw I b1).mp b2;have:a.1=b.1:=by rw[<-e1,<-e2];congr 1
  omega
 .rw[R8,RW]
  constructor
  .intro hi;have hi':i<js.length:=by rw[I.len];exact hi
   have hle:=I.le _ (Se hi');exact⟨(js[i],i),gY.mpr ⟨hle,(mw I hle).mpr ⟨hi',rfl⟩⟩,rfl⟩
  .rintro⟨p,hp,rfl⟩;obtain⟨a1,a2⟩:=gY.mp (show(p.1,p.2)∈_ from hp);obtain⟨x1,e1⟩:=(mw I a1).mp a2;rw[I.len]at x1;exact x1
theorem A2{α:Type}{es:Array α}(d:α):∀{l:List Nat},(∀i∈l,i<es.size)->l.filterMap (es[·]?)=l.map λi=>es.getD i d
 | [],_=>rfl
 |i::l,h=>by have hi:=h i (by simp);rw[SO,UQ hi,Sk,A2 d (λj hj=>h j (R7 _ hj)),bA hi]
theorem xI{es:Array (Int×VA)}{t:SetTable}{wanted:Nat}(f:kX (OT wanted - 1+1))(ho:(OT wanted - 1) % 2=1)(hl:es.size<=OT wanted - 1):∃t' order,t.relaid (es.map (·.1)) wanted=some (t',order)/\(order.filterMap (es[·]?)).size=es.size/\(order.filterMap (es[·]?)).toList.Perm es.toList/\tZ (order.filterMap (es[·]?)) t'/\t'.led=t.led/\t'.mask=OT wanted - 1:=by
 generalize hm:OT wanted - 1=mask at f ho hl;obtain⟨owner,js,e,I⟩:=yi f (hs:=es.map (·.1)) (by simp;omega);have hlen:(es.map (·.1)).toList.length=es.size:=by simp
 have hop:=uK I;rw[hlen]at hop;have hin:∀i∈(liveP owner mask).map (·.2),i<es.size:=λi hi=>R8.mp (hop.mem_iff.mp hi);have hll:(liveP owner mask).length=es.size:=by have:=hop.length_eq;simpa using this
 refine⟨{mask,place:=((liveP owner mask).map (·.1)).toArray,dummies:= #[],finger:=t.finger,led:=t.led,moves:=t.movedTo mask,plain:=t.plain},((liveP owner mask).map (·.2)).toArray,?_,?_⟩
 .unfold SetTable.relaid SetTable.laid;rw[hm,e];rfl
 have hes:((((liveP owner mask).map (·.2)).toArray).filterMap (es[·]?)).toList=((liveP owner mask).map (·.2)).map λi=>es.getD i (0,.none):=by rw[Array.toList_filterMap];exact A2 (0,.none) hin
 have hsz:((((liveP owner mask).map (·.2)).toArray).filterMap (es[·]?)).size=es.size:=by rw[<-UT,hes,RT,RT,hll]
 refine⟨hsz,?_,?_,rfl,rfl⟩
 .rw[hes];refine(hop.map _).trans (List.Perm.of_eq ?_);apply SD;intro i;have e0:es.toList[i]? =es[i]? :=UR;rw[RX,e0]
  by_cases hi:i<es.size
  .rw[SE hi,UQ hi];show some (es.getD i (0,.none))=some es[i];rw[bA hi]
  .rw[Sn (by simpa using hi),US (by omega)];rfl
 .have hris:tU ((liveP owner mask).map (·.1)).toArray:=pF.mpr (by simpa using sQ owner mask);refine⟨?_,hris,rfl,f,ho,?_,λi hi=>?_⟩
  .rw[hsz];simp[hll]
  .show((liveP owner mask).map (·.1)).toArray.size<=mask;simp[hll,hl]
  .rw[hsz]at hi;have hil:i<(liveP owner mask).length:=by rw[hll];exact hi
   have e1:((((liveP owner mask).map (·.2)).toArray).filterMap (es[·]?)).getD i (0,.none)=es.getD (liveP owner mask)[i].2 (0,.none):=by
    rw[bA (by rw[hsz];exact hi)];have:((((liveP owner mask).map (·.2)).toArray).filterMap (es[·]?)).toList[i]? =some (es.getD (liveP owner mask)[i].2 (0,.none)):=by rw[hes,RX,RX,RU hil];rfl
    rw[UR,UQ (by rw[hsz];exact hi)]at this;exact NV this
   have e2:((liveP owner mask).map (·.1)).toArray.getD i 0=(liveP owner mask)[i].1:=by rw[bA (by simpa using hil)];simp
   obtain⟨a1,a2⟩:=gY.mp (show((liveP owner mask)[i].1,(liveP owner mask)[i].2)∈_ from Se hil);obtain⟨x1,ex⟩:=(mw I a1).mp a2;have hxs:(liveP owner mask)[i].2<es.size:=by rw[<-hlen,<-I.len];exact x1
   obtain⟨n,c,o,es',hb⟩:=I.pl _ x1;have eh:(es.map (·.1)).toList.getD (liveP owner mask)[i].2 0=(es.getD (liveP owner mask)[i].2 (0,.none)).1:=by rw[bA hxs,RY,UR,Array.getElem?_map,UQ hxs];rfl
   rw[eh]at o es' hb;show BB _ _ (((liveP owner mask).map (·.1)).toArray.getD i 0);rw[e1,e2];refine⟨n,c,o,by rw[es',ex],λa b oab lab z=>?_⟩;have q:=hb a b oab lab;have hle:sl mask (es.getD (liveP owner mask)[i].2 (0,.none)).1 a b<=mask:=GB oab;have hfr:=(fM (t:={mask,place:=((liveP owner mask).map (·.1)).toArray,dummies:= #[],finger:=t.finger,led:=t.led,moves:=t.movedTo mask,plain:=t.plain}) hris rfl).mp z;cases eo:owner.getD (sl mask (es.getD (liveP owner mask)[i].2 (0,.none)).1 a b) none with
   |none=>
    have hlt:sl mask (es.getD (liveP owner mask)[i].2 (0,.none)).1 a b<owner.size:=by rw[I.sz];omega
    unfold nn at q;rw[bA hlt]at q eo;rw[eo]at q;cases q
   |some k=>
    have hm2:=gY.mpr ⟨hle,eo⟩;obtain⟨r,hr,er⟩:=SN hm2;have hr2:r<((liveP owner mask).map (·.1)).toArray.size:=by simpa using hr
    refine hfr r hr2 ?_;show((liveP owner mask).map (·.1)).toArray.getD r 0=_;rw[bA hr2];simp[er]
end L2
namespace L2
open PySem PySem.Spec PyProof.Rows
section
variable{K:Frag}{σ:St}{H:Hp}{ta tb te to:TE}{Q:VK}{c:TT}{t e:TS}{D:dW}
theorem Hm{tt u:TT}{R:Bool->Hp->Prop}{b:Bool}(h:Tv tt σ H b)(q1:b=true->R true H)(q2:b=false->u σ H R):Hq tt u σ H R:=h _ (by
 cases b with
 |true=>exact iI (q1 rfl)
 |false=>exact iJ (q2 rfl))
end
end L2
namespace L2
open PySem
theorem ce:Slot "set_iterator" "__next__" "set_iterator.__next__":=
 .of (owner:="set_iterator") (n:="__next__") (by rw[Pq,OS];kernel_rfl) (by decide+kernel) (by decide+kernel) (by decide+kernel) (by first|exact .inl (by decide+kernel)|exact .inr (by decide+kernel)) (by rw[Qs];kernel_rfl)
theorem ib:entryFor table "set_iterator.__next__"=some Pj.«set_iterator.__next__» :=entryFor_of_tree (by kernel_rfl)
theorem ie(a:VA):argsOk "set_iterator.__next__" ⟨[a],[]⟩:=by unfold argsOk;kernel_rfl
theorem l8:Slot "set_iterator" "__iter__" "set_iterator.__iter__":=
 .of (owner:="set_iterator") (n:="__iter__") (by rw[Pq,OS];kernel_rfl) (by decide+kernel) (by decide+kernel) (by decide+kernel) (by first|exact .inl (by decide+kernel)|exact .inr (by decide+kernel)) (by rw[Qs];kernel_rfl)
theorem vy:entryFor table "set_iterator.__iter__"=some Pj.«dict_keyiterator.__iter__» :=
 entryFor_alias (id':="dict_keyiterator.__iter__") (by kernel_rfl) rfl (by decide+kernel) (by kernel_rfl)
theorem vN(a:VA):argsOk "set_iterator.__iter__" ⟨[a],[]⟩:=by unfold argsOk;kernel_rfl
theorem tu:entryFor table "set.__iter__"=some Pj.«frozenset.__iter__» :=
 entryFor_alias (id':="frozenset.__iter__") (by kernel_rfl) rfl (by decide+kernel) (by kernel_rfl)
def dR(h:Oe)(D:VB)(es:Array (Int×VA))(ep:Nat)(t:SetTable):Prop:= ∃o,h.get? D=some o/\o.ExactSet/\o.data=.set es ep t
def tT(h:Oe)(I D:VB)(first:VA)(i n ep:Nat):Prop:= ∃o,h.get? I=some o/\o.cls=.type "set_iterator"/\o.data=.fields #[first,.int i 0,.ref D,.int n 0,.int ep 0]
section
variable{M:Model}{prog:N5}{w:N9}{A:Oi}{E:NY}{s:N3}
theorem tT.ty{I D:VB}{f:VA}{i n ep:Nat}(h:tT s.heap I D f i n ep):s.TypeIs (.ref I) "set_iterator":=let ⟨o,h1,h2,_⟩:=h;⟨o,h1,h2⟩
theorem tT.keep{h h':Oe}{I D:VB}{f:VA}{i n ep:Nat}(x:tT h I D f i n ep)(k:∀o,h.get? I=some o->h'.get? I=some o):tT h' I D f i n ep:=let ⟨o,h1,r⟩:=x;⟨o,k o h1,r⟩
theorem dR.keep{h h':Oe}{D:VB}{es:Array (Int×VA)}{ep:Nat}{t:SetTable}(x:dR h D es ep t)(k:∀o,h.get? D=some o->h'.get? D=some o):dR h' D es ep t:=let ⟨o,h1,r⟩:=x;⟨o,k o h1,r⟩
theorem Hi{m:RS Unit}{α:Type}{k:Unit->RS α}{Q:α->N3->Prop}(hm:∀Q':Unit->N3->Prop,Q' () s->N8 M A m Q' E s)(h:N8 M A (k ()) Q E s):N8 M A (m >>= k) Q E s:=N0 (hm _ h)
theorem ix{D:VB}{es:Array (Int×VA)}{ep:Nat}{t:SetTable}{Q:(Array (Int×VA)×Nat×SetTable)->N3->Prop}(hS:dR s.heap D es ep t)(hf:t.fits es.size=true)(h:Q (es,ep,t) s):N8 (Od prog w) A (setState D) Q E s:=by obtain⟨o,ho,_,hd⟩:=hS;exact wpAny_setState_of ho hd hf h
theorem j5{Q:Bool->N3->Prop}(h:Q (w.params.followText "set-order") s):N8 (Od prog w) A setsByText Q E s:=by unfold setsByText;exact N0 (QL (N2 h))
theorem oh{D:VB}{es:Array (Int×VA)}{ep slot given:Nat}{t:SetTable}{Q:Option (VA×Nat)->N3->Prop}(hS:dR s.heap D es ep t)(g:SG (!w.params.followText "set-order") es.size t)(hb:w.params.followText "set-order"=false)(hp:t.plain=true\/es.size<=1){i:Nat}(hi:Og t.place slot=i)(h:Q (match es[i]?,t.place[i]? with|some (_,x),some j=>some (x,j+1)|_,_=>none) s):N8 (Od prog w) A (QT D slot given ep) Q E s:=by
 unfold QT;refine N0 (ix hS g.fits ?_);dsimp only;refine N0 (j5 ?_);rw[hb,NQ UC];split
 .rename_i q;have q:(!t.plain&&decide (es.size > 1))=true:=q
  rcases hp with hp|hp
  .rw[hp]at q;cases q
  .rw[NP (by omega:¬es.size > 1),UL]at q;cases q
 .refine Hi (λQ' q=>?_) ?_
  .show N8 _ _ (if(!t.led&& !es.isEmpty)=true then _ else _) _ _ _;rw[g.led,hb];exact N2 q
  .rw[hi];exact N2 h
theorem og{D:VB}{es:Array (Int×VA)}{ep slot given:Nat}{t:SetTable}{Q:Option (VA×Nat)->N3->Prop}(hS:dR s.heap D es ep t)(hf:t.fits es.size=true)(hb:w.params.followText "set-order"=true)(h:Q (((PX (w.params.setOrder D ep) es)[given]?).map λe=>(e.2,slot)) s):N8 (Od prog w) A (QT D slot given ep) Q E s:=by unfold QT;refine N0 (ix hS hf ?_);dsimp only;refine N0 (j5 ?_);rw[hb];show N8 _ _ (if(ep != ep)=true then _ else _) _ _ _;rw[NQ (by simp)];refine N0 ?_;unfold setWalk;refine N0 (ix hS hf ?_);dsimp only;refine N0 (j5 ?_);rw[hb];show N8 _ _ (do let x<-ask;pure _) _ _ _;exact N0 (QL (N2 (N2 h)))
theorem uX{D:VB}{es:Array (Int×VA)}{ep place:Nat}{t:SetTable}{e:Int×VA}{Q:NY}(hS:dR s.heap D es ep t)(hf:t.fits es.size=true)(he:es[place]? =some e)(h:Q e.2 s):N8 (Od prog w) A (setNextDrawn D place ep) Q E s:=by unfold setNextDrawn;refine N0 (ix hS hf ?_);dsimp only;rw[NQ (by simp),he];exact N2 h
end
def slotAt(t:SetTable)(i:Nat):Nat:=if i=0 then 0 else t.place.getD (i - 1) 0+1
theorem jJ{t:SetTable}(hr:tU t.place){i:Nat}(hi:i<=t.place.size):Og t.place (slotAt t i)=i:=by
 unfold slotAt
 by_cases h:i=0
 .rw[NR h,h];exact tP hr
 .rw[NQ h,vM hr (by omega)];omega
section
variable{prog:N5}{w:N9}{A:Oi}{E:NY}{s:N3}
theorem qz{I D:VB}{o:Obj}{vs:Array VA}{h:Oe}{i:Nat}{x:VA}(ho:h.get? I=some o)(hc:o.cls=.type "set_iterator")(hd:o.data=.fields vs):∃o',(h.update I (Obj.mapFields (·.setIfInBounds i x))).get? I=some o'/\o'.cls=.type "set_iterator"/\o'.data=.fields (vs.setIfInBounds i x):=
 ⟨_,Pa _ ho (Obj.isFreed_of_fields (Obj.data_mapFields hd _)),(Obj.cls_mapFields ..).trans hc,Obj.data_mapFields hd _⟩
end
section
variable{prog:N5}{w:N9}{A:Oi}{E:NY}{s:N3}
theorem sW{I D:VB}{es:Array (Int×VA)}{ep slot i next:Nat}{t:SetTable}{x:VA}{Q:Option VA->N3->Prop}(hi:tT s.heap I D (.int slot 0) i es.size ep)(hS:dR s.heap D es ep t)(hf:t.fits es.size=true)(hn:∀(Q':Option (VA×Nat)->N3->Prop)(E':NY),Q' (some (x,next)) s->N8 (Od prog w) A.in1 (QT D slot i ep) Q' E' s)(hQ:∀h',tT h' I D (.int next 0) (i+1) es.size ep->OH I s.heap h'->Q (some x) {s with heap:=h'}):N8 (Od prog w) A (Ph (.ref I)) Q E s:=by have ty:=hi.ty;obtain⟨o,ho,hc,hd⟩:=hi;unfold Ph;refine N0 (Pr (Ov (name:=OG "__next__") ty ce (Oz ce ty ib ?_ (ie _))));show N8 _ _ (fieldsOf (.ref I) >>= _) _ _ s;refine N0 (Qp ho hd ?_);show N8 _ _ (PB D >>= _) _ _ s;unfold PB;refine N0 (N0 (ix hS hf (N2 ?_)));dsimp only;rw[NQ (by simp)];show N8 _ _ (QT D (Int.toNat slot) (Int.toNat i) (Int.toNat ep) >>= _) _ _ s;rw[Um,Um,Um];refine N0 (hn _ _ ?_);dsimp only;refine N0 (Pz ho hd (by simp) ?_);obtain⟨o2,ho2,hc2,hd2⟩:=qz (D:=D) (i:=0) (x:=Qh next) ho hc hd;refine N0 (Pz ho2 hd2 (by simp) (N2 ⟨x,rfl,N2 (hQ _ ?_ ((OK ..).trans (OK ..)))⟩));obtain⟨o3,ho3,hc3,hd3⟩:=qz (D:=D) (i:=1) (x:=Qh ((i:Int)+1)) ho2 hc2 hd2;exact⟨o3,ho3,hc3,by rw[hd3];rfl⟩
theorem wW{I D:VB}{es:Array (Int×VA)}{ep slot i:Nat}{t:SetTable}{Q:Option VA->N3->Prop}(hh:A.handled=none)(hi:tT s.heap I D (.int slot 0) i es.size ep)(hS:dR s.heap D es ep t)(hf:t.fits es.size=true)(hn:∀(Q':Option (VA×Nat)->N3->Prop)(E':NY),Q' none s->N8 (Od prog w) A.in1 (QT D slot i ep) Q' E' s)(hQ:∀h',Heap.ExtBut I s.heap h'->Q none {s with heap:=h'}):N8 (Od prog w) A (Ph (.ref I)) Q E s:=by
 have ty:=hi.ty;obtain⟨o,ho,hc,hd⟩:=hi;unfold Ph;refine N0 (Pr (Ov (name:=OG "__next__") ty ce (Oz ce ty ib ?_ (ie _))));show N8 _ _ (fieldsOf (.ref I) >>= _) _ _ s;refine N0 (Qp ho hd ?_);show N8 _ _ (PB D >>= _) _ _ s;unfold PB;refine N0 (N0 (ix hS hf (N2 ?_)));dsimp only;rw[NQ (by simp)];show N8 _ _ (QT D (Int.toNat slot) (Int.toNat i) (Int.toNat ep) >>= _) _ _ s;rw[Um,Um,Um];refine N0 (hn _ _ ?_);dsimp only;refine N0 (Pz ho hd (by simp) ?_);refine N0 ?_;simp only[newExc,newTuple];refine N0 (OL ?_ (by size_fits));refine N0 (m:=Qu _ _) (Rb (a:=O8) (by first|rfl|(simp only[Qu];rfl)) ?_)
 refine OL ?_ (by size_fits);simp only[raiseNew];refine N0 (wpAny_handled ?_);rw[show A.in1.handled=none from hh];refine N0 (N2 (wpAny_throw ?_));refine N0 (Pk (T:="StopIteration") (b:=true) ⟨_,N7 _ rfl,rfl⟩ Qt ?_);exact N2 (hQ _ (((OK ..).extBut.push _).push _))
theorem CI{I D T:VB}{es:Array (Int×VA)}{ps:Array VA}{ep i c k:Nat}{t:SetTable}{e:Int×VA}{ot:Obj}{Q:Option VA->N3->Prop}(hi:tT s.heap I D (.ref T) i es.size ep)(hS:dR s.heap D es ep t)(hf:t.fits es.size=true)(hT:s.heap.get? T=some ot)(hTd:ot.data=.seq ps c)(hp:ps[i]? =some (.int k 0))(he:es[k]? =some e)(hQ:∀h',tT h' I D (.ref T) (i+1) es.size ep->OH I s.heap h'->Q (some e.2) {s with heap:=h'}):N8 (Od prog w) A (Ph (.ref I)) Q E s:=by have ty:=hi.ty;obtain⟨o,ho,hc,hd⟩:=hi;unfold Ph;refine N0 (Pr (Ov (name:=OG "__next__") ty ce (Oz ce ty ib ?_ (ie _))));show N8 _ _ (fieldsOf (.ref I) >>= _) _ _ s;refine N0 (Qp ho hd ?_);show N8 _ _ (PB D >>= _) _ _ s;unfold PB;refine N0 (N0 (ix hS hf (N2 ?_)));dsimp only;rw[NQ (by simp)];show N8 _ _ (seqItems? (.ref T) >>= _) _ _ s;refine N0 (OD hT hTd ?_);dsimp only;rw[Um,hp];dsimp only;rw[Um,Um];refine N0 (uX hS hf he ?_);obtain⟨o3,ho3,hc3,hd3⟩:=qz (D:=D) (i:=1) (x:=Qh ((i:Int)+1)) ho hc hd;exact N0 (Pz ho hd (by simp) (N2 ⟨_,rfl,N2 (hQ _ ⟨o3,ho3,hc3,by rw[hd3];rfl⟩ (OK ..))⟩))
theorem IM{I D T:VB}{es:Array (Int×VA)}{ps:Array VA}{ep i c:Nat}{t:SetTable}{ot:Obj}{Q:Option VA->N3->Prop}(hh:A.handled=none)(hi:tT s.heap I D (.ref T) i es.size ep)(hS:dR s.heap D es ep t)(hf:t.fits es.size=true)(hT:s.heap.get? T=some ot)(hTd:ot.data=.seq ps c)(hp:ps[i]? =none)(hQ:∀h',Heap.ExtBut I s.heap h'->Q none {s with heap:=h'}):N8 (Od prog w) A (Ph (.ref I)) Q E s:=by
 have ty:=hi.ty;obtain⟨o,ho,hc,hd⟩:=hi;unfold Ph;refine N0 (Pr (Ov (name:=OG "__next__") ty ce (Oz ce ty ib ?_ (ie _))));show N8 _ _ (fieldsOf (.ref I) >>= _) _ _ s;refine N0 (Qp ho hd ?_);show N8 _ _ (PB D >>= _) _ _ s;unfold PB;refine N0 (N0 (ix hS hf (N2 ?_)));dsimp only;rw[NQ (by simp)];show N8 _ _ (seqItems? (.ref T) >>= _) _ _ s;refine N0 (OD hT hTd ?_);dsimp only;rw[Um,hp];dsimp only;refine N0 (Pz ho hd (by simp) ?_);obtain⟨o2,ho2,hc2,hd2⟩:=qz (D:=D) (i:=0) (x:=Qh 0) ho hc hd;refine N0 (Pz ho2 hd2 (by simp) ?_);refine N0 ?_;simp only[newExc,newTuple];refine N0 (OL ?_ (by size_fits));refine N0 (m:=Qu _ _) (Rb (a:=O8) (by first|rfl|(simp only[Qu];rfl)) ?_)
 refine OL ?_ (by size_fits);simp only[raiseNew];refine N0 (wpAny_handled ?_);rw[show A.in1.handled=none from hh];refine N0 (N2 (wpAny_throw ?_));refine N0 (Pk (T:="StopIteration") (b:=true) ⟨_,N7 _ rfl,rfl⟩ Qt ?_);exact N2 (hQ _ ((((OK ..).trans (OK ..)).extBut.push _).push _))
theorem pd{I D:VB}{f:VA}{i n ep:Nat}{Q:NY}(hi:tT s.heap I D f i n ep)(h:Q (.ref I) s):N8 (Od prog w) A (pyIter (.ref I)) Q E s:=by refine wpAny_pyIter_slot hi.ty l8 (Oz l8 hi.ty vy ?_ (vN _));show N8 _ _ (ret (.ref I)) _ _ s;exact N2 ⟨_,rfl,"set_iterator",_,hi.ty,ce.lookup,h⟩
end
def dc(es:Array (Int×VA)):List VA:=es.toList.map (·.2)
structure WS3(prog:N5)(w:N9)(s:N3)(D:VB)(vs:List VA)(h':Oe)(I:VB):Prop where
 ex:∃(fp:List VB)(St:Nat->Oe->Prop),(∀A':Oi,A'.handled=none->Walks prog w A' I fp [I] vs.length (λi v=>vs[i]? =some v) St)/\St 0 h'/\(∀b∈fp,b=D\/s.heap.objs.size<=b)/\I∈fp/\(∀b∈fp,b<h'.objs.size)/\s.heap.objs.size<=I
section
variable{prog:N5}{w:N9}
theorem xo{I D:VB}(hne:D≠I){es:Array (Int×VA)}{ep:Nat}{t:SetTable}(g:SG (!w.params.followText "set-order") es.size t)(hb:w.params.followText "set-order"=false)(hp:t.plain=true\/es.size<=1){A:Oi}(hh:A.handled=none):Walks prog w A I [I,D] [I] (dc es).length (λi v=>(dc es)[i]? =some v) (λi h=>i<=es.size/\tT h I D (.int (slotAt t i:Nat) 0) i es.size ep/\dR h D es ep t) where
 sub:=λb hb=>by
  have:b=I:=by simpa using hb
  simp[this]
 frame:=λi h h' st k=>⟨st.1,st.2.1.keep λo e=>k I (by simp) o e,st.2.2.keep λo e=>k D (by simp) o e⟩
 item:=λi s Q E hi st hQ=>by
  have hl:(dc es).length=es.size:=by simp[dc]
  have hi':i<es.size:=by omega
  have hps:t.place.size=es.size:=by have:=g.fits;unfold Rk at this;rw[UD]at this;exact beq_iff_eq.mp this.1
  have hv:(dc es)[i]? =some es[i].2:=by unfold dc;rw[RX,UR,UQ hi'];rfl
  refine sW (x:=es[i].2) (next:=slotAt t (i+1)) st.2.1 st.2.2 g.fits (λQ' E' q=>oh st.2.2 g hb hp (jJ g.ris (by omega)) ?_) λh' a b=>?_
  .rw[UQ hi',UQ (by omega)];have e:slotAt t (i+1)=t.place[i]+1:=by unfold slotAt;rw[NQ (Nat.succ_ne_zero i),Nat.add_sub_cancel,bA (by omega)]
   rw[e]at q;exact q
  .exact hQ _ h' s.toks hv ⟨hi',a,st.2.2.keep λo e=>b.extBut D o hne e⟩ λc o hc e=>b.extBut c o (λz=>hc (by simp[z])) e
 done:=λs Q E st hQ=>by
   have hl:(dc es).length=es.size:=by simp[dc]
   have hps:t.place.size=es.size:=by have:=g.fits;unfold Rk at this;rw[UD]at this;exact beq_iff_eq.mp this.1
   rw[hl]at st;refine wW hh st.2.1 st.2.2 g.fits (λQ' E' q=>oh st.2.2 g hb hp (jJ g.ris (by omega)) ?_) λh' a=>hQ h' s.toks λc o hc e=>a c o (λz=>hc (by simp[z])) e;rw[US (TX _)];exact q
 self:=λ_ _ _ _ st hQ=>pd st.2.1 hQ
theorem xn{I D:VB}(hne:D≠I){es:Array (Int×VA)}{ep:Nat}{t:SetTable}(hf:t.fits es.size=true)(hb:w.params.followText "set-order"=true){A:Oi}(hh:A.handled=none):Walks prog w A I [I,D] [I] (dc (PX (w.params.setOrder D ep) es)).length (λi v=>(dc (PX (w.params.setOrder D ep) es))[i]? =some v) (λi h=>tT h I D (.int (0:Nat) 0) i es.size ep/\dR h D es ep t) where
 sub:=λb hb=>by
  have:b=I:=by simpa using hb
  simp[this]
 frame:=λi h h' st k=>⟨st.1.keep λo e=>k I (by simp) o e,st.2.keep λo e=>k D (by simp) o e⟩
 item:=λi s Q E hi st hQ=>by
  have hi':i<(PX (w.params.setOrder D ep) es).size:=by simpa[dc]using hi
  have hv:(dc (PX (w.params.setOrder D ep) es))[i]? =some (PX (w.params.setOrder D ep) es)[i].2:=by unfold dc;rw[RX,UR,UQ hi'];rfl
  refine sW (x:=(PX (w.params.setOrder D ep) es)[i].2) (next:=0) st.1 st.2 hf (λQ' E' q=>og st.2 hf hb ?_) λh' a b=>?_
  .rw[UQ hi'];exact q
  .exact hQ _ h' s.toks hv ⟨a,st.2.keep λo e=>b.extBut D o hne e⟩ λc o hc e=>b.extBut c o (λz=>hc (by simp[z])) e
 done:=λs Q E st hQ=>by refine wW hh st.1 st.2 hf (λQ' E' q=>og st.2 hf hb ?_) λh' a=>hQ h' s.toks λc o hc e=>a c o (λz=>hc (by simp[z])) e;rw[US (by simp[dc])];exact q
 self:=λ_ _ _ _ st hQ=>pd st.1 hQ
theorem BM{I D T:VB}(hne:D≠I)(hT:T≠I){es:Array (Int×VA)}{ep:Nat}{t:SetTable}(hf:t.fits es.size=true)(ks:List Nat)(hk:∀k∈ks,k<es.size){A:Oi}(hh:A.handled=none):Walks prog w A I [I,D,T] [I] (ks.map λk=>(es.getD k (0,.none)).2).length (λi v=>(ks.map λk=>(es.getD k (0,.none)).2)[i]? =some v) (λi h=>tT h I D (.ref T) i es.size ep/\dR h D es ep t/\∃ot c,h.get? T=some ot/\ot.data=.seq (ks.map λ(k:Nat)=>PH k 0).toArray c) where
 sub:=λb hb=>by
  have:b=I:=by simpa using hb
  simp[this]
 frame:=λi h h' st k=>⟨st.1.keep λo e=>k I (by simp) o e,st.2.1.keep λo e=>k D (by simp) o e,let ⟨ot,c,h1,h2⟩:=st.2.2;⟨ot,c,k T (by simp) ot h1,h2⟩⟩
 item:=λi s Q E hi st hQ=>by
  have hi':i<ks.length:=by simpa using hi
  obtain⟨s1,s2,ot,c,h1,h2⟩:=st;have hki:ks[i]<es.size:=hk _ (Se hi');refine CI (k:=ks[i]) (e:=es[ks[i]]) s1 s2 hf h1 h2 (by simp[hi']) (UQ hki) λh' a b=>?_;refine hQ _ h' s.toks ?_ ⟨a,s2.keep λo e=>b.extBut D o hne e,ot,c,b.extBut T ot hT h1,h2⟩ λc o hc e=>b.extBut c o (λz=>hc (by simp[z])) e;rw[RX,RU hi'];show some (es.getD ks[i] (0,.none)).2=_;rw[bA hki]
 done:=λs Q E st hQ=>by obtain⟨s1,s2,ot,c,h1,h2⟩:=st;exact IM hh s1 s2 hf h1 h2 (by simp) λh' a=>hQ h' s.toks λc o hc e=>a c o (λz=>hc (by simp[z])) e
 self:=λ_ _ _ _ st hQ=>pd st.1 hQ
end
section
variable{prog:N5}{w:N9}{A:Oi}{E:NY}
theorem Be{α:Type}:∀(n:Nat)(xs:List α)(s:N3)(Q:List α->N3->Prop),xs.length=n->(∀l d,l.Perm xs->Q l {s with drawn:=d})->N8 (Od prog w) A (drawOrder n xs) Q E s
 |0,xs,s,Q,hn,h=>by have:xs=[]:=Tj.mp hn;subst this;exact N2 (h [] s.drawn (List.Perm.refl _))
 |n+1,[],s,Q,hn,h=>by cases hn
 |n+1,x::xs,s,Q,hn,h=>by
  show N8 _ _ (do let i<-choose .order (x::xs).length;_) _ _ s;refine N0 ?_;intro Γ p hΓ;unfold choose;rw[Sem.wp_choose];refine⟨Nat.succ_ne_zero _,?_⟩;have hi:(Od prog w).w.draws Source.order (s.drawn.get Source.order) % (x::xs).length<(x::xs).length:=Ug _ (Uh _);refine(N2 (M:=Od prog w) (A:=A) (E:=E) ?_) Γ p hΓ;rw[RU hi];dsimp only;refine N0 (Be n _ _ _ ?_ λl d hp=>?_)
  .rw[TQ hi];omega
  .exact N2 (h _ d ((List.Perm.cons _ hp).trans (mU (RU hi))))
end
section
variable{prog:N5}{w:N9}{A:Oi}{E:NY}{s:N3}
theorem uE{es:Array (Int×VA)}{l:List Nat}(h:l.Perm (List.range es.size)):(l.map λk=>(es.getD k (0,.none)).2).Perm (dc es):=by
 refine(h.map _).trans (List.Perm.of_eq ?_);unfold dc;apply SD;intro i;have e0:es.toList[i]? =es[i]? :=UR;rw[RX,RX,e0]
 by_cases hi:i<es.size
 .rw[SE hi,UQ hi];show some (es.getD i (0,.none)).2=some es[i].2;rw[bA hi]
 .rw[Sn (by simpa using hi),US (by omega)];rfl
theorem AK{D:VB}{es:Array (Int×VA)}{ep:Nat}{t:SetTable}{Q:NY}(hS:dR s.heap D es ep t)(g:SG (!w.params.followText "set-order") es.size t)(hz:es.size<=v1)(hQ:∀(vs:List VA)(h':Oe)(I:VB) d,vs.Perm (dc es)->WS3 prog w s D vs h' I->(∀b o,s.heap.get? b=some o->h'.get? b=some o)->Q (.ref I) {s with heap:=h',drawn:=d}):N8 (Od prog w) A (pyIter (.ref D)) Q E s:=by
 have ty:s.TypeIs (.ref D) "set":=let ⟨o,h1,h2,_⟩:=hS;⟨o,h1,h2.1⟩;have hlt:D<s.heap.objs.size:=let ⟨o,h1,_⟩:=hS;N4 h1;refine wpAny_pyIter_slot ty F.slot_set_iter (Oz F.slot_set_iter ty tu ?_ (F.args_set_iter_1 _));show N8 _ _ (QI D >>= _) _ _ s;unfold QI PB;refine N0 (N0 (N0 (ix hS g.fits (N2 (N2 ?_)))));dsimp only;refine N0 ?_;unfold setDrawn;refine N0 (ix hS g.fits ?_);dsimp only;refine N0 (j5 (N2 ?_));have fin:∀(first:VA)(h1:Oe)(d:Drawn),(∀b o,s.heap.get? b=some o->h1.get? b=some o)->s.heap.objs.size<=h1.objs.size->(∀I h',tT h' I D first 0 es.size ep->dR h' D es ep t->D<I->s.heap.objs.size<=I->h1.objs.size<=I->I<h'.objs.size->(∀b o,h1.get? b=some o->h'.get? b=some o)->∃vs:List VA,vs.Perm (dc es)/\WS3 prog w s D vs h' I)->
   N8 (Od prog w) A.in1 (do let n<-setEpoch D;let x<-newFields "set_iterator" [first,Qh 0,.ref D,Qh es.size,Qh n];ret x) (λr s'=>∃v,r=.done (.ret v)/\∃T' r',s'.TypeIs v T'/\Qq (.type T') "__next__"=pure (some r')/\Q v s') E {s with heap:=h1,drawn:=d}:=λfirst h1 d k hs f=>by
  have hS1:dR h1 D es ep t:=hS.keep λo e=>k D o e;unfold setEpoch;refine N0 (N0 (ix hS1 g.fits (N2 ?_)));refine N0 (OL (N2 ?_) (by size_fits));have k2:∀b o,h1.get? b=some o->(h1.push {cls:=.type "set_iterator",data:=.fields #[first,.int 0 0,.ref D,.int es.size 0,.int ep 0]}).get? b=some o:=λb o e=>N1 _ e;have hI:tT (h1.push {cls:=.type "set_iterator",data:=.fields #[first,.int 0 0,.ref D,.int es.size 0,.int ep 0]}) h1.objs.size D first 0 es.size ep:=⟨_,N7 _ rfl,rfl,rfl⟩;obtain⟨vs,p,W⟩:=f _ _ hI (hS1.keep λo e=>k2 D o e) (T2 hlt hs) hs (TX _) (by rw[Os];exact Uc _) k2;exact⟨_,rfl,"set_iterator",_,⟨_,N7 _ rfl,rfl⟩,ce.lookup,hQ vs _ _ d p W λb o e=>k2 b o (k b o e)⟩
 cases hb:w.params.followText "set-order"with
 |true=>
  rw[NQ (by simp)];refine N0 (N2 (fin _ s.heap s.drawn (λ_ _ e=>e) (TX _) λI h' a b c1 c2 c3 c4 k=>⟨_,(xS (w.params.setOrder D ep) es).map _,⟨[I,D],_,λA' hA=>xn (TY c1) g.fits hb hA,⟨a,b⟩,?_,by simp,?_,c2⟩⟩))
  .intro x hx;simp only[RV,Sb,or_false]at hx
   rcases hx with rfl|rfl
   .exact .inr c2
   .exact .inl rfl
  .intro x hx;simp only[RV,Sb,or_false]at hx
   rcases hx with rfl|rfl
   .exact c4
   .exact T6 c1 c4
 |false=>
  split
  .rename_i hd;have hd:(!t.plain&&decide (es.size > 1))=true:=hd;refine N0 (Be es.size (List.range es.size) s _ (by simp) λl d hp=>?_);refine N0 (OL ?_ ?_)
   .refine fin _ _ d (λb o e=>N1 _ e) (by rw[Os];exact T3 _) λI h' a b c1 c2 c3 c4 k=>⟨_,uE hp,⟨[I,D,s.heap.objs.size],_,λA' hA=>BM (T:=s.heap.objs.size) (TY c1) (TY (T2 (by rw[Os];exact Uc _) c3)) g.fits l (λx hx=>by simpa using hp.mem_iff.mp hx) hA,⟨a,b,_,_,k _ _ (N7 _ rfl),rfl⟩,?_,by simp,?_,c2⟩⟩
    .intro x hx;simp only[RV,Sb,or_false]at hx
     rcases hx with rfl|rfl|rfl
     .exact .inr c2
     .exact .inl rfl
     .exact .inr (TX _)
    .intro x hx;simp only[RV,Sb,or_false]at hx
     rcases hx with rfl|rfl|rfl
     .exact c4
     .exact T6 c1 c4
     .exact Nat.lt_of_le_of_lt c2 c4
   .have:=hp.length_eq;simp only[Sx]at this;simp[sizeOk,this,hz]
  .rename_i hd;have hd:¬(!t.plain&&decide (es.size > 1))=true:=hd;have hp:t.plain=true\/es.size<=1:=by
    cases e:t.plain with
    |true=>exact .inl rfl
    |false=>
     right
     rw[e]at hd;simp at hd;omega
   refine N0 (N2 (fin _ s.heap s.drawn (λ_ _ e=>e) (TX _) λI h' a b c1 c2 c3 c4 k=>⟨_,List.Perm.refl _,⟨[I,D],_,λA' hA=>xo (TY c1) g hb hp hA,⟨TZ _,a,b⟩,?_,by simp,?_,c2⟩⟩))
   .intro x hx;simp only[RV,Sb,or_false]at hx
    rcases hx with rfl|rfl
    .exact .inr c2
    .exact .inl rfl
   .intro x hx;simp only[RV,Sb,or_false]at hx
    rcases hx with rfl|rfl
    .exact c4
    .exact T6 c1 c4
end
theorem vf:Qq (.type "set") "__len__"=pure (some (.builtin "set.__len__")):=by rw[Pq,OS];kernel_rfl
section
variable{prog:N5}{w:N9}{A:Oi}{E:NY}{s:N3}
theorem AM{D:VB}{Q:Bool->N3->Prop}(ty:s.TypeIs (.ref D) "set")(q:Q false s):N8 (Od prog w) A (Py (.ref D)) Q E s:=by
 unfold Py;refine N0 (PN ty vf ?_);generalize hx:("set.__len__":String)=x0
 wp_delta
 rw[show splitId x0=some ("set","__len__")from by subst hx;decide+kernel];subst hx;refine N0 (Pk (T:="set") (b:=true) ty (by rw[Qs];kernel_rfl) ?_);refine QZ (λz=>NU z (by decide)) (λ_=>QZ (λ_=>?_) (λz=>NU (by decide+kernel) z));exact N0 (Pc ty (N2 q))
abbrev lb:Obj:={cls:=.type "list",data:=.seq ([]:List VA).toArray}
theorem tD{D:VB}{es:Array (Int×VA)}{ep:Nat}{t:SetTable}{Q:List VA->N3->Prop}(hh:A.handled=none)(hS:dR s.heap D es ep t)(g:SG (!w.params.followText "set-order") es.size t)(hz:es.size<=v1)(q:∀(vs:List VA)(h':Oe) d tk,vs.Perm (dc es)->(∀b o,s.heap.get? b=some o->h'.get? b=some o)->s.heap.objs.size<h'.objs.size->s.toks<=tk->Q vs {s with heap:=h',drawn:=d,toks:=tk}):N8 (Od prog w) A (RM (.ref D)) Q E s:=by
 have hlt:D<s.heap.objs.size:=let ⟨o,h1,_⟩:=hS;N4 h1;unfold RM;refine N0 (Qn (Ou Ra ?_));rw[Om Q9 _];show N8 _ A.in1 (newList [] >>= λl=>again (.builtin "list.__iadd__" ⟨[l,.ref D],[]⟩)) _ _ s;refine N0 (OL (N2 ⟨O5 P9 _,Ou F.entry_list_iadd ?_⟩));rw[Om P9 _];have kp:∀b o,s.heap.get? b=some o->(s.heap.push lb).get? b=some o:=λb o e=>N1 _ e;have hS1:dR (s.heap.push lb) D es ep t:=hS.keep λo e=>kp D o e;have ty1:Qd {s with heap:=s.heap.push lb} (.ref D) "set":=let ⟨o,h1,h2,_⟩:=hS1;⟨o,h1,h2.1⟩;have gL:(s.heap.push lb).get? s.heap.objs.size=some lb:=N7 _ rfl;show N8 _ A.in1 (O3 (.ref s.heap.objs.size) (.ref D) (.ref s.heap.objs.size)) _ _ _;unfold O3;refine N0 (Pc ty1 ?_);have n1:ON (.ref s.heap.objs.size) (.ref D)=false:=by simp[ON,T4 hlt]
 rw[NQ (by rw[n1];decide)];refine N0 (AK (s:={s with heap:=s.heap.push lb}) hS1 g hz λvs h' I d hp W k=>?_);obtain⟨fp,St,W,st,f1,f2,f3,f4⟩:=W.ex;have hvl:vs.length<=v1:=by
  have:=hp.length_eq;have e:(dc es).length=es.size:=by simp[dc]
  omega
 have nS:s.heap.objs.size∉fp:=λz=>by
  rcases f1 _ z with e|e
  .exact T4 hlt e
  .have e:(s.heap.push lb).objs.size<=s.heap.objs.size:=e;rw[Os]at e;exact T5 _ e
 have ty2:Qd {s with heap:=h',drawn:=d} (.ref D) "set":=let ⟨o,h1,h2,_⟩:=hS1;⟨o,k _ _ h1,h2.1⟩;refine N0 (On (AM ty2 ?_));have gL2:=k _ _ gL;refine QZ (λ_=>?_) (λz=>NU (by decide+kernel) z);refine N0 (QP (N0 ?_));show N8 _ _ (updateSeq s.heap.objs.size (·.push .none) >>= λ_=>updateSeq s.heap.objs.size (·.pop)) _ _ _;refine N0 (QY gL2 rfl ?_);have gL3:=Pa (OU (·.push O8)) gL2 rfl;refine QY (hz:=by seq_fits) gL3 rfl ?_;have gL4:=Pa (OU (·.pop)) gL3 rfl;have oth:∀b o,b≠s.heap.objs.size->h'.get? b=some o->((h'.update s.heap.objs.size (OU (·.push O8))).update s.heap.objs.size (OU (·.pop))).get? b=some o:=
  λb o hb e=>(O0 _ _ (Ne.symm hb)).trans ((O0 _ _ (Ne.symm hb)).trans e)
 refine N2 ⟨O5 F.plain_extend_loop _,codeAny_extend_loopS (A:=A) (W A.in1 hh).toS hvl _ nS _ vs.length 0 _ _ _ rfl (TZ _) ((W A.in1 hh).frame 0 _ _ st λb hb o e=>oth b o (λz=>nS (z▸hb)) e) gL4 (ItemsOf.nil _) λs2 acc c hm gA hacc=>?_⟩;show N8 _ A (load s.heap.objs.size >>= _) _ _ s2;refine N0 (wpAny_load gA ?_);have ea:acc.toList=vs:=by
  apply SD;intro i;rw[UR]
  by_cases hi:i<acc.size
  .have:=hacc.2 i acc[i] (UQ hi);rw[UQ hi,this]
  .rw[US (by omega),Sn (by have:=hacc.1;omega)]
 refine N2 ?_;rw[ea];obtain⟨h2,g2,d2,t2,o2⟩:=s2;obtain rfl:g2=s.gens:=hm.gens;obtain rfl:d2=d:=hm.drawn;obtain rfl:o2=s.os:=hm.os;refine q vs _ _ _ hp (λb o e=>?_) (N4 gA) ?_
 .have hb:b≠s.heap.objs.size:=TY (N4 e);refine hm.heap b o (λz=>?_) (oth b o hb (k b o (kp b o e)))
  rcases RV.mp z with z|z
  .exact hb z
  .have z:b=I:=R4.mp z;have e2:(s.heap.push lb).objs.size<=I:=f4;rw[Os]at e2;exact NU (N4 e) (by rw[z];exact Nat.not_lt.mpr (Nat.le_of_succ_le e2))
 .exact hm.toks
end
section
variable{prog:N5}{w:N9}{κ:Type}[DecidableEq κ]{knd:KeyKind prog w κ}{A:Oi}{E:NY}{s:N3}
theorem dR.put{h:Oe}{D:VB}{es:Array (Int×VA)}{ep:Nat}{t:SetTable}(x:dR h D es ep t)(es':Array (Int×VA))(t':SetTable):dR (h.update D (QX es' t')) D es' (ep+1) t':=by obtain⟨o,ho,hx,hd⟩:=x;have e:=Pa (QX es' t') ho (by rw[putSet_of es' t' hd];rfl);rw[putSet_of es' t' hd]at e;exact⟨_,e,hx,rfl⟩
theorem Aa{D:VB}{es es':Array (Int×VA)}{ep:Nat}{t t':SetTable}{Q:Unit->N3->Prop}(x:dR s.heap D es ep t)(hz:es'.size<scanBound)(q:Q () {s with heap:=s.heap.update D (QX es' t')}):N8 (Od prog w) A (storeSet D es' t') Q E s:=by obtain⟨o,ho,_,hd⟩:=x;exact wpAny_storeSet_of ho hd q (fits_of_scanBound hz)
end
section
variable{prog:N5}{w:N9}{A:Oi}{E:NY}{s:N3}
theorem oa{k:List Int}{a:VB}{Q:Bool->N3->Prop}(hk:Op (intKind prog w) s.heap k a)(h:Q false s):N8 (Od prog w) A (Qz 8 (.ref a)) Q E s:=by
 have hT:=hk.typeIs;obtain⟨o,items,n,ho,_,hd,hi⟩:=hk;unfold Qz;refine N0 (Pc hT ?_);dsimp only;rw[NR (by decide)];refine N0 (N2 ?_);simp only[UJ,UE,if_false];refine N0 (OD ho hd ?_);dsimp only;refine N0 ?_;rw[<-U0];refine QK _ (λrest r s'=>r.1=none/\s'=s/\∀v∈rest,carriedByValue v=true) _ ?_ ?_ _ _ ⟨rfl,rfl,hi.byValue⟩
 .rintro v rest r s' ⟨hr,rfl,hall⟩;have hv:=hall v R6;have e:Qz 7 v=pure false:=by
   cases v<;>first|rfl|(simp[carriedByValue]at hv)
  rw[e];refine N0 (N2 ?_);simp only[UE,if_false];exact N2 ⟨rfl,rfl,λu hu'=>hall u (R7 _ hu')⟩
 .rintro⟨r1,r2⟩ s' ⟨hr,rfl,_⟩;simp only at hr;subst hr;exact N2 h
def El(prog:N5)(w:N9)(m:VB->Prop)(h:Oe)(k:List Int)(e:Int×VA):Prop:= ∃a,m a/\e=(tupleKeyHash (intKind prog w) k,.ref a)/\Op (intKind prog w) h k a
theorem HB{k:List Int}{x:VB}{ys:List VA}{Q:Bool->N3->Prop}(hx:Op (intKind prog w) s.heap k x)(hy:∀y∈ys,∃ki a,y=.ref a/\Op (intKind prog w) s.heap ki a)(h:Q false s):N8 (Od prog w) A (searchCouldBeSeen (.ref x) ys) Q E s:=by
 unfold searchCouldBeSeen;refine N0 ?_;refine QK _ (λrest r s'=>r.1=none/\s'=s/\∀v∈rest,∃ki a,v=.ref a/\Op (intKind prog w) s.heap ki a) _ ?_ ?_ _ _ ⟨rfl,rfl,hy⟩
 .rintro v rest r s' ⟨hr,rfl,hall⟩;obtain⟨ki,a,rfl,ha⟩:=hall v R6;dsimp only;split
  .exact N2 ⟨rfl,rfl,λu hu'=>hall u (R7 _ hu')⟩
  .refine N0 (Q6 hx ?_);simp only[UJ,UE,if_false];refine N0 (Q6 ha ?_);simp only[UJ,UE,if_false];refine N0 (oa hx ?_);simp only[UE,if_false];refine N0 (oa ha ?_);simp only[UE,if_false];exact N2 ⟨rfl,rfl,λu hu'=>hall u (R7 _ hu')⟩
 .rintro⟨r1,r2⟩ s' ⟨hr,rfl,_⟩;simp only at hr;subst hr;exact N2 h
theorem El.inj{m:VB->Prop}{h:Oe}{k k':List Int}{e:Int×VA}(x:El prog w m h k e)(y:El prog w m h k' e):k=k':=by obtain⟨a,_,rfl,h1⟩:=x;obtain⟨b,_,e2,h2⟩:=y;injection e2 with _ e3;injection e3 with e4;subst e4;exact h1.inj h2
theorem iA{m:VB->Prop}{D:VB}{es:Array (Int×VA)}{ep:Nat}{t:SetTable}{x:VB}{k:List Int}{N:Nat}{h:Int}{Q:SetFound->N3->Prop}(eh:h=tupleKeyHash (intKind prog w) k)(hS:dR s.heap D es ep t)(g:tZ es t)(hes:∀i,i<es.size->∃ki,El prog w m s.heap ki (es.getD i (0,.none)))(hx:Op (intKind prog w) s.heap k x)(hu:A.units<Pf)(he:t.slot (sl t.mask h N 0)=.empty)(hN:N<=t.mask+13)(q1:∀i,i<es.size->El prog w m s.heap k (es.getD i (0,.none))->Q (.there none) s)(q2:(∀i,i<es.size->¬El prog w m s.heap k (es.getD i (0,.none)))->∀n c,j8 t.mask h n c->t.slot (sl t.mask h n c)=.empty->(∀a b,j8 t.mask h a b->ir a b n c->¬t.slot (sl t.mask h a b)=.empty)->Q (.free (sl t.mask h n c) false) s):∀(f n c:Nat)(stand:Option PD),vQ t.mask h n c (stand.getD (t.probeStart h))->(stand.getD (t.probeStart h)).dummy=none->(n<N\/(n=N/\c=0))->(∀a b,j8 t.mask h a b->ir a b n c->∃i,t.slot (sl t.mask h a b)=.live i/\¬El prog w m s.heap k (es.getD i (0,.none)))->10*(N - n)+1<=f+c->N8 (Od prog w) A (Ri D (.ref x) h true f stand) Q E s
 |0,n,c,stand,a,hd,hn,hv,hf=>by have:=mq t.mask (lp t.mask h n).1;have:=a.ok;unfold j8 at this;omega
 |f+1,n,c,stand,a,hd,hn,hv,hf=>by
  have hgw:t.gaveWay=false:=by unfold SetTable.gaveWay;have:=g.odd;simp;omega
  have c9:c<=9:=by have h1:=mq t.mask (lp t.mask h n).1;have h2:=a.ok;unfold j8 at h2;omega
  have live_ix:∀{j i},t.slot j=.live i->i<es.size:=λ{j i} e=>by rw[<-g.ps];exact((ko g.ris).mp e).1
  unfold Ri;refine N0 (ix hS g.fits ?_);dsimp only;rw[hgw,NQ UC];have fin:∀(hashAt:Nat->Int),(∀i,hashAt i=(es[i]?.map (·.1)).getD 0)->∃n' c' p',vQ t.mask h n' c' p'/\(n'<N\/(n'=N/\c'=0))/\(ir n c n' c'\/(n=n'/\c=c'))/\(∀a b,j8 t.mask h a b->(ir n c a b\/(n=a/\c=b))->ir a b n' c'->∃i,t.slot (sl t.mask h a b)=.live i/\¬hashAt i=h)/\
   ((t.slot (sl t.mask h n' c')=.empty/\t.probe hashAt h (stand.getD (t.probeStart h))=some (.empty (sl t.mask h n' c') none))\/
    (∃i,t.slot (sl t.mask h n' c')=.live i/\hashAt i=h/\t.probe hashAt h (stand.getD (t.probeStart h))=some (.candidate (sl t.mask h n' c') i (t.advance p'))/\n'<N/\p'.dummy=none)):=λhashAt _=>by
   obtain⟨n',c',p',b1,b2,b3,b4,b5⟩:=qB g.nd hashAt he (10*O9 t.mask) n c _ a hn (by unfold O9;omega);rw[hd]at b5;exact⟨n',c',p',b1,b2,b3,b4,b5⟩
  split
  .rename_i met hm;obtain⟨hashAt,hha,hm⟩:∃fh:Nat->Int,(∀i,fh i=(es[i]?.map (·.1)).getD 0)/\t.probe fh h (stand.getD (t.probeStart h))=some met:=⟨_,λi=>rfl,hm⟩;obtain⟨n',c',p',b1,b2,b3,b4,b5⟩:=fin hashAt hha;have hv':∀a b,j8 t.mask h a b->ir a b n' c'->∃i,t.slot (sl t.mask h a b)=.live i/\¬El prog w m s.heap k (es.getD i (0,.none)):=λa b o l=>by
    by_cases l2:ir a b n c
    .exact hv a b o l2
    .obtain⟨i,h1,h2⟩:=b4 a b o (by unfold ir at *;omega) l;refine⟨i,h1,λ⟨y,_,e,_⟩=>h2 ?_⟩;have hi:=live_ix h1;rw[hha i,UQ hi];rw[bA hi]at e;rw[e,eh];rfl
   rcases b5 with⟨e1,e2⟩|⟨i,e1,e2,e3,e4,e5⟩
   .rw[e2]at hm;injection hm with hm;subst hm;dsimp only;refine N2 (q2 (λi hi hE=>?_) n' c' b1.ok e1 λa b o l z=>?_)
    .obtain⟨n0,c0,o0,e0,hb⟩:=g.pl i hi;have hh:(es.getD i (0,.none)).1=h:=by obtain⟨y,_,e,_⟩:=hE;rw[e,eh]
     rw[hh]at o0 e0 hb;have hsl:t.slot (t.place.getD i 0)=.live i:=(ko g.ris).mpr ⟨by rw[g.ps];exact hi,rfl⟩
     by_cases l1:ir n0 c0 n' c'
     .obtain⟨j,z1,z2⟩:=hv' n0 c0 o0 l1;rw[e0,hsl]at z1;injection z1 with z1;subst z1;exact z2 hE
     .by_cases l2:ir n' c' n0 c0
      .exact hb n' c' b1.ok l2 e1
      .have:n0=n'/\c0=c':=by unfold ir at *;omega
       obtain⟨rfl,rfl⟩:=this;rw[e0,hsl]at e1;cases e1
    .obtain⟨i,z1,_⟩:=hv' a b o l;rw[z1]at z;cases z
   .rw[e3]at hm;injection hm with hm;subst hm;have hi:=live_ix e1;obtain⟨ki,y,my,ey,hy⟩:=hes i hi;have eg:es[i]? =some (tupleKeyHash (intKind prog w) ki,Of y):=by rw[UQ hi,<-bA hi,ey]
    have hsm:t.sameMemory t.moves t.mask=some true:=by unfold SetTable.sameMemory;rw[NR (by simp)]
    have hmo:∀n2 c2,j8 t.mask h n2 c2->ir n' c' n2 c2\/(n'=n2/\c'=c2)\/ir n2 c2 n' c':=λn2 c2 _=>by unfold ir;omega
    have again:¬ki=k->N8 (Od prog w) A (Ri D (.ref x) h true f (some (t.advance p'))) Q E s:=λne=>by
     have hd':(t.advance p').dummy=none:=by unfold Qc;split<;>exact e5
     have hvn:∀n2 c2,(∀a b,j8 t.mask h a b->ir a b n2 c2->ir a b n' c'\/(a=n'/\b=c'))->∀a b,j8 t.mask h a b->ir a b n2 c2->∃i,t.slot (sl t.mask h a b)=.live i/\¬El prog w m s.heap k (es.getD i (0,.none)):=λn2 c2 z a b o l=>by
      rcases z a b o l with q|⟨rfl,rfl⟩
      .exact hv' a b o q
      .exact⟨i,e1,λq=>ne (El.inj ⟨y,my,ey,hy⟩ q)⟩
     by_cases hm:0<p'.more
     .refine iA eh hS g hes hx hu he hN q1 q2 f n' (c'+1) (some (t.advance p')) (b1.more hm) hd' (.inl e4) (hvn _ _ λa b o l=>by unfold ir at *;omega) ?_;unfold ir at b3;omega
     .have hck:=b1.2.2.2;have hc9:=mq t.mask (lp t.mask h n').1;refine iA eh hS g hes hx hu he hN q1 q2 f (n'+1) 0 (some (t.advance p')) (b1.leap hm) hd' (by omega) (hvn _ _ λa b o l=>?_) ?_
      .unfold j8 at o;unfold ir at*
       by_cases e2:a=n'
       .subst e2;omega
       .omega
      .have:=b1.ok;unfold j8 at this;unfold ir at b3;omega
    dsimp only;rw[eg];dsimp only;split
    .refine N0 (HB hx (λv hv2=>?_) ?_)
     .rw[RW]at hv2;obtain⟨e,he2,rfl⟩:=hv2;rw[Array.toList_filter,Ss]at he2;obtain⟨r,hr,rfl⟩:=SN he2.1;have hr2:r<es.size:=by simpa using hr
      obtain⟨kr,z,_,ez,hz⟩:=hes r hr2;rw[bA hr2]at ez;exact⟨kr,z,by rw[UZ,ez],hz⟩
     .rw[NQ UC];refine N0 (On (wpAny_eqBool_tuple hu hy hx (N0 (ix hS g.fits ?_))));dsimp only
      by_cases ek:ki=k
      .rw[C0 ek,NR (by decide)];subst ek;exact N2 (q1 i hi ⟨y,my,ey,hy⟩)
      .rw[NP ek,NQ (by simp),hsm];dsimp only;rw[NR rfl,e1];dsimp only;rw[eg];dsimp only;refine N0 ?_;unfold isSame;dsimp only;rw[NR (by simp)];refine N2 ?_;rw[NR rfl];refine N0 (N2 ?_);dsimp only;rw[NQ UC];exact again ek
    .refine N0 (On (wpAny_eqBool_tuple hu hy hx (N0 (ix hS g.fits ?_))));dsimp only
     by_cases ek:ki=k
     .rw[C0 ek,NR (by decide)];subst ek;exact N2 (q1 i hi ⟨y,my,ey,hy⟩)
     .rw[NP ek,NQ (by simp),hsm];dsimp only;rw[NR rfl,e1];dsimp only;rw[eg];dsimp only;refine N0 ?_;unfold isSame;dsimp only;rw[NR (by simp)];refine N2 ?_;rw[NR rfl];refine N0 (N2 ?_);dsimp only;rw[NQ UC];exact again ek
  .rename_i hm;exfalso;obtain⟨hashAt,hha,hm⟩:∃fh:Nat->Int,(∀i,fh i=(es[i]?.map (·.1)).getD 0)/\∀met,t.probe fh h (stand.getD (t.probeStart h))=some met->False:=⟨_,λi=>rfl,hm⟩;obtain⟨n',c',p',b1,b2,b3,b4,b5⟩:=fin hashAt hha
   rcases b5 with⟨e1,e2⟩|⟨i,e1,e2,e3,_⟩
   .exact hm _ e2
   .exact hm _ e3
end
section
variable{prog:N5}{w:N9}{A:Oi}{E:NY}{s:N3}
theorem AQ{k:List Int}{a:VB}{Q:Bool->N3->Prop}(hk:Op (intKind prog w) s.heap k a)(h:∀b,Q b s):N8 (Od prog w) A (hashByValue 8 (.ref a)) Q E s:=by
 have hT:=hk.typeIs;obtain⟨o,items,n,ho,_,hd,hi⟩:=hk;unfold hashByValue;refine N0 (PN hT F.slot_tuple_hash.lookup ?_);dsimp only;refine N0 (OD ho hd ?_);refine N0 ?_;show N8 _ _ (forIn items _ _) _ _ s;rw[<-U0];refine QK _ (λrest r s'=>s'=s/\∀v∈rest,carriedByValue v=true) _ ?_ ?_ _ _ ⟨rfl,hi.byValue⟩
 .rintro v rest r s' ⟨rfl,hall⟩;have hv:=hall v R6;have e:∃b,hashByValue 7 v=pure b:=by
   cases v<;>first|exact⟨_,rfl⟩|(simp[carriedByValue]at hv)
  obtain⟨b,e⟩:=e;rw[e];refine N0 (N2 ?_);split
  .exact N2 (N2 (h _))
  .exact N2 ⟨rfl,λu hu'=>hall u (R7 _ hu')⟩
 .rintro⟨r1,r2⟩ s' ⟨rfl,_⟩;cases r1 with
  |none=>exact N2 (h _)
  |some b=>exact N2 (h _)
theorem TK.same{h h':Oe}{k:List Int}{a D:VB}{es:Array (Int×VA)}{ep:Nat}{t:SetTable}(x:Op (intKind prog w) h k a)(hS:dR h D es ep t)(b:OH D h h'):Op (intKind prog w) h' k a:=by
 obtain⟨o,items,n,ho,hc,hd,hi⟩:=x;obtain⟨o',ho',hx',hd'⟩:=hS;have hne:a≠D:=by rintro rfl;obtain rfl:o=o':=NV (ho.symm.trans ho');rw[hd]at hd';exact nomatch hd'
 exact⟨o,items,n,(b.2 a hne).trans ho,hc,hd,hi⟩
theorem El.same{m:VB->Prop}{h h':Oe}{k:List Int}{e:Int×VA}{D:VB}{es:Array (Int×VA)}{ep:Nat}{t:SetTable}(x:El prog w m h k e)(hS:dR h D es ep t)(b:OH D h h'):El prog w m h' k e:=let ⟨a,h0,h1,h2⟩:=x;⟨a,h0,h1,TK.same h2 hS b⟩
def Rm(mask n:Nat):Prop:=(mask=7\/mask=31\/mask=127\/mask=511)/\n*5<mask*3
structure ST(prog:N5)(w:N9)(m:VB->Prop)(h:Oe)(es:Array (Int×VA))(t:SetTable):Prop where
 el:∀e∈es.toList,∃k,El prog w m h k e
 nd:es.toList.Pairwise λe e'=>∀k,El prog w m h k e->¬El prog w m h k e'
 tg:tZ es t
 led:t.led= !w.params.followText "set-order"
 rm:Rm t.mask es.size
def iR(prog:N5)(w:N9)(m:VB->Prop)(h:Oe)(D:VB)(S:List Int->Bool)(n:Nat):Prop:= ∃es ep t,dR h D es ep t/\ST prog w m h es t/\(∀k,S k=true<->∃e∈es.toList,El prog w m h k e)/\es.size=n
theorem B2{mask:Nat}{n:Nat}(r:Rm mask n):kX (mask+1):=by
 obtain⟨rfl|rfl|rfl|rfl,_⟩:=r
 .exact GV
 .exact IH
 .exact CT
 .exact CS
theorem tZ.off{es:Array (Int×VA)}{t:SetTable}(g:tZ es t)(b:Bool):tZ es {t with plain:=b}:=⟨g.ps,g.ris,g.nd,g.full,g.odd,g.fit,g.pl⟩
theorem My{m:VB->Prop}{D:VB}{S:List Int->Bool}{n:Nat}{k:List Int}{x:VB}{Q:Bool->N3->Prop}(hx:Op (intKind prog w) s.heap k x)(hxm:m x)(hu:A.units<Pf)(hS:iR prog w m s.heap D S n)(hr:n+1<307)(q:∀h',OH D s.heap h'->iR prog w m h' D (λk'=>S k'||decide (k'=k)) (if S k then n else n+1)->Q (!S k) {s with heap:=h'}):N8 (Od prog w) A (setAddHashed D (.ref x) (tupleKeyHash (intKind prog w) k)) Q E s:=by
 obtain⟨es,ep,t,o1,st,hm,rfl⟩:=hS;have g:=st.tg;unfold setAddHashed setAddHashedIn;refine On (N0 (ix o1 g.fits ?_));dsimp only;have hbs:byScan (.ref x) es=false:=rfl;rw[hbs,NQ UC];refine N0 ?_;unfold setSearch;obtain⟨e0,he0,hee⟩:=yB g.ris g.nd g.fit;obtain⟨N,hN,eN⟩:=wz g.full (tupleKeyHash (intKind prog w) k) he0;have hb:t.mask<=511:=by obtain⟨h1,_⟩:=st.rm;omega
 refine iA (m:=m) (N:=N) rfl o1 g (λi hi=>?_) hx hu ?_ hN (λi hi hE=>?_) (λhno n' c' ok em before=>?_) 100000 0 0 none vQ.start rfl ?_ (λa b _ l=>?_) ?_
 .refine st.el _ ?_;rw[bA hi];simp
 .show t.slot ((lp t.mask _ N).1+0)=_;rw[Nat.add_zero,eN];exact hee
 .dsimp only;have hs:S k=true:=(hm k).mpr ⟨_,by rw[bA hi];simp,hE⟩;refine N2 ?_;have z:=q s.heap (Heap.SameBut.refl D s.heap) ⟨es,ep,t,o1,st,λk'=>?_,by rw[hs];rfl⟩
  .rw[hs]at z;exact z
  .rw[UI,decide_eq_true_eq,<-hm k'];exact⟨λy=>y.elim id (λe=>e▸hs),.inl⟩
 .dsimp only;have hs:S k=false:=by
   cases y:S k with
   |false=>rfl
   |true=>
    obtain⟨e,a1,a2⟩:=(hm k).mp y;obtain⟨i,hi,rfl⟩:=SN a1;have hi2:i<es.size:=by simpa using hi
    exact NU (by rw[bA hi2];simpa using a2) (hno i hi2)
  have hroom:es.size+1<=t.mask:=by obtain⟨h1,h2⟩:=st.rm;omega
  have g1:=g.put (x:=.ref x) ok em before hroom;refine N0 (ix o1 g.fits ?_);dsimp only;have hled:(t.put (sl t.mask (tupleKeyHash (intKind prog w) k) n' c')).1.led=t.led:=rfl;have hmask:(t.put (sl t.mask (tupleKeyHash (intKind prog w) k) n' c')).1.mask=t.mask:=rfl;have p1:=P6 es (t.put (sl t.mask (tupleKeyHash (intKind prog w) k) n' c')).2 (tupleKeyHash (intKind prog w) k,Of x);generalize t.put (sl t.mask (tupleKeyHash (intKind prog w) k) n' c')=P at g1 hled hmask p1 ⊢;obtain⟨t1,p⟩:=P;dsimp only at g1 hled hmask p1 ⊢;generalize Oq es p (tupleKeyHash (intKind prog w) k,Of x)=es1 at g1 p1 ⊢;rw[UW]at p1;have hz1:es1.size=es.size+1:=by have:=p1.length_eq;simpa using this
  have hex:El prog w m s.heap k (tupleKeyHash (intKind prog w) k,Of x):=⟨x,hxm,rfl,hx⟩;have el1:∀e∈es1.toList,∃k,El prog w m s.heap k e:=λe he=>by
   rcases Sa.mp (p1.mem_iff.mp he)with y|y
   .exact st.el e y
   .rw[R4]at y;subst y;exact⟨k,hex⟩
  have nd1:es1.toList.Pairwise λe e'=>∀k,El prog w m s.heap k e->¬El prog w m s.heap k e':=by refine(p1.pairwise_iff (λ{e e'} z k h1 h2=>z k h2 h1)).mpr (TM.mpr ⟨st.nd,Tu ..,λe he e' he' k' h1 h2=>?_⟩);rw[R4]at he';subst he';obtain rfl:=h2.inj hex;have:=(hm k').mpr ⟨e,he,h1⟩;rw[hs]at this;cases this
  have hm1:∀k',(S k'||decide (k'=k))=true<->∃e∈es1.toList,El prog w m s.heap k' e:=λk'=>by
   rw[UI,decide_eq_true_eq,hm k']
   constructor
   .rintro(⟨e,a1,a2⟩|rfl)
    .exact⟨e,p1.mem_iff.mpr (SA _ a1),a2⟩
    .exact⟨_,p1.mem_iff.mpr (Sj _ (R4.mpr rfl)),hex⟩
   .rintro⟨e,a1,a2⟩
    rcases Sa.mp (p1.mem_iff.mp a1)with y|y
    .exact .inl ⟨e,y,a2⟩
    .rw[R4]at y;subst y;exact .inr (a2.inj hex)
  have back:∀{h':Oe},OH D s.heap h'->∀{k' e},e∈es1.toList->El prog w m h' k' e->El prog w m s.heap k' e:=λ{h'} b{k' e} he z=>by obtain⟨k2,y⟩:=el1 e he;obtain rfl:=z.inj (y.same o1 b);exact y
  have out:∀{h':Oe}{es':Array (Int×VA)}{ep':Nat}{t':SetTable},OH D s.heap h'->dR h' D es' ep' t'->es'.toList.Perm es1.toList->tZ es' t'->t'.led=t.led->Rm t'.mask es'.size->Q true {s with heap:=h'}:=λ{h' es' ep' t'} b o' pp g' l' r'=>by
   have z:=q h' b ⟨es',ep',t',o',⟨λe he=>?_,?_,g',l'.trans st.led,r'⟩,λk'=>?_,?_⟩
   .rw[hs]at z;exact z
   .obtain⟨k2,y⟩:=el1 e (pp.mem_iff.mp he);exact⟨k2,y.same o1 b⟩
   .refine(pp.pairwise_iff (λ{e e'} z k h1 h2=>z k h2 h1)).mpr ?_;refine nd1.imp_of_mem ?_;intro e e' he he' z k' h1 h2;exact z k' (back b he h1) (back b he' h2)
   .rw[hm1 k']
    constructor
    .rintro⟨e,a1,a2⟩;exact⟨e,pp.mem_iff.mpr a1,a2.same o1 b⟩
    .rintro⟨e,a1,a2⟩;have a3:=pp.mem_iff.mp a1;exact⟨e,a3,back b a3 a2⟩
   .rw[hs];have:=pp.length_eq;simp only[UT]at this;rw[this,hz1];rfl
  have hsb:es1.size<scanBound:=by unfold scanBound;omega
  have fin:∀t2,tZ es1 t2->t2.led=t.led->t2.mask=t.mask->N8 (Od prog w) A (do
    storeSet D es1 t2
    if(!false&&t2.tooFull)=true then do
     setRelay D (Qw (es.size+1))
     pure true
    else pure true) Q E s:=λt2 g2 l2 m2=>by
   refine N0 (Aa o1 hsb ?_);have o2:=o1.put es1 t2;have b2:=OK s.heap D (QX es1 t2);have hfill:t2.fill=es.size+1:=by unfold SetTable.fill;rw[g2.nd,g2.ps,hz1];rfl
   split
   .rename_i hfull;have hfull:t2.tooFull=true:=by simpa using hfull
    unfold SetTable.tooFull at hfull;rw[hfill,m2]at hfull;have hfull:t.mask*3<=(es.size+1)*5:=by simpa using hfull
    have hsz:(t.mask=7/\es.size+1=5)\/(t.mask=31/\es.size+1=19)\/(t.mask=127/\es.size+1=77):=by obtain⟨h1,h2⟩:=st.rm;omega
    have hw:∃M,OT (Qw (es.size+1))=M+1/\Rm M (es.size+1):=by
     rcases hsz with⟨_,e⟩|⟨_,e⟩|⟨_,e⟩
     .rw[e];exact⟨31,by decide,by unfold Rm;omega⟩
     .rw[e];exact⟨127,by decide,by unfold Rm;omega⟩
     .rw[e];exact⟨511,by decide,by unfold Rm;omega⟩
    obtain⟨M,hM,hRm⟩:=hw;have hM1:OT (Qw (es.size+1)) - 1=M:=by omega
    obtain⟨t3,order,r1,r2,r3,r4,r5,r6⟩:=xI (es:=es1) (t:=t2) (wanted:=Qw (es.size+1)) (by rw[hM1];exact B2 hRm) (by rw[hM1];obtain⟨h1,_⟩:=hRm;omega) (by rw[hM1,hz1];obtain⟨h1,h2⟩:=hRm;omega);refine N0 ?_;unfold setRelay;refine N0 (ix o2 g2.fits ?_);dsimp only;rw[NQ (by rw[hM];obtain⟨h1,_⟩:=hRm;unfold v1;omega),r1];refine N0 ?_;show N8 _ _ (if((order.filterMap (es1[·]?)).size != es1.size)=true then _ else pure (order.filterMap (es1[·]?),t3)) _ _ _;rw[NQ (by rw[r2];simp)];refine N2 (Aa o2 (by rw[r2];exact hsb) (N2 ?_));exact out (b2.trans (OK _ D (QX _ t3))) (o2.put _ t3) r3 r4 (r5.trans l2) (by rw[r6,hM1,r2,hz1];exact hRm)
   .rename_i hfull;have hfull:t2.tooFull=false:=by simpa using hfull
    unfold SetTable.tooFull at hfull;rw[hfill,m2]at hfull;have hfull:(es.size+1)*5<t.mask*3:=by simpa using hfull
    refine N2 (out b2 o2 (List.Perm.refl _) g2 l2 ?_);rw[m2,hz1];exact⟨st.rm.1,hfull⟩
  split
  .refine N0 (AQ hx λbv=>?_);cases bv with
   |true=>exact fin t1 g1 hled hmask
   |false=>exact fin _ (g1.off false) hled hmask
  .exact N0 (N2 (fin t1 g1 hled hmask))
 .omega
 .unfold ir at l;omega
 .omega
theorem El.low{m:VB->Prop}{h h':Oe}{k:List Int}{e:Int×VA}(x:El prog w m h k e)(kp:∀b o,m b->h.get? b=some o->h'.get? b=some o):El prog w m h' k e:=let ⟨a,h0,h1,o,items,n,ho,r⟩:=x;⟨a,h0,h1,o,items,n,kp a o h0 ho,r⟩
theorem iR.low{m:VB->Prop}{h h':Oe}{D:VB}{S:List Int->Bool}{n:Nat}(x:iR prog w m h D S n)(kd:∀o,h.get? D=some o->h'.get? D=some o)(kp:∀b o,m b->h.get? b=some o->h'.get? b=some o):iR prog w m h' D S n:=by
 obtain⟨es,ep,t,o1,st,hm,e⟩:=x;have back:∀{k' e},e∈es.toList->El prog w m h' k' e->El prog w m h k' e:=λ{k' e} he z=>by obtain⟨k2,y⟩:=st.el e he;obtain rfl:=z.inj (y.low kp);exact y
 refine⟨es,ep,t,o1.keep kd,⟨λe he=>let ⟨k,y⟩:=st.el e he;⟨k,y.low kp⟩,?_,st.tg,st.led,st.rm⟩,λk=>?_,e⟩
 .refine st.nd.imp_of_mem ?_;intro e e' he he' z k' h1 h2;exact z k' (back he h1) (back he' h2)
 .rw[hm k];exact⟨λ⟨e,a1,a2⟩=>⟨e,a1,a2.low kp⟩,λ⟨e,a1,a2⟩=>⟨e,a1,back a1 a2⟩⟩
theorem iR.congr{m:VB->Prop}{h:Oe}{D:VB}{S S':List Int->Bool}{n n':Nat}(x:iR prog w m h D S n)(e1:∀k,S k=S' k)(e2:n=n'):iR prog w m h D S' n':=by obtain rfl:S=S':=funext e1;subst e2;exact x
end
end L2
namespace L2
open PySem PySem.Spec PyProof.Rows
section
variable{prog:N5}{w:N9}{A:Oi}{E:NY}{s:N3}{κ:Type}[DecidableEq κ]{knd:KeyKind prog w κ}
theorem xA(a:VA){Q1:NY}(q:Q1 (.ref s.heap.objs.size) {s with heap:=s.heap.push (cu (!w.params.followText "set-order"))}):PQ (Od prog w) A (.call (.builtin "set.__new__") ⟨[.type "set",a],[]⟩) (wants Q1 E) s:=by
 refine Q0 ?_;show N8 _ A.in1 (do checkBuiltinCall "set.__new__" ⟨[.type "set",a],[]⟩;again _) _ _ s;refine N0 (Rb (F.newCall_set_1 a) (N2 ⟨O5 F.plain_set_new _,Ou F.entry_set_new ?_⟩));rw[Om F.plain_set_new _];unfold Pj.«set.__new__» Builtin.Frozenset.newClass;have hsub:=sub_set_self;obtain⟨hp,g,d,tk,os⟩:=s;dsimp only
 wp_walk
 refine QL (N2 ?_);dsimp only;simp only[newObj];refine N0 (wpAny_alloc (N2 (N2 q)))
end
section
variable{prog:N5}{w:N9}{A:Oi}{R:RL->N3->Prop}{I:VB}{fp wr:List VB}{G:Array P8->Array P8->Prop}{n:Nat}{Pt:Nat->VA->Prop}{St:Nat->N3->Prop}
theorem xC{m:VB->Prop}(W:WalksS prog w A.in1 I fp wr G n Pt St)(D:VB)(hD:D∉fp)(hDm:¬m D)(hwr:∀b∈wr,¬m b)(hu:A.units+1<Pf){h0:Oe}(val:Nat->List Int)(hv:∀i v,Pt i v->∃a,v=.ref a/\m a/\Op (intKind prog w) h0 (val i) a)(hb:n+1<307):∀(k i:Nat)(s:N3),n - i=k->i<=n->St i s->(∀b o,m b->h0.get? b=some o->s.heap.get? b=some o)->iR prog w m s.heap D (λx=>decide (x∈bT val i)) (bT val i).length->(∀s2,Moved (D::wr) G s s2->iR prog w m s2.heap D (λx=>decide (x∈bT val n)) (bT val n).length->R (.ok (.ret .none)) s2)->PQ (Od prog w) A (.builtin "set.update.loop" ⟨[.ref D,.ref I],[]⟩) R s:=by
 have nW:D∉wr:=λz=>hD (W.sub _ z);have up:∀b∈wr,b∈D::wr:=λb z=>R7 _ z;have mv:∀{s s2:N3}{S:List Int->Bool}{r:Nat},Moved wr G s s2->iR prog w m s.heap D S r->iR prog w m s2.heap D S r:=λhm x=>x.low (λo e=>hm.heap D _ nW e) λb o hb e=>hm.heap b _ (λz=>hwr b z hb) e;intro k
 induction k with
 |zero=>
  intro i s e1 e2 st kp hS hR;have e3:i=n:=by omega
  subst e3;refine Ou Pm ?_;rw[Om OO _];show N8 _ A.in1 (Ph (.ref I) >>= _) _ _ s;refine N0 (W.done s _ _ st λs2 hm=>?_);show N8 _ A.in1 (ret O8) _ _ s2;exact N2 (hR s2 (hm.mono up) (mv hm hS))
 |succ k ih=>
  intro i s e1 e2 st kp hS hR;have e3:i<n:=by omega
  refine Ou Pm ?_;rw[Om OO _];show N8 _ A.in1 (Ph (.ref I) >>= _) _ _ s;refine N0 (W.item i s _ _ e3 st λv s2 hp st2 hm=>?_);obtain⟨a,rfl,ha,ka⟩:=hv i v hp;have kp2:∀b o,m b->h0.get? b=some o->s2.heap.get? b=some o:=λb o hb e=>hm.heap b _ (λz=>hwr b z hb) (kp b o hb e);have ka2:Op (intKind prog w) s2.heap (val i) a:=let ⟨o,items,r,ho,rr⟩:=ka;⟨o,items,r,kp2 a o ha ho,rr⟩;have hS2:=mv hm hS;show N8 _ A.in1 (QU [.ref a] (setAdd D (.ref a)) >>= _) _ _ s2;refine N0 (On ?_);unfold setAdd;refine On (N0 (wpAny_pyHash_tuple hu ka2 ?_));have room:(bT val i).length+1<307:=by have:=jV val i;omega
  refine My (m:=m) (s:={s2 with toks:=s2.toks+((val i).length+1)}) ka2 ha hu hS2 room λh2 sb hS3=>?_;have hS4:iR prog w m h2 D (λx=>decide (x∈bT val (i+1))) (bT val (i+1)).length:=by
   refine hS3.congr (λx=>?_) ?_
   .show(decide (x∈bT val i)||decide (x=val i))=decide (x∈vA (bT val i) (val i))
    unfold vA
    by_cases m:val i∈bT val i
    .rw[NR m]
     by_cases e:x=val i
     .subst e;rw[C0 m];simp
     .rw[NP e,UK]
    .rw[NQ m,UF];simp
   .show(if decide (val i∈bT val i)=true then _ else _)=(vA (bT val i) (val i)).length;unfold vA
    by_cases m:val i∈bT val i
    .rw[NR (C0 m),NR m]
    .rw[NQ (by rw[NP m];decide),NQ m,R9];rfl
  refine N2 ⟨O5 OO _,ih (i+1) _ (by omega) e3 (W.frame _ s2 _ _ st2 (T7 _ _) λb hb o e=>?_) (λb o hb e=>?_) hS4 λs3 hm3 hS5=>?_⟩
  .exact(sb.2 b (λz:b=D=>hD (z▸hb))).trans e
  .exact(sb.2 b (λz:b=D=>hDm (z▸hb))).trans (kp2 b o hb e)
  .refine hR s3 (Moved.trans W.gtrans ((hm.mono up).then_heap (T7 _ _) λb o hb e=>?_) hm3) hS5;exact(sb.2 b (λz:b=D=>hb (by rw[z];exact R6))).trans e
end
section
variable{prog:N5}{w:N9}{A:Oi}{E:NY}{s:N3}
theorem xB(M:VB->Prop){l:VB}{its:Array VA}{Q:NY}(val:Nat->List Int)(hh:A.handled=none)(hl:s.heap.IsList l its)(hu:A.units+4<Pf)(hv:∀i v,its[i]? =some v->∃a,v=.ref a/\M a/\Op (intKind prog w) s.heap (val i) a)(hM:∀a,M a->a<s.heap.objs.size)(hb:its.size+1<307)(k:∀(h2:Oe)(tk:Nat),iR prog w M h2 s.heap.objs.size (λx=>decide (x∈bT val its.size)) (bT val its.size).length->(∀b o,b<s.heap.objs.size->s.heap.get? b=some o->h2.get? b=some o)->Q (.ref s.heap.objs.size) {s with heap:=h2,toks:=tk}):N8 (Od prog w) A (call (.type "set") [.ref l]) Q E s:=by
 obtain⟨c0,tl0,hmro⟩:=F.called_set.mro;have hmade:=F.called_set.made;have hsub:=F.called_set.sub;have n1:=F.called_set.notType;have n2:=F.called_set.canCreate;have n3:=F.typeCall_set_1 (.ref l);refine QR (Q0 ?_);show N8 _ _ (callAny (.type "set") _) _ _ _;refine N2 ⟨Code.quiet_builtin _ (by decide+kernel),Ou F.entry_type_call ?_⟩;rw[Around.under_plain (Q7 "set" [.ref l] []) rfl]
 repeat (any_goals (first|assumption|wp_step))
 refine OZ (xA (.ref l) (E:=E) (Q1:=λo s1=>o=.ref s.heap.objs.size/\s1={s with heap:=s.heap.push (cu (!w.params.followText "set-order"))}) ⟨rfl,rfl⟩) λr s1 hr=>?_;cases r with
 |error e=>exact hr
 |ok fl=>
  cases fl with
  |ret ob=>
   obtain⟨rfl,rfl⟩:=hr;generalize hld:(!w.params.followText "set-order")=led;have g0:(s.heap.push (cu led)).get? s.heap.objs.size=some (cu led):=N7 _ rfl;have ty:Qd {s with heap:=s.heap.push (cu led)} (.ref s.heap.objs.size) "set":=⟨_,g0,rfl⟩;have m1:=F.called_set.init.lookup;have m2:=F.called_set.init.bind (.ref s.heap.objs.size)
   repeat (any_goals (first|assumption|wp_step))
   refine OZ (Qe (R:=wants (λr s2=>r=.none/\∃h2 tk,s2={s with heap:=h2,toks:=tk}/\iR prog w M h2 s.heap.objs.size (λx=>decide (x∈bT val its.size)) (bT val its.size).length/\
     (∀b o,b<s.heap.objs.size->s.heap.get? b=some o->h2.get? b=some o)) E) F.called_set.init.plain F.entry_set_init (check_set_init_1 ty ?_)) λr2 s2 hr2=>?_
   .obtain⟨⟨oc,od,oda,osl⟩,ho,hc,nl,hd⟩:=hl;simp only at hc hd;subst hc;subst hd;have hol:(s.heap.push (cu led)).get? l=some {cls:=.type "list",dict:=od,data:=.seq its nl,slots:=osl}:=N1 _ ho;have b1:=F.sub_list_set;have b2:=F.sub_list_frozenset;have b3:(Qv "list" == Qv "dict")=false:=by decide
    have hl1:(s.heap.push (cu led)).IsList l its:=⟨_,hol,rfl,nl,rfl⟩;unfold Pj.«set.__init__» noKeywords Qk;generalize hPI:pyIter=PI
    wp_walk
    subst hPI;refine Pd hl1 (N0 (Qn ?_));have hlt:l<s.heap.objs.size:=N4 ho;have h3:A.in1.in1.in1.handled=none:=by simp[hh]
    have sz:(s.heap.push (cu led)).objs.size=s.heap.objs.size+1:=Os ..;have ne1:l≠(s.heap.push (cu led)).objs.size:=by rw[sz];exact TY (Ua hlt)
    have ne2:s.heap.objs.size∉[(s.heap.push (cu led)).objs.size,l]:=by
     rw[sz];intro z
     rcases RV.mp z with z|z
     .exact Ud _ z.symm
     .exact T4 hlt (R4.mp z)
    refine xC (m:=M) (h0:=s.heap) ((Rq h3 _ l ne1 its).toS) s.heap.objs.size ne2 (λz=>T5 _ (hM _ z)) (λb hb z=>by rw[R4.mp hb,sz]at z;exact NU (hM _ z) (Nat.not_lt.mpr (T3 _))) (by show A.units+1+1+1<Pf;omega) val (λi v hp=>?_) hb (its.size - 0) 0 _ (by omega) (TZ _) ⟨⟨_,N7 _ rfl,rfl,rfl⟩,(hl1.push _)⟩ (λb o _ e=>N1 _ (N1 _ e)) ?_ (λs3 hm hS3=>?_)
    .exact hv i v hp
    .refine⟨#[],0,.fresh 0 0 led,⟨_,N1 _ g0,⟨rfl,rfl,rfl⟩,rfl⟩,⟨λe he=>by simp at he,List.Pairwise.nil,tZ.fresh,by rw[hld];rfl,⟨.inl rfl,by show 0*5<7*3;decide⟩⟩,λx=>?_,rfl⟩;show decide (x∈([]:List (List Int)))=true<->_;simp
    .obtain⟨hh3,gg3,dd3,tk3,os3⟩:=s3;obtain rfl:gg3=s.gens:=hm.gens;obtain rfl:dd3=s.drawn:=hm.drawn;obtain rfl:os3=s.os:=hm.os;show N8 _ _ _ _ _ _;refine N2 ?_;show N8 _ _ (ret O8) _ _ _;refine N2 ⟨rfl,hh3,tk3,rfl,hS3,λb o hb2 e=>?_⟩;refine hm.heap b o ?_ (N1 _ (N1 _ e));rw[sz];intro z
     rcases RV.mp z with z|z
     .exact TY hb2 z
     .exact TY (Ua hb2) (R4.mp z)
   .cases r2 with
    |error e=>exact hr2
    |ok fl2=>
     cases fl2 with
     |ret r3=>
      obtain⟨rfl,h2,tk,rfl,hS2,kp⟩:=hr2
      repeat (any_goals (first|assumption|wp_step))
      exact k _ _ hS2 kp
     |_=>exact hr2.elim
  |_=>exact hr.elim
end
end L2
namespace L2
open PySem PySem.W PyProof.Rows
structure MA(n:Nat)(lt:Nat->Nat->Bool):Prop where
 tr:∀a b c,a<n->b<n->c<n->lt a b=true->lt b c=true->lt a c=true
 as:∀a b,a<n->b<n->lt a b=true->lt b a=false
 tt:∀a b,a<n->b<n->a≠b->lt a b=false->lt b a=true
abbrev gp(p:Array Nat)(i:Nat):Nat:=p.getD i 0
structure PR(n:Nat)(p:Array Nat):Prop where
 sz:p.size=n
 lo:∀i,i<n->gp p i<n
 nd:∀i j,i<n->j<n->gp p i=gp p j->i=j
theorem oA(p:Array Nat)(i:Nat):gp p i=(p[i]?).getD 0:=by unfold gp;simp[Array.getD_eq_getD_getElem?]
theorem PR.of{n:Nat}{p:Array Nat}(h:p.toList.Perm (List.range n)):PR n p:=by
 have hs:p.size=n:=by have:=h.length_eq;simpa using this
 have hn:p.toList.Nodup:=h.nodup_iff.mpr Tq;have at_:∀i(hi:i<n),gp p i=p.toList[i]'(by simpa[hs]using hi):=λi hi=>by
  have:i<p.size:=by omega
  simp[gp,this]
 refine⟨hs,λi hi=>?_,λi j hi hj e=>?_⟩
 .rw[at_ i hi];exact R8.mp (h.mem_iff.mp (Se _))
 .rw[at_ i hi,at_ j hj]at e;have hw:=S9.mp hn
  rcases Ue i j with z|z|z
  .exact NU e (hw i j _ _ z)
  .exact z
  .exact NU e.symm (hw j i _ _ z)
def Up(lt:Nat->Nat->Bool)(p:Array Nat)(k:Nat):Prop:= ∀i j,i<j->j<k->lt (gp p i) (gp p j)=true
def Dn(lt:Nat->Nat->Bool)(p:Array Nat)(k:Nat):Prop:= ∀i j,i<j->j<k->lt (gp p j) (gp p i)=true
section
variable{n:Nat}{lt:Nat->Nat->Bool}{s:N3}{cmp:Nat->Nat->(Bool->N3->Prop)->N3->Prop}(O:MA n lt)(hc:∀i j(C:Bool->N3->Prop),i<n->j<n->C (lt i j) s->cmp i j C s)
include O hc
theorem Bw{p:Array Nat}(P:PR n p):∀(f a:Nat){Q:Nat->N3->Prop},1<=a->a+f<=n->Up lt p a->(∀m,a<=m->m<=a+f->Up lt p m->(m=a+f\/lt (gp p m) (gp p (m - 1))=true)->Q m s)->(kas_asc p f a).kasWp cmp Q s
 |0,a,Q,_,_,u,q=>q a (TX _) (TX _) u (.inl rfl)
 |f+1,a,Q,h1,h2,u,q=>by
  refine hc _ _ _ (P.lo a (by omega)) (P.lo (a - 1) (by omega)) ?_;cases e:lt (p.getD a 0) (p.getD (a - 1) 0)with
  |true=>exact q a (TX _) (by omega) u (.inr e)
  |false=>
   refine Bw P f (a+1) (by omega) (by omega) ?_ λm m1 m2 m3 m4=>q m (by omega) (by omega) m3 (m4.imp (λz=>by omega) id);have e2:lt (gp p (a - 1)) (gp p a)=true:=O.tt _ _ (P.lo a (by omega)) (P.lo (a - 1) (by omega)) (λz=>by have:=P.nd a (a - 1) (by omega) (by omega) z;omega) e;intro i j hij hj
   by_cases ej:j=a
   .subst ej
    by_cases ei:i=j - 1
    .subst ei;exact e2
    .exact O.tr _ _ _ (P.lo i (by omega)) (P.lo (j - 1) (by omega)) (P.lo j (by omega)) (u i (j - 1) (by omega) (by omega)) e2
   .exact u i j hij (by omega)
theorem Bg{p:Array Nat}(P:PR n p):∀(f a:Nat){Q:Array Nat×Nat×Nat->N3->Prop},1<=a->a+f<=n->Dn lt p a->(∀m,a<=m->m<=a+f->Dn lt p m->Q (p,m,0) s)->(kas_desc f p a 0).kasWp cmp Q s
 |0,a,Q,_,_,u,q=>q a (TX _) (TX _) u
 |f+1,a,Q,h1,h2,u,q=>by
  refine hc _ _ _ (P.lo a (by omega)) (P.lo (a - 1) (by omega)) ?_;cases e:lt (p.getD a 0) (p.getD (a - 1) 0)with
  |true=>
   show(kas_desc f p (a+1) 0).kasWp cmp Q s;refine Bg P f (a+1) (by omega) (by omega) ?_ λm m1 m2 m3=>q m (by omega) (by omega) m3;intro i j hij hj
   by_cases ej:j=a
   .subst ej
    by_cases ei:i=j - 1
    .subst ei;exact e
    .exact O.tr _ _ _ (P.lo j (by omega)) (P.lo (j - 1) (by omega)) (P.lo i (by omega)) e (u i (j - 1) (by omega) (by omega))
   .exact u i j hij (by omega)
  |false=>
   have e2:lt (p.getD (a - 1) 0) (p.getD a 0)=true:=O.tt _ _ (P.lo a (by omega)) (P.lo (a - 1) (by omega)) (λz=>by have:=P.nd a (a - 1) (by omega) (by omega) z;omega) e;show KasT.kasWp cmp (KasT.ask _ _ _) Q s;refine hc _ _ _ (P.lo (a - 1) (by omega)) (P.lo a (by omega)) ?_;rw[e2];exact q a (TX _) (by omega) u
theorem pW{p:Array Nat}(P:PR n p){k:Nat}(hk:k<n)(u:Up lt p k):∀(f l r:Nat){Q:Nat->N3->Prop},l<=r->r<=k->r - l<=f->(∀i,i<l->lt (gp p i) (gp p k)=true)->(∀i,r<=i->i<k->lt (gp p k) (gp p i)=true)->(∀m,m<=k->(∀i,i<m->lt (gp p i) (gp p k)=true)->(∀i,m<=i->i<k->lt (gp p k) (gp p i)=true)->Q m s)->(RK p k f l r).kasWp cmp Q s
 |0,l,r,Q,h1,h2,h3,a,b,q=>by
  have:l=r:=by omega
  subst this;exact q l h2 a b
 |f+1,l,r,Q,h1,h2,h3,a,b,q=>by
  unfold RK
  by_cases hlr:l≥r
  .rw[NR hlr];have:l=r:=by omega
   subst this;exact q l h2 a b
  .rw[NQ hlr];refine hc _ _ _ (P.lo k hk) (P.lo ((l+r) / 2) (by omega)) ?_;cases e:lt (p.getD k 0) (p.getD ((l+r) / 2) 0)with
   |true=>
    show(RK p k f l ((l+r) / 2)).kasWp cmp Q s;refine pW P hk u f l ((l+r) / 2) (by omega) (by omega) (by omega) a (λi i1 i2=>?_) q
    by_cases ei:i=(l+r) / 2
    .subst ei;exact e
    .exact O.tr _ _ _ (P.lo k hk) (P.lo ((l+r) / 2) (by omega)) (P.lo i (by omega)) e (u _ _ (by omega) i2)
   |false=>
    show(RK p k f ((l+r) / 2+1) r).kasWp cmp Q s;have e2:lt (gp p ((l+r) / 2)) (gp p k)=true:=O.tt _ _ (P.lo k hk) (P.lo ((l+r) / 2) (by omega)) (λz=>by have:=P.nd k ((l+r) / 2) hk (by omega) z;omega) e;refine pW P hk u f ((l+r) / 2+1) r (by omega) h2 (by omega) (λi i1=>?_) b q
    by_cases ei:i=(l+r) / 2
    .subst ei;exact e2
    .exact O.tr _ _ _ (P.lo i (by omega)) (P.lo ((l+r) / 2) (by omega)) (P.lo k hk) (u _ _ (by omega) (by omega)) e2
omit O hc in
theorem Ai{p q:Array Nat}{n:Nat}(h:p.toList.Perm (List.range n))(e:q.Perm p):q.toList.Perm (List.range n):=(Array.perm_iff_toList_perm.mp e).trans h
theorem G4:∀(f k:Nat)(p:Array Nat){Q:Array Nat->N3->Prop},p.toList.Perm (List.range n)->1<=k->k+f=n->Up lt p k->(∀p',p'.toList.Perm (List.range n)->Up lt p' n->Q p' s)->(kas_bin f p k).kasWp cmp Q s
 |0,k,p,Q,hp,h1,h2,u,q=>q p hp (by rw[<-h2];exact u)
 |f+1,k,p,Q,hp,h1,h2,u,q=>by
  have P:=PR.of hp;unfold kas_bin;rw[PU];refine pW O hc P (by omega) u k 0 k (TZ _) (TX _) (by omega) (λi z=>NU z (Nat.not_lt_zero _)) (λi z1 z2=>by omega) λm hm a b=>?_;refine G4 f (k+1) _ (Ai hp (bubble_perm _ _ _)) (by omega) (by omega) ?_ q;have ge:∀i,gp (bubble p k (k - m)) i=if i=m then gp p k else if m<i/\i<=k then gp p (i - 1)else gp p i:=λi=>by
   rw[oA,getElem?_bubble (by rw[P.sz];omega) (k - m) (by omega) i,show k - (k - m)=m by omega];split
   .rw[oA]
   .split<;>rw[oA]
  intro i j hij hj;rw[ge,ge]
  by_cases e1:i=m
  .rw[NR e1]
   by_cases e2:j=m
   .omega
   .rw[NQ e2,NR (by omega)];exact b (j - 1) (by omega) (by omega)
  .rw[NQ e1]
   by_cases e2:j=m
   .rw[NR e2,NQ (by omega)];exact a i (by omega)
   .rw[NQ e2]
    by_cases e3:m<i/\i<=k
    .rw[NR e3,NR (by omega)];exact u (i - 1) (j - 1) (by omega) (by omega)
    .rw[NQ e3]
     by_cases e4:m<j/\j<=k
     .rw[NR e4];exact u i (j - 1) (by omega) (by omega)
     .rw[NQ e4];exact u i j hij (by omega)
theorem IP{p:Array Nat}(hp:p.toList.Perm (List.range n)){Q:Nat×Array Nat->N3->Prop}(h2:2<=n)(hd:lt (gp p 1) (gp p 0)=true)(q:∀m p',p'.toList.Perm (List.range n)->1<=m->m<=n->Up lt p' m->Q (m,p') s):(kas_descPart 1 n p).kasWp cmp Q s:=by
 have P:=PR.of hp;unfold kas_descPart;rw[PU];refine Bg O hc P (n - (1+1)) (1+1) (by omega) (by omega) (λi j hij hj=>?_) λm m1 m2 m3=>?_
 .have e1:i=0:=by omega
  have e2:j=1:=by omega
  subst e1;subst e2;exact hd
 .show(kas_tail3 m n p).kasWp cmp Q s;unfold kas_tail3;rw[PU];have hp2:(kas_rev p 0 m).toList.Perm (List.range n):=Ai hp (mirror_perm _ _ _ _);have ge:∀i,gp (kas_rev p 0 m) i=if i<m then gp p (m - 1 - i)else gp p i:=λi=>by
   unfold kas_rev;rw[oA,getElem?_mirror_all (by rw[P.sz];omega)]
   by_cases e:i<m
   .rw[NR ⟨TZ _,e⟩,NR e,oA,T8]
   .rw[NQ (λz=>e z.2),NQ e,oA]
  refine Bw O hc (PR.of hp2) (n - m) m (by omega) (by omega) (λi j hij hj=>?_) λr r1 r2 r3 _=>q r _ hp2 (by omega) (by omega) r3;rw[ge,ge,NR (by omega),NR hj];exact m3 _ _ (by omega) (by omega)
theorem Hw{Q:Array Nat->N3->Prop}(h2:2<=n)(q:∀p,p.toList.Perm (List.range n)->Up lt p n->Q p s):(kas_sort n).kasWp cmp Q s:=by
 have hp:(List.toArray (List.range n)).toList.Perm (List.range n):=List.Perm.refl _;have P:=PR.of hp;unfold kas_sort kas_count;rw[PU,PU];have fin:∀m p',p'.toList.Perm (List.range n)->1<=m->m<=n->Up lt p' m->KasT.kasWp cmp (if m<n then kas_bin (n - max m 1) p' (max m 1)else KasT.ret p') Q s:=λm p' hp' m1 m2 u=>by
  by_cases e:m<n
  .rw[NR e,show max m 1=m by omega];exact G4 O hc (n - m) m p' hp' m1 (by omega) u q
  .rw[NQ e];have:m=n:=by omega
   subst this;exact q p' hp' u
 refine Bw O hc P (n - 1) 1 (TX _) (by omega) (λi j hij hj=>by omega) λm m1 m2 m3 m4=>?_
 by_cases e:m=n
 .rw[NR (by simp[e])];exact fin m _ hp m1 (by omega) m3
 .rw[NQ (by simp[e])]
  by_cases e1:m > 1
  .rw[NR e1];refine hc _ _ _ (P.lo 0 (by omega)) (P.lo (m - 1) (by omega)) ?_;have:lt ((List.toArray (List.range n)).getD 0 0) ((List.toArray (List.range n)).getD (m - 1) 0)=true:=m3 0 (m - 1) (by omega) (by omega);rw[this];exact fin m _ hp m1 (by omega) m3
  .rw[NQ e1];have:m=1:=by omega
   subst this;refine IP O hc hp h2 (by rcases m4 with z|z;exact NU z (by omega);exact z) λm p' a b c d=>fin m p' a b c d
end
end L2
namespace L2
open PySem PySem.W PySem.Calls PyProof.Rows
def eW:List Int->List Int->Bool
 | [],[]=>false
 | [],_::_=>true
 |_::_,[]=>false
 |a::x,b::y=>if a=b then eW x y else decide (a<b)
theorem jW:∀x,eW x x=false
 | []=>rfl
 |a::x=>by unfold eW;rw[NR rfl];exact jW x
theorem wB:∀x y,x≠y->eW x y=false->eW y x=true
 | [],[],h,_=>NU rfl h
 | [],_::_,_,e=>by cases e
 |_::_,[],_,_=>rfl
 |a::x,b::y,h,e=>by
  unfold eW at e ⊢
  by_cases ab:a=b
  .subst ab;rw[NR rfl]at e ⊢;exact wB x y (λz=>h (by rw[z])) e
  .rw[NQ ab]at e;rw[NQ (Ne.symm ab)];have:=NT e;exact C0 (by omega)
theorem qx:∀x y,eW x y=true->eW y x=false
 | [],[],e=>by cases e
 | [],_::_,_=>rfl
 |_::_,[],e=>by cases e
 |a::x,b::y,e=>by
  unfold eW at e ⊢
  by_cases ab:a=b
  .subst ab;rw[NR rfl]at e ⊢;exact qx x y e
  .rw[NQ ab]at e;rw[NQ (Ne.symm ab)];have:=NS e;exact NP (by omega)
theorem wC:∀x y z,eW x y=true->eW y z=true->eW x z=true
 | [],[],_,e,_=>by cases e
 | [],_::_,[],_,e=>by cases e
 | [],_::_,_::_,_,_=>rfl
 |_::_,[],_,e,_=>by cases e
 |_::_,_::_,[],_,e=>by cases e
 |a::x,b::y,c::z,e,f=>by
  unfold eW at e f ⊢
  by_cases ab:a=b
  .subst ab;rw[NR rfl]at e
   by_cases ac:a=c
   .subst ac;rw[NR rfl]at f ⊢;exact wC x y z e f
   .rw[NQ ac]at f ⊢;exact f
  .rw[NQ ab]at e;have e:=NS e
   by_cases bc:b=c
   .subst bc;rw[NQ ab];exact C0 e
   .rw[NQ bc]at f;have f:=NS f;rw[NQ (by omega)];exact C0 (by omega)
section
variable{prog:N5}{w:N9}{A:Oi}{E:NY}{s:N3}
theorem GL{fin:Bool}{Q:Bool->N3->Prop}:∀(x y:List Int)(us vs:List VA)(i:Nat),ItemsAre (intKind prog w) x us->ItemsAre (intKind prog w) y vs->(x.length<y.length<->fin=true)->Q (eW x y) s->KatLex prog w A true fin Q (us.zip vs) i s
 | [],[],_,_,i,.nil,.nil,hf,q=>by
   refine kat_nil ?_;have:fin=false:=by cases fin with|false=>rfl|true=>exact NU (hf.mpr rfl) (by simp)
   rw[this];exact q
 | [],_::_,_,_,i,.nil,.cons _ _,hf,q=>by refine kat_nil ?_;rw[hf.mp (by simp)];exact q
 |_::_,[],_,_,i,.cons _ _,.nil,hf,q=>by
  show KatLex prog w A true fin Q [] i s;refine kat_nil ?_;have:fin=false:=by cases fin with|false=>rfl|true=>exact NU (hf.mpr rfl) (by simp)
  rw[this];exact q
 |a::x,b::y,u::us,v::vs,i,.cons h1 t1,.cons h2 t2,hf,q=>by
  obtain⟨t,rfl⟩:∃t,u=.int a t:=by cases u<;>simp[intKind,QA]at h1;exact⟨_,by rw[h1]⟩
  obtain⟨t',rfl⟩:∃t',v=.int b t':=by cases v<;>simp[intKind,QA]at h2;exact⟨_,by rw[h2]⟩
  show KatLex prog w A true fin Q ((PH a t,PH b t')::us.zip vs) i s;refine kat_cons (wpAny_eqBool_int ?_);unfold eW at q
  by_cases ab:a=b
  .subst ab;rw[NR rfl]at q;rw[show(a == a)=true by simp];exact kat_yes (GL x y us vs (i+1) t1 t2 (by simpa using hf) q)
  .rw[NQ ab]at q;rw[show(a == b)=false by simp[ab]];refine kat_no ?_
   by_cases hi:i=0
   .subst hi;exact oneLt_int q
   .have:(true&&i == 0)=false:=by simp[hi]
    rw[this];exact kat_one _ _ (PyProof.Rows.lt_int q)
theorem LQ{x y:VB}{kx ky:List Int}{Q:Bool->N3->Prop}(hx:Op (intKind prog w) s.heap kx x)(hy:Op (intKind prog w) s.heap ky y)(q:Q (eW kx ky) s):N8 (Od prog w) A (keyLt' (tuples' true) (.ref x) (.ref y)) Q E s:=by obtain⟨ox,xs,n,h1,_,h2,h3⟩:=hx;obtain⟨oy,ys,k,h4,_,h5,h6⟩:=hy;refine kat_lt h1 h2 h4 h5 (GL kx ky _ _ 0 h3 h6 ?_ q);rw[h3.length,h6.length];simp
theorem ve{B:Oe}{L a:VB}{m:NX}{vs:List VA}{ks:List (List Int)}{n:Nat}{P:PySem.Fin->N3->Prop}(F:Fr B L s.heap m)(ho:s.heap.get? a=some (Pl "list" vs.toArray n))(haL:a≠L)(ha0:B.get? a=none)(hl:ks.length=vs.length)(hv:∀i,i<vs.length->∃x,vs.getD i .none=.ref x/\x≠L/\x≠a/\Op (intKind prog w) s.heap (ks.getD i []) x/\ks.getD i []≠[])(nd:ks.Nodup)(h2:2<=vs.length)(h64:vs.length<64)(h:∀(p:Array Nat)(h':Oe)(c:Nat),p.toList.Perm (List.range vs.length)->(∀i j,i<j->j<vs.length->eW (ks.getD (gp p i) []) (ks.getD (gp p j) [])=true)->Fr B L h' m->(∀b o,b≠L->b≠a->s.heap.get? b=some o->h'.get? b=some o)->
   h'.get? a=some (Pl "list" (p.toList.map λi=>vs.getD i .none).toArray c)->P (.done (.ret .none)) {s with heap:=h'}):N8 (Od prog w) A (Pj.«list.sort» ⟨[.ref a],[]⟩) P E s:=by
 have N:News B L s.heap (rest B s.heap L a):=λp hp=>Cu haL ha0 ho p (R7 _ hp);refine kat_list_sort F N ho haL ha0 rest_ne h2 h64 λe1 h' F' N'=>?_;have kp:∀b o,b≠L->b≠a->s.heap.get? b=some o->h'.get? b=some o:=jX F.keep F' λp hp=>N' p (R7 _ hp);have key:∀i,i<vs.length->∃x,vs.getD i .none=.ref x/\Op (intKind prog w) h' (ks.getD i []) x/\ks.getD i []≠[]:=λi hi=>by obtain⟨x,e1,e2,e3,⟨o,items,r,e4,e5⟩,e6⟩:=hv i hi;exact⟨x,e1,⟨o,items,r,kp x o e2 e3 e4,e5⟩,e6⟩
 have hkk:∀i j,i<vs.length->j<vs.length->ks.getD i []=ks.getD j []->i=j:=λi j hi hj e=>by rw[RY,RY,RU (by omega),RU (by omega)]at e;exact(Tc nd).mp (by simpa using e)
 have O:MA vs.length λi j=>eW (ks.getD i []) (ks.getD j []):=⟨λx y z _ _ _ h1 h2=>wC _ _ _ h1 h2,λx y _ _ h1=>qx _ _ h1,λx y hx hy ne h1=>wB _ _ (λe=>ne (hkk x y hx hy e)) h1⟩;obtain⟨fs,tp,fl,fi⟩:∃fs,KatTups h' vs fs/\fs.length=vs.length/\∀f∈fs,∃n t,f=PH n t:=by
  have go:∀(us:List VA)(f:Nat->List Int),(∀i,i<us.length->∃x,us.getD i .none=.ref x/\Op (intKind prog w) h' (f i) x/\f i≠[])->∃fs,KatTups h' us fs/\fs.length=us.length/\∀f∈fs,∃n t,f=PH n t:=by
   intro us
   induction us with
   |nil=>exact λf _=>⟨[],.nil,rfl,λf z=>nomatch z⟩
   |cons u us ih=>
    intro f hf;obtain⟨fs,t1,t2,t3⟩:=ih (λi=>f (i+1)) λi hi=>hf (i+1) (by simpa using hi);obtain⟨x,e1,⟨o,items,r,e4,e5,e6,e7⟩,e8⟩:=hf 0 (by simp);have e1:u=.ref x:=e1;subst e1;generalize f 0=kk at e7 e8;generalize hit:items.toList=its at e7;cases e7 with
    |nil=>exact NU rfl e8
    | @cons k v ks' vs' h1 h2=>
      obtain⟨t,rfl⟩:∃t,v=.int k t:=by cases v<;>simp[intKind,QA]at h1;exact⟨_,by rw[h1]⟩
      refine⟨.int k t::fs,KatTups.cons e4 e5 e6 ?_ t1,by simp[t2],λf z=>?_⟩
      .rw[<-UR,hit];rfl
      .rcases RV.mp z with rfl|z
       .exact⟨k,t,rfl⟩
       .exact t3 f z
  exact go vs (λi=>ks.getD i []) key
 refine kat_kind (T:=.type "int") tp (by omega) (λf hf=>?_) (by decide) ?_
 .obtain⟨k,t,rfl⟩:=fi f hf;exact Looks.of_pure rfl
 .show(kas_sort vs.length).kasWp (kas_ask prog w A (tuples' true) vs) _ _;refine Hw O (λi j C hi hj hC=>?_) h2 λp hp up=>?_
  .obtain⟨x,e1,kx,_⟩:=key i hi;obtain⟨y,e2,ky,_⟩:=key j hj;unfold kas_ask;rw[e1,e2];exact LQ (s:={s with heap:=h'}) kx ky hC
  .refine KasFin.intro F' N' (UpdF.head rest_ne) λh'' c F'' N''=>?_;exact h p h'' c hp up F'' (jX F.keep F'' λq hq=>N'' q (R7 _ hq)) (N'' _ (.head _)).1
end
end L2
namespace L2
open PySem PySem.Spec PyProof.Rows
section
variable{X:Cx}
theorem xp{vs:List VA}{ss:List Str}(h:RN vs ss):aX (ss.map V.str) vs:=by
 induction h with
 |nil=>exact .nil
 |cons y t h ih=>exact .cons ⟨t,rfl⟩ ih
end
end L2
namespace L2
open PySem PySem.W PySem.Calls PySem.Spec PyProof.Rows
theorem wv{α β:Type}[DecidableEq α](f:α->β):∀{vs:List β}{l:List α},vs.Perm (l.map f)->∃l':List α,l'.Perm l/\vs=l'.map f
 | [],l,h=>by
   have:l=[]:=by have:=h.length_eq;simpa using this.symm
   subst this;exact⟨[],List.Perm.refl _,rfl⟩
 |v::vs,l,h=>by obtain⟨x,hx,rfl⟩:=RW.mp (h.mem_iff.mp R6);have hp:=TR hx;have h2:vs.Perm ((l.erase x).map f):=(h.trans (hp.map f)).cons_inv;obtain⟨l',p1,rfl⟩:=wv f h2;exact⟨x::l',(List.Perm.cons x p1).trans hp.symm,rfl⟩
theorem Ce{α:Type}(d:α){l:List α}{p:List Nat}(h:p.Perm (List.range l.length)):(p.map λi=>l.getD i d).Perm l:=by
 refine(h.map _).trans (List.Perm.of_eq ?_);apply SD;intro i;rw[RX]
 by_cases hi:i<l.length
 .rw[SE hi,RU hi];simp[RY,hi]
 .rw[Sn (by simpa using hi),Sn (by omega)];rfl
section
variable{prog:N5}{w:N9}{A:Oi}{E:NY}{s:N3}
theorem nI{a:VB}{vs:List VA}{n:Nat}{P:PySem.Fin->N3->Prop}(ho:s.heap.get? a=some (Pl "list" vs.toArray n))(h1:vs.length<2)(h:P (.done (.ret .none)) {s with heap:=sortedHeap s.heap a vs vs.toArray}):N8 (Od prog w) A (Pj.«list.sort» ⟨[.ref a],[]⟩) P E s:=by
 obtain⟨e1,g1⟩:∃e1,(s.heap.update a (OU λ_=> #[])).get? a=some (Pl "list" #[] e1):=⟨_,get?_update_seq ho (λ_=> #[])⟩;have lt:a<s.heap.objs.size:=N4 ho;have g2:(((s.heap.update a (OU λ_=> #[])).push (Pl "tuple" vs.toArray 0)).push (Pl "list" #[] 0)).get? a=some (Pl "list" #[] e1):=N1 _ (N1 _ g1);have few:vs.toArray.size<2:=by rw[RZ];exact h1
 have zz:(vs.toArray.zip vs.toArray).map (·.2)=vs.toArray:=by apply UV.mp;simp;exact List.map_snd_zip (TX _)
 have sm:vs.toArray.size<=v1:=by rw[Oc];omega
 rw[list_sort_plain];refine N0 (listItems_at ho rfl (N0 (listUpdate_at ho rfl (N0 (seqEpoch_at g1 rfl (N0 (wpAny_newTuple (N0 (wpAny_newList (On ?_))))))))));dsimp only;rw[NR few,NR few];refine N0 (N2 ?_);rw[StateT.run_pure];refine N0 (N2 ?_);dsimp only;refine N0 (seqEpoch_at g2 rfl (N0 (listUpdate_at g2 rfl ?_ (hsz2:=?_))))
 .simp only[bne_self_eq_false,UE,if_false];refine N2 ?_;rw[show Array.map (λx=>x.snd) (arrOf (SortSt.mk' general' (vs.toArray.zip vs.toArray) #[] 7 none))=vs.toArray from zz];exact h
 .rw[show Array.map (λx=>x.snd) (arrOf (SortSt.mk' general' (vs.toArray.zip vs.toArray) #[] 7 none))=vs.toArray from zz];omega
structure Dl(prog:N5)(w:N9)(h:Oe)(L:VB)(ps:List (List Int×VB)):Prop where
 at_:∀p∈ps,p.2≠L/\p.1≠[]/\Op (intKind prog w) h p.1 p.2
 nd:(ps.map (·.1)).Nodup
theorem Dl.perm{h:Oe}{L:VB}{ps ps':List (List Int×VB)}(x:Dl prog w h L ps)(p:ps'.Perm ps):Dl prog w h L ps':=⟨λq hq=>x.at_ q (p.mem_iff.mp hq),(p.map _).nodup_iff.mpr x.nd⟩
theorem Dl.keep{h h':Oe}{L:VB}{ps:List (List Int×VB)}(x:Dl prog w h L ps)(k:∀b o,b≠L->h.get? b=some o->h'.get? b=some o):Dl prog w h' L ps:=⟨λq hq=>let ⟨a,b,o,its,r,e,rr⟩:=x.at_ q hq;⟨a,b,o,its,r,k _ o a e,rr⟩,x.nd⟩
theorem yb{B:Oe}{L:VB}{m:NX}{ps:List (List Int×VB)}{Q:NY}(F:Fr B L s.heap m)(T:Dl prog w s.heap L ps)(h64:ps.length<64)(q:∀(ps':List (List Int×VB))(h':Oe)(c:Nat),ps'.Perm ps->ps'.Pairwise (λx y=>eW x.1 y.1=true)->Fr B L h' m->(∀b o,b≠L->s.heap.get? b=some o->h'.get? b=some o)->
   h'.get? s.heap.objs.size=some (Pl "list" (ps'.map λz=>Of z.2).toArray c)->Q .none {s with heap:=h'}):N8 (Od prog w) A (Pj.«list.sort» ⟨[.ref s.heap.objs.size],[]⟩) (λr s'=>r=.done (.ret .none)/\Q .none s') E {s with heap:=s.heap.push (Pl "list" (ps.map λz=>Of z.2).toArray 0)}:=by
 have hL:L<s.heap.objs.size:=F.ns.lt;have gL:(s.heap.push (Pl "list" (ps.map λz=>Of z.2).toArray 0)).get? s.heap.objs.size=some (Pl "list" (ps.map λz=>Of z.2).toArray 0):=N7 _ rfl;have kp:∀b o,s.heap.get? b=some o->(s.heap.push (Pl "list" (ps.map λz=>Of z.2).toArray 0)).get? b=some o:=λb o e=>N1 _ e;have F1:Fr B L (s.heap.push (Pl "list" (ps.map λz=>Of z.2).toArray 0)) m:=F.kept kp;have hlen:(ps.map λz=>Of z.2).length=ps.length:=RT ..
 by_cases h2:2<=ps.length
 .have hat:∀i(hi:i<ps.length),(ps.map λz=>Of z.2).getD i .none=.ref (ps.getD i ([],0)).2/\(ps.map (·.1)).getD i []=(ps.getD i ([],0)).1/\ps.getD i ([],0)∈ps:=λi hi=>by simp[RY,RU hi]
  refine ve (ks:=ps.map (·.1)) F1 gL (T4 hL) (Qf (T0 F.above (Ub hL))) (by simp) (λi hi=>?_) T.nd (by rw[hlen];exact h2) (by rw[hlen];exact h64) λp h' c hp up F' k' ga=>?_
  .rw[hlen]at hi;obtain⟨e1,e2,e3⟩:=hat i hi;obtain⟨a1,a2,o,its,r,e,rr⟩:=T.at_ _ e3;exact⟨_,e1,a1,TY (N4 e),by rw[e2];exact⟨o,its,r,kp _ _ e,rr⟩,by rw[e2];exact a2⟩
  .rw[hlen]at hp up;have P:=PR.of hp;refine⟨rfl,q (p.toList.map λi=>ps.getD i ([],0)) h' c (Ce _ hp) ?_ F' (λb o n e=>k' b o n (TY (N4 e)) (kp b o e)) ?_⟩
   .rw[Sv,S9];intro i j hi hj hij;have hi2:i<ps.length:=by rw[<-P.sz];simpa using hi
    have hj2:j<ps.length:=by rw[<-P.sz];simpa using hj
    have z:=up i j hij hj2;have gi:gp p i=p.toList[i]:=by
     have:i<p.size:=by rw[P.sz];exact hi2
     simp[gp,this]
    have gj:gp p j=p.toList[j]:=by
     have:j<p.size:=by rw[P.sz];exact hj2
     simp[gp,this]
    rw[gi,gj]at z;rw[<-(hat _ (by rw[<-gi];exact P.lo i hi2)).2.1,<-(hat _ (by rw[<-gj];exact P.lo j hj2)).2.1];exact z
   .rw[ga,R5];congr 3;refine Sq λi hi=>?_;exact(hat i (R8.mp (hp.mem_iff.mp hi))).1
 .refine nI gL (by rw[hlen];omega) ?_;obtain⟨e,he⟩:=sortedHeap_at (out:=(ps.map λz=>Of z.2).toArray) gL;have k2:∀b o,s.heap.get? b=some o->(sortedHeap (s.heap.push (Pl "list" (ps.map λz=>Of z.2).toArray 0)) s.heap.objs.size (ps.map λz=>Of z.2) (ps.map λz=>Of z.2).toArray).get? b=some o:=λb o e=>by rw[sortedHeap_old (TY (N4 e)) (by rw[Os];exact Ua (N4 e))];exact kp b o e
  refine⟨rfl,q ps _ e (List.Perm.refl _) ?_ (F.kept k2) (λb o _ e=>k2 b o e) he⟩
  match ps,h2 with
  | [],_=>exact List.Pairwise.nil
  | [_],_=>exact Tu ..
  |_::_::_,h=>exact NU (by simp) h
end
section
variable{prog:N5}{w:N9}{A:Oi}{E:NY}{s:N3}
def tS(prog:N5)(w:N9)(h:Oe)(D:VB)(ps:List (List Int×VB)):Prop:= ∃es ep t,dR h D es ep t/\es.toList.Perm (ps.map λp=>(tupleKeyHash (intKind prog w) p.1,Of p.2))/\SG (!w.params.followText "set-order") es.size t
theorem tS.keep{h h':Oe}{D:VB}{ps:List (List Int×VB)}(x:tS prog w h D ps)(k:∀o,h.get? D=some o->h'.get? D=some o):tS prog w h' D ps:=let ⟨es,ep,t,h1,r⟩:=x;⟨es,ep,t,h1.keep k,r⟩
theorem Bc{M:VB->Prop}{h:Oe}:∀{l:List (Int×VA)},(∀e∈l,∃k,El prog w M h k e)->∃ps:List (List Int×VB),l=ps.map (λp=>(tupleKeyHash (intKind prog w) p.1,Of p.2))/\∀p∈ps,M p.2/\Op (intKind prog w) h p.1 p.2
 | [],_=>⟨[],rfl,λ_ z=>nomatch z⟩
 |e::l,hl=>by obtain⟨ps,rfl,h1⟩:=Bc λe' he=>hl e' (R7 _ he);obtain⟨k,a,h2,rfl,h3⟩:=hl e R6;exact⟨(k,a)::ps,rfl,λp hp=>(RV.mp hp).elim (λz=>z▸⟨h2,h3⟩) (h1 p)⟩
theorem iR.toP{M:VB->Prop}{h:Oe}{D:VB}{S:List Int->Bool}{n:Nat}(x:iR prog w M h D S n):∃ps:List (List Int×VB),tS prog w h D ps/\(∀p∈ps,M p.2/\Op (intKind prog w) h p.1 p.2)/\(ps.map (·.1)).Nodup/\(∀k,S k=true<->k∈ps.map (·.1))/\ps.length=n:=by
 obtain⟨es,ep,t,o1,st,hm,hz⟩:=x;obtain⟨ps,e,h1⟩:=Bc st.el;refine⟨ps,⟨es,ep,t,o1,List.Perm.of_eq e,st.tg.fits,st.led,st.tg.ris⟩,h1,?_,λk=>?_,?_⟩
 .have z:=st.nd;rw[e,Sv]at z;rw[SL,Sv];refine z.imp_of_mem ?_;intro p p' hp hp' q e2;exact q p.1 ⟨p.2,(h1 p hp).1,rfl,(h1 p hp).2⟩ ⟨p'.2,(h1 p' hp').1,by rw[e2],by rw[e2];exact(h1 p' hp').2⟩
 .rw[hm k,e,RW]
  constructor
  .rintro⟨e',he,z⟩;obtain⟨p,hp,rfl⟩:=RW.mp he;exact⟨p,hp,(El.inj (m:=M) ⟨p.2,(h1 p hp).1,rfl,(h1 p hp).2⟩ z)⟩
  .rintro⟨p,hp,rfl⟩;exact⟨_,RW.mpr ⟨p,hp,rfl⟩,p.2,(h1 p hp).1,rfl,(h1 p hp).2⟩
 .have:=NW List.length e;rw[RT,UT]at this;omega
theorem rF{B:Oe}{L:VB}{m:NX}{D:VB}{ps:List (List Int×VB)}{Q:NY}(F:Fr B L s.heap m)(hh:A.handled=none)(hS:tS prog w s.heap D ps)(T:Dl prog w s.heap L ps)(h64:ps.length<64)(q:∀(ps':List (List Int×VB))(h':Oe)(p:VB)(e:Nat) d tk,ps'.Perm ps->ps'.Pairwise (λx y=>eW x.1 y.1=true)->Fr B L h' m->(∀b o,b≠L->s.heap.get? b=some o->h'.get? b=some o)->s.heap.objs.size<=p->h'.get? p=some (Pl "list" (ps'.map λz=>Of z.2).toArray e)->s.toks<=tk->Q (.ref p) {s with heap:=h',drawn:=d,toks:=tk}):N8 (Od prog w) A (call (.builtin "sorted") [.ref D]) Q E s:=by
 obtain⟨es,ep,t,o1,hp,g⟩:=hS;have hz:es.size=ps.length:=by have:=hp.length_eq;simpa using this
 refine Calls.call_function_entry kind_sorted plain_sorted entry_sorted (args_sorted1 _) ?_;unfold Pj.«sorted»;refine N0 (m:=checkCount "sorted" 1 1 _) (N2 ?_);refine N0 (tD (by exact hh) o1 g (by rw[Oc];omega) λvs h1 d1 tk1 hv k1 hsz ht1=>?_);obtain⟨ps1,p1,rfl⟩:=wv (λp:List Int×VB=>Of p.2) (hv.trans (by
  have z:=hp.map (·.2);rw[R5]at z;exact z))
 refine N0 (wpAny_newList ?_ (by rw[RT,p1.length_eq,Oc];omega));have gL:(h1.push (Pl "list" (ps1.map λz=>Of z.2).toArray 0)).get? h1.objs.size=some (Pl "list" (ps1.map λz=>Of z.2).toArray 0):=N7 _ rfl;refine N0 (On (Oz slot_list_sort ⟨_,gL,rfl⟩ entry_list_sort (O6 (yb (s:={s with heap:=h1,drawn:=d1,toks:=tk1}) (Q:=λ_ s'=>N8 (Od prog w) A.in1 (ret (.ref h1.objs.size)) (λr s''=>∃v,r=.done (.ret v)/\Q v s'') E s') (F.kept k1) ((T.perm p1).keep λb o _ e=>k1 b o e) (by rw[p1.length_eq];exact h64) λps' h' c hp' pw F' k' ga=>?_) (λr s' z=>⟨_,z.1,z.2⟩) λ_ _ z=>z) (args_list_sort _)));exact N2 ⟨_,rfl,q ps' h' _ c _ _ (hp'.trans p1) pw F' (λb o n e=>k' b o n (k1 b o e)) (Ub hsz) ga ht1⟩
end
theorem bD.hereS{P:N5}{w:N9}{H:Hp}{h:Oe}{a:VB}{o:HO}(x:bD P w H h a o):∃u,h.get? a=some u:=by
 cases o with
 |lst xs=>obtain⟨_,_,_,_,e⟩:=x;exact⟨_,e⟩
 |tup xs=>obtain⟨_,_,_,o,e,_⟩:=x;exact⟨_,e⟩
 |dK kvs=>obtain⟨_,_,_,_,o,_,_,e,_⟩:=x;exact⟨_,e⟩
 |dT kvs=>obtain⟨_,_,_,_,o,_,_,e,_⟩:=x;exact⟨_,e⟩
 |set S n=>obtain⟨o,_,_,_,e,_⟩:=x;exact⟨_,e⟩
 |ins C dx fs=>obtain⟨_,_,_,e,_⟩:=x;exact⟨_,e⟩
 |own y=>obtain⟨_,e⟩:=x;exact⟨_,e⟩
 |xd fs=>obtain⟨_,⟨_,_,_,e,_⟩,_⟩:=x;exact⟨_,e⟩
 |rng lo hi=>obtain⟨_,_,_,e⟩:=x;exact⟨_,e⟩
 |frz ob u=>obtain⟨e,_⟩:=x;exact⟨_,e⟩
 |tbl ps=>exact⟨_,(show h.get? a=some _ from x)⟩
 |met f y=>exact⟨_,(show h.get? a=some _ from x)⟩
 |ext φ=>obtain⟨_,⟨_,e⟩,_⟩:=x;exact⟨_,e⟩
section
variable{X:Cx}
theorem nN:∀(ps:List (List Int×VB)),aX (ps.map λz=>V.ref z.2) (ps.map λz=>Of z.2)
 | []=>.nil
 |p::ps=>.cons rfl (nN ps)
theorem sV{P:N5}{w:N9}:∀{k:List Int}{us:List VA},aX (k.map V.int) us->ItemsAre (intKind P w) k us
 | [],_,.nil=>.nil
 |n::k,_,.cons r t=>by obtain⟨tk,rfl⟩:=r;exact .cons (intKind_is _ _ _ _) (sV t)
theorem vV{P:N5}{w:N9}{H:Hp}{h:Oe}{a:VB}{k:List Int}(x:bD P w H h a (.tup (k.map V.int))):Op (intKind P w) h k a:=by obtain⟨_,its,r,o,ho,hc,n,hd⟩:=x;exact⟨o,_,n,ho,hc,hd,sV r⟩
theorem yW{gV:NZ}{σ:St}{H:Hp}{s:N3}{Q:VK}(I:aK X gV σ H s){m:NX}(F:Fr X.np X.env.locals s.heap m){h':Oe}{p:VB}{e tk:Nat}{d:Drawn}{ps':List (List Int×VB)}(F':Fr X.np X.env.locals h' m)(kp:∀b o,b≠X.env.locals->s.heap.get? b=some o->h'.get? b=some o)(hle:s.heap.objs.size<=p)(ga:h'.get? p=some (Pl "list" (ps'.map λz=>Of z.2).toArray e))(hz:ps'.length<64)(q:H p=none->Q (.ref p) (upd H p (.lst (ps'.map λz=>V.ref z.2)))):EP X gV σ Q (.ref p) {s with heap:=h',drawn:=d,toks:=tk}:=by
 have hD:s.heap.get? p=none:=Qf hle;have hHD:H p=none:=by
  cases z:H p with
  |none=>rfl
  |some u=>
   obtain⟨o,e⟩:=(I.hok p u z).hereS;rw[hD]at e;cases e
 refine⟨.ref p,upd H p (.lst (ps'.map λz=>V.ref z.2)),?_,rfl,q hHD⟩;have hlenZ:(ps'.map λz=>V.ref z.2).length<=v1:=by rw[RT,Oc];omega
 have neD:∀b u,H b=some u->b≠p:=λb u e=>aw e hHD;have neLH:∀b u,H b=some u->b≠X.env.locals:=λb u e=>aw e I.free;refine I.step (g':=s.gens) (d':=d) (ch:=[]) (λ_ z=>nomatch z) (λb o n _ _ e _=>kp b o n e) (λb o n _ _ e _=>⟨o.slots,kp b o n e⟩) (λb o _ e n=>?_) (λb o _ e=>?_)
  (λb xs e=>by rw[au (neD b _ e)];exact e) (λb o u e=>by rw[au (neD b _ e)];exact e) (λb ps e=>⟨#[],by rw[au (neD b _ e),e];simp⟩) (λm' hm=>?_) (λb u e=>?_) I.bare
 .rw[au (λz=>by rw[z,hD]at e;cases e)];exact n
 .by_cases hb:b=X.env.locals
  .obtain⟨o',_,_,e',_⟩:=F'.ns;rw[hb];exact⟨o',e'⟩
  .exact⟨o,kp b o hb e⟩
 .rw[hm.eq_nsMap,<-F.ns.eq_nsMap];exact F'.ns
 .by_cases hb:b=p
  .subst hb;rw[ah]at e;cases e;exact⟨hlenZ,_,_,nN ps',by simpa[Pl]using ga⟩
  .rw[au hb]at e;refine(I.hok b u e).stay (λb' v hb' z=>kp b' v ?_ z) (λb' z=>by rw[au (neD b' _ z)];exact z) λb' xs z=>by rw[au (neD b' _ z)];exact z
   rcases hb' with rfl|hb'
   .exact neLH _ _ e
   .exact neLH _ _ hb'
def rG(P:N5)(w:N9)(K:Frag)(xs:List V)(H:Hp)(Q:VK):Prop:= ∃(d:VB)(ps:List (List Int×VB)),xs=[.ref d]/\aN K H d (ps.map λz=>V.ref z.2)/\(∀p∈ps,H p.2=some (.tup (p.1.map V.int)))/\ps.length+1<307/\
 ∀(q:VB)(ps':List (List Int×VB)),H q=none->(∀p∈ps',p∈ps)->(ps'.map (·.1)).Nodup->(∀k,k∈ps'.map (·.1)<->k∈ps.map (·.1))->Q (.ref q) (upd H q (.ext λh=>tS P w h q ps'))
def lZ(P:N5)(w:N9)(xs:List V)(H:Hp)(Q:VK):Prop:= ∃(d:VB)(ps:List (List Int×VB)),xs=[.ref d]/\H d=some (.ext λh=>tS P w h d ps)/\(∀p∈ps,p.1≠[]/\H p.2=some (.tup (p.1.map V.int)))/\(ps.map (·.1)).Nodup/\ps.length<64/\
 ∀(ps':List (List Int×VB))(q:VB),ps'.Perm ps->ps'.Pairwise (λx y=>eW x.1 y.1=true)->H q=none->Q (.ref q) (upd H q (.lst (ps'.map λz=>V.ref z.2)))
theorem Hl{gV:NZ}{σ:St}{H:Hp}{s:N3}(I:aK X gV σ H s){ps:List (List Int×VB)}(hp:∀p∈ps,p.1≠[]/\H p.2=some (.tup (p.1.map V.int)))(nd:(ps.map (·.1)).Nodup):Dl X.prog X.w s.heap X.env.locals ps:=
 ⟨λp h=>⟨aw (hp p h).2 I.free,(hp p h).1,vV (I.hok _ _ (hp p h).2)⟩,nd⟩
theorem tI(hh:X.A.handled=none):bf X (.builtin "sorted") (lZ X.prog X.w):=by intro gV s σ H xs us Q I r h;obtain⟨d,ps,rfl,hd,hp,nd,h64,q⟩:=h;obtain⟨u,rfl,rx⟩:=di r;cases rx;obtain⟨pS,_,_⟩:=(show bD X.prog X.w H s.heap d (.ext _)from I.hok d _ hd);obtain⟨m,F⟩:=I.fr;refine rF F hh pS (Hl I hp nd) h64 λps' h' p e dr tk a1 a2 F' kp hle ga _=>?_;exact yW I F F' kp hle ga (by rw[a1.length_eq];exact h64) (q ps' p a1 a2)
theorem vH(hh:X.A.handled=none)(hu:X.A.units+4<Pf):bf X (.type "set") (rG X.prog X.w X.K):=by
 intro gV s σ H xs us Q I r h;obtain⟨d,ps,rfl,hq,hp,hb,q⟩:=h;obtain⟨u,rfl,rx⟩:=di r;cases rx;obtain⟨its,r',pl,hz⟩:=I.list hq;have hlen:=r'.length;rw[RT]at hlen;have hs:its.toArray.size=ps.length:=by rw[RZ,<-hlen]
 have hM:∀p∈ps,Op (intKind X.prog X.w) s.heap p.1 p.2:=λp h=>vV (I.hok _ _ (hp p h));refine xB (λa=>∃p∈ps,p.2=a) (λi=>(ps.getD i ([],0)).1) hh pl.isList hu (λi v hv=>?_) (λa ⟨p,hp1,e⟩=>?_) (by rw[hs];exact hb) λh2 tk hS kp=>?_
 .rw[Tk]at hv;have hi:i<its.length:=(Sd.mp hv).1;have hi2:i<ps.length:=by omega
  have hx:(ps.map λz=>V.ref z.2)[i]? =some (.ref ps[i].2):=by rw[RX,RU hi2];rfl
  obtain⟨u,hu,ru⟩:=r'.get hx;rw[hv]at hu;cases hu;have eg:ps.getD i ([],0)=ps[i]:=by simp[RY,hi2]
  rw[eg];exact⟨_,ru,⟨_,Se hi2,rfl⟩,hM _ (Se hi2)⟩
 .obtain⟨o,_,_,ho,_⟩:=hM p hp1;rw[<-e];exact N4 ho
 .rw[hs]at hS;have k2:∀b u,s.heap.get? b=some u->h2.get? b=some u:=λb u e=>kp b u (N4 e) e;obtain⟨ps',s1,s2,s3,s4,_⟩:=hS.toP;have ho:∃o,h2.get? s.heap.objs.size=some o:=let ⟨_,_,_,⟨o,h1,_⟩,_⟩:=s1;⟨o,h1⟩;refine⟨.ref s.heap.objs.size,_,I.laid (t':=tk) k2 (TX _) (show bD X.prog X.w _ h2 _ (.ext λh=>tS X.prog X.w h s.heap.objs.size ps')from⟨s1,ho,λh1 h2 e k=>e.keep k⟩),rfl,q _ ps' (I.hok.fresh (TX _)) (λp h=>?_) s3 λk=>?_⟩
  .obtain⟨⟨p2,h2p,e2⟩,kk⟩:=s2 p h;obtain⟨o,items,n,g1,rr⟩:=hM p2 h2p;have:p2.1=p.1:=IsTupleKey.inj (knd:=intKind X.prog X.w) (h:=h2) (a:=p.2) (e2▸⟨o,items,n,k2 _ _ g1,rr⟩) kk;have:p2=p:=Prod.ext this e2;exact this▸h2p
  .rw[<-s4 k,decide_eq_true_eq,mK,RW,RW]
   constructor
   .rintro⟨i,hi,rfl⟩;have hi2:=R8.mp hi;exact⟨ps[i],Se hi2,by simp[RY,hi2]⟩
   .rintro⟨p,h,rfl⟩;obtain⟨i,hi,rfl⟩:=SN h;exact⟨i,R8.mpr hi,by simp[RY,hi]⟩
end
end L2
namespace L2
open PySem PySem.Spec PyProof.Rows
section
variable{X:Cx}{a b c e o:Ol}{ta tb tc te to:TE}{p p2 pos:Qa}{es:List Ol}{t:TA}
def Mv(to te:TE):TE:=λσ H Q=>to σ H λx H1=>match x with
 | .ref l=>(∃xs,H1 l=some (.lst xs))/\te σ H1 λy H2=>∃b xs zs,y=.ref b/\H2 l=some (.lst xs)/\H2 b=some (.lst zs)/\xs.length+zs.length<=v1/\Q .non (upd H2 l (.lst (xs++zs)))
 |_=>False
theorem Bn{apos cpos:Qa}(ho:PE X o to)(he:PE X e te)(hbase:OE o "extend" X.env (Ow o X.env)=Ow o X.env:=by rfl)(hfew:((Ot cpos (N6 [e] X.env)).all (λx=> !x.1)&&(P4 cpos (Pe [] X.env)).all (λx=>x.1.isSome)
   &&decide ([e].length+([]:List Pg).length+(if([]:List Pg).isEmpty then 0 else 1)<30))=true:=by rfl) (hline:(apos.endLine == cpos.line)=true:=by rfl) (hs:N6 [e] X.env=(false,Ow e X.env)::N6 [] X.env:=by rfl) (hplain:(Ot cpos (N6 [] X.env)).any (·.1)=false:=by rfl):PE X (.Call (.Attribute o "extend" apos) [e] [] cpos) (Mv to te):=by
 intro gV s σ H Q I h;refine OQ hbase hfew hline rfl (bM (ho gV s σ H _ I h) λv s1 ⟨x,H1,I1,r1,q1⟩=>?_);cases x with
 |ref l=>
  obtain⟨⟨xs0,e0⟩,q1⟩:=q1;have ty:Gq X.K "list" (.ref l) H1:=.inl ⟨rfl,xs0,aN.of e0⟩;obtain⟨h1,h2⟩:=jq I1 r1 ty;refine⟨"list","list.extend",PySem.F.plainAttrs_list,PySem.F.slot_list_extend,PySem.F.type_list_extend,h1,h2,?_⟩;have hA:=(pa_cons he pan hs:PA X [e] (bo te cL)) cpos gV s1 σ H1 (λvs H2=>lI (.ref l) vs H2 Q) I1 (by
   show te σ H1 λy H2=>lI (.ref l) [y] H2 Q;have:(λ(y:V)(H2:Hp)=>∃b xs zs,y=.ref b/\H2 l=some (.lst xs)/\H2 b=some (.lst zs)/\xs.length+zs.length<=v1/\Q .non (upd H2 l (.lst (xs++zs))))=λy H2=>lI (.ref l) [y] H2 Q:=by
    funext y H2;apply propext
    constructor
    .rintro⟨b,xs,zs,rfl,z⟩;exact⟨l,b,xs,zs,rfl,rfl,z⟩
    .rintro⟨l',b,xs,zs,e1,e2,z⟩;cases e1;have:y=.ref b:=by injection e2
     exact⟨b,xs,zs,this,z⟩
   rw[<-this];exact q1)
  rw[hs]at hA ⊢;refine OJ (by show(false||(Ot cpos (N6 [] X.env)).any (·.1))=false;rw[hplain]<;>rfl) (OW ?_)
  exact bM hA λus s2 ⟨vs,H2,I2,r2,q3⟩=>yd gV s2 σ H2 _ vs v us Q I2 r1 r2 q3
 |_=>exact q1.elim
theorem LX(P:N5)(w:N9)(K:Frag){j:Nat}(hr:cY j X.A)(hP:X.prog=P:=by rfl)(hw:X.w=w:=by rfl)(hK:X.K=K:=by rfl):bf X (.type "set") (rG P w K):=by subst hP hw hK;exact vH hr.hd (by have:=hr.units;omega)
theorem Ip(P:N5)(w:N9){j:Nat}(hr:cY j X.A)(hP:X.prog=P:=by rfl)(hw:X.w=w:=by rfl):bf X (.builtin "sorted") (lZ P w):=by subst hP hw;exact tI hr.hd
end
section
variable{P:N5}{w:N9}{K:Frag}{σ:St}{H:Hp}{Q:VK}{te to:TE}{D:dW}{u:TS}
theorem ul(h:te σ H λv H1=>rG P w K [v] H1 λu H2=>lZ P w [u] H2 Q):cB (lZ P w) (bo (cB (rG P w K) (bo te cL)) cL) σ H Q:=h
def pk(x:Int×Int):List Int:=[x.1,x.2]
theorem HN{x y:Int×Int}(h:pk x=pk y):x=y:=by unfold pk at h;injection h with h1 h2;injection h2 with h2 _;exact Prod.ext h1 h2
theorem uo{d:VB}{ps:List (List Int×VB)}(hd:aN K H d (ps.map λz=>V.ref z.2))(hp:∀p∈ps,p.1≠[]/\H p.2=some (.tup (p.1.map V.int)))(hl:ps.length+1<307)(h64:∀l:List (List Int),l.Nodup->(∀k,k∈l<->k∈ps.map (·.1))->l.length<64)(q:∀(ps':List (List Int×VB))(q:VB)(H':Hp),(∀p∈ps',p∈ps)->(∀k,k∈ps'.map (·.1)<->k∈ps.map (·.1))->ps'.Pairwise (λx y=>eW x.1 y.1=true)->H q=none->ak H H'->H' q=some (.lst (ps'.map λz=>V.ref z.2))->Q (.ref q) H'):rG P w K [.ref d] H λu H2=>lZ P w [u] H2 Q:=by
 refine⟨d,ps,rfl,hd,λp h=>(hp p h).2,hl,λq1 ps1 hq1 sub nd mem=>?_⟩;have z1:ps1.length<64:=by have:=h64 _ nd mem;rwa[RT]at this
 refine⟨q1,ps1,rfl,ah,λp h=>⟨(hp p (sub p h)).1,?_⟩,nd,z1,λps2 q2 pm pw hq2=>?_⟩
 .rw[au (aw (hp p (sub p h)).2 hq1)];exact(hp p (sub p h)).2
 .have n12:q2≠q1:=λz=>by rw[z,ah]at hq2;cases hq2
  have hq2':H q2=none:=by rw[au n12]at hq2;exact hq2
  refine q ps2 q2 _ (λp h=>sub p (pm.mem_iff.mp h)) (λk=>?_) pw hq2' (((ak.refl H).upd hq1).upd hq2) ah;rw[<-mem k];exact(pm.map _).mem_iff
end
def sdV(row:Str)(s:Int):V:=bB (row.cps.toList.getD s.toNat 0)
def dY(row:Str)(sd:Int)(aim:Str):List Int->List (Int×Int)
 | []=>[]
 |g::r=>if sdV row g=.non then(if aim="hit"then dY row sd aim r else(g, -1)::dY row sd aim r)else if¬sdV row g=.int sd/\¬aim="go"then [(g,g)]else []
def jY(row:Str)(sd:Int):List Int->List (Int×Int)
 |g::b::_=>if sdV row g=.int (1 - sd)/\sdV row b=.non then [(b,g)]else []
 |_=>[]
theorem ku(row:Str)(sd:Int)(aim:Str):∀l,(dY row sd aim l).length<=l.length
 | []=>TX _
 |g::r=>by
  have:=ku row sd aim r;unfold dY;split
  .split<;>simp<;>omega
  .split<;>simp
theorem ou(row:Str)(sd:Int):∀l,(jY row sd l).length<=1
 | []=>TZ _
 | [_]=>TZ _
 |g::b::r=>by
  show(if sdV row g=.int (1 - sd)/\sdV row b=.non then [(b,g)]else []).length<=1;split
  .exact TX _
  .exact TZ _
def cI(H H':Hp)(q:VB)(l:List (Int×Int)):Prop:= ∃ps:List (List Int×VB),ps.map (·.1)=l.map pk/\H' q=some (.lst (ps.map λz=>V.ref z.2))/\∀p∈ps,H p.2=none/\H' p.2=some (.tup (p.1.map V.int))
theorem l7{row:Str}{sd:Int}{aim:Str}{g:Int}{r:List Int}:dY row sd aim (g::r)=if sdV row g=.non then(if aim="hit"then dY row sd aim r else(g, -1)::dY row sd aim r)else if¬sdV row g=.int sd/\¬aim="go"then [(g,g)]else []:=rfl
structure RowS(row:Str):Prop where
 len:row.length<=64
 asc:∀c∈row.cps.toList,c<128
def zv(K:Frag):Sp:=λvs H Q _=>∃(row aim:Str)(sd:Int)(p:VB)(path:List Int),vs=[.str row,.int sd,.str aim,.ref p]/\aN K H p (path.map V.int)/\RowS row/\(∀g∈path,0<=g/\g<row.length)/\path.length<=8/\
 ∀(q:VB)(H':Hp),H q=none->cI H H' q (dY row sd aim path)->ak H H'->Q (.ref q) H'
def zB(K:Frag):Sp:=λvs H Q _=>∃(row:Str)(sd:Int)(p:VB)(path:List Int),vs=[.str row,.int sd,.ref p]/\aN K H p (path.map V.int)/\RowS row/\(∀g∈path,0<=g/\g<row.length)/\(sd=0\/sd=1)/\
 ∀(q:VB)(H':Hp),H q=none->cI H H' q (jY row sd path)->ak H H'->Q (.ref q) H'
structure CRs(P:N5)(w:N9)(K:Frag)(mg:NX)(np:Oe):Prop where
 side_of:cy P w K mg np "side_of" ["sign"] 1 lX
theorem RowS.at{row:Str}(R:RowS row){s:Int}(h0:0<=s)(h1:s<row.length):jn row.cps.toList s=some (row.cps.toList.getD s.toNat 0)/\row.cps.toList.getD s.toNat 0<128:=by
 have hl:s.toNat<row.cps.toList.length:=by have:row.length=row.cps.toList.length:=rfl;omega
 have e:row.cps.toList[s.toNat]? =some (row.cps.toList.getD s.toNat 0):=by rw[RY,RU hl];rfl
 have z:=bw e;rw[Ux h0]at z;exact⟨z,R.asc _ (Sl e)⟩
theorem cI.nil{H:Hp}{q:VB}:cI H (upd H q (.lst [])) q []:=⟨[],rfl,ah,λ_ z=>nomatch z⟩
theorem cI.add{H H1:Hp}{q t:VB}{l:List (Int×Int)}{x y:Int}{ps:List (List Int×VB)}(h1:ps.map (·.1)=l.map pk)(h2:H1 q=some (.lst (ps.map λz=>V.ref z.2)))(h3:∀p∈ps,H p.2=none/\H1 p.2=some (.tup (p.1.map V.int)))(s:ak H H1)(ht:H1 t=none):cI H (upd (upd H1 t (.tup [.int x,.int y])) q (.lst ((ps.map λz=>V.ref z.2)++[.ref t]))) q (l++[(x,y)]):=by
 have hqt:q≠t:=λz=>by rw[<-z,h2]at ht;cases ht
 refine⟨ps++[([x,y],t)],by rw[Sc,Sc,h1];rfl,by rw[ah,Sc];rfl,λp hp=>?_⟩
 rcases Sa.mp hp with z|z
 .obtain⟨a1,a2⟩:=h3 p z;refine⟨a1,?_⟩;rw[au (λw=>by rw[w]at a2;rw[h2]at a2;cases a2),au (λw=>by rw[w,ht]at a2;cases a2)];exact a2
 .rw[R4.mp z];refine⟨?_,by rw[au (Ne.symm hqt),ah];rfl⟩;cases w:H t with
  |none=>rfl
  |some u=>have:=s t u w;rw[ht]at this;cases this
theorem zk{t u:TT}{σ:St}{H:Hp}{R:Bool->Hp->Prop}(h:t σ H λc H1=>if c=true then R true H1 else u σ H1 R):Hq t u σ H R:=h
section
variable{K:Frag}{c:Nat}{H:Hp}{Q:VK}
theorem we{sd:Int}:aV K .NotEq (bB c) (.int sd) H Q=Q (.bl (!decide (bB c=.int sd))) H:=by
 unfold bB
 by_cases h:c=46\/c=35
 .rw[NR h];show Q (.bl true) H=Q (.bl (!decide (V.non=V.int sd))) H;rw[NP (by intro z;cases z)];rfl
 .rw[NQ h];show Q (.bl (!decide (_=sd))) H=Q (.bl (!decide (V.int _=V.int sd))) H;have:∀i:Int,decide (i=sd)=decide (V.int i=V.int sd):=λi=>by
   by_cases e:i=sd
   .rw[C0 e,C0 (NW V.int e)]
   .rw[NP e,NP (λz=>e (by injection z))]
  rw[this]
theorem um:aV K .IsNot (bB c) .non H Q=Q (.bl (!decide (bB c=.non))) H:=by
 unfold bB
 by_cases h:c=46\/c=35
 .rw[NR h];show Q (.bl false) H=Q (.bl (!decide (V.non=V.non))) H;rw[C0 rfl];rfl
 .rw[NQ h];show Q (.bl true) H=Q (.bl (!decide (V.int _=V.non))) H;rw[NP (by intro z;cases z)];rfl
end
theorem Gr{t:TT}{ta tb:TE}{σ:St}{H:Hp}{Q:VK}{b:Bool}(hc:Tv t σ H b)(h1:b=true->ta σ H Q)(h2:b=false->tb σ H Q):Jq t ta tb σ H Q:=hc _ (by
 cases b with
 |true=>exact iI (h1 rfl)
 |false=>exact iJ (h2 rfl))
def tM(row:Str)(sd:Int)(so ai:Str)(path:List Int):List (Int×Int):=if so="jump"then jY row sd path else dY row sd ai (if so="leap"then path.take 1 else path)
theorem C9(row:Str)(sd:Int)(so ai:Str){path:List Int}(h:path.length<=8):(tM row sd so ai path).length<=8:=by
 unfold tM;split
 .have:=ou row sd path;omega
 .have:=ku row sd ai (if so="leap"then path.take 1 else path);have:(if so="leap"then path.take 1 else path).length<=8:=by
   split
   .rw[Si];omega
   .exact h
  omega
structure aJ where
 kd:Str
 so:Str
 ai:Str
 ax:Int
 up:Int
abbrev aJ.vs(r:aJ):List V:=[.str r.kd,.str r.so,.str r.ai,.int r.ax,.int r.up]
abbrev aJ.dy(r:aJ)(sd:Int):Int:=if sd=0 then r.up else -r.up
def rD(K:Frag)(cB:VB):Sp:=λvs H Q _=>∃(b r:VB)(row:Str)(sq sd wi hi:Int)(hs:List Int)(u:aJ),vs=[.ref b,.str row,.int sq,.ref r]/\cb K cB H b wi hi hs/\cJ K H r u.vs/\RowS row/\(row.length:Int)=wi*hi/\0<=sq/\sq<wi*hi/\
 sdV row sq=.int sd/\(sd=0\/sd=1)/\¬(u.ax=0/\u.up=0)/\∀(n:Nat)(q:VB)(H':Hp),j9 wi hi hs sq u.ax (u.dy sd) n->n<=8->H q=none->cI H H' q (tM row sd u.so u.ai (eV wi sq u.ax (u.dy sd) n))->ak H H'->Q (.ref q) H'
structure CRb(P:N5)(w:N9)(K:Frag)(mg:NX)(np:Oe)(cB:VB):Prop extends CRs P w K mg np where
 ray:cy P w K mg np "ray" ["board","square","across","up"] 3 (Gu K cB)
 jumped:cy P w K mg np "jumped" ["row","side","path"] 2 (zB K)
 slid:cy P w K mg np "slid" ["row","side","aim","path"] 2 (zv K)
theorem uD{wi hi:Int}{hs:List Int}{s ax up:Int}{n:Nat}(w1:1<=wi)(R:j9 wi hi hs s ax up n):∀g∈eV wi s ax up n,0<=g/\g<wi*hi/\¬g∈hs:=λg hg=>by
 unfold eV at hg;obtain⟨j,hj,rfl⟩:=RW.mp hg;obtain⟨a,b,c,d,e⟩:=R.1 j (R8.mp hj);refine⟨?_,?_,e⟩
 .unfold oS;have:=Uy c (by omega:0<=wi);omega
 .unfold oS;have z:(s / wi+((j+1:Nat):Int)*up)*wi<=(hi - 1)*wi:=UA (by omega) (by omega);rw[Int.sub_mul,Uu,Ur hi wi]at z;omega
theorem cI.from{H H1 H':Hp}{q:VB}{l:List (Int×Int)}(h:cI H1 H' q l)(s:ak H H1):cI H H' q l:=by
 obtain⟨ps,a,b,c⟩:=h;refine⟨ps,a,b,λp hp=>⟨?_,(c p hp).2⟩⟩;cases w:H p.2 with
 |none=>rfl
 |some u=>have:=s _ u w;rw[(c p hp).1]at this;cases this
theorem GE{sp:Sp}{t:TA}{D:dW}{σ:St}{H:Hp}(h:t σ H λvs H1=>sp vs H1 D.rt E0):cg (eA sp t) D σ H:=h
theorem Mm(xs:List Int):fu (xs.map V.int) none (some 1)=(xs.take 1).map V.int:=by
 unfold fu;rw[HT.sIx_none];have:HT.sIx (xs.map V.int).length (xs.map V.int).length (some 1)=min 1 (xs.map V.int).length:=HT.sIx_nat _ _ 1;rw[this,SV,Uf,Ta];cases xs with
 |nil=>rfl
 |cons a l=>simp
theorem ak.tupY{K:Frag}{H H':Hp}{a:VB}{xs:List V}(e:ak H H')(h:cJ K H a xs):cJ K H' a xs:=by
 rcases h with(h|⟨o,h⟩)|h
 .exact .inl (.inl (e _ _ h))
 .exact .inl (.inr ⟨o,e _ _ h⟩)
 .exact .inr h
def dS(H:Hp)(us:List (aJ×VB)):Prop:= ∀z∈us,H z.2=some (.tup z.1.vs)
theorem dS.same{H H':Hp}{us:List (aJ×VB)}(h:dS H us)(s:ak H H'):dS H' us:=λz hz=>s _ _ (h z hz)
abbrev cj(us:List (aJ×VB)):List V:=us.map λz=>V.ref z.2
def ofKind(us:List (aJ×VB))(kd:Str):List (aJ×VB):=us.filter λz=>decide (z.1.kd=kd)
def MJ(us:List (aJ×VB))(kd:Str)(v:V):Bool:=us.any λz=>decide (V.ref z.2=v/\z.1.kd=kd)
theorem AH{H:Hp}{us:List (aJ×VB)}(h:dS H us){kd:Str}{z:aJ×VB}(hz:z∈us):MJ us kd (.ref z.2)=decide (z.1.kd=kd):=by
 unfold MJ
 by_cases e:z.1.kd=kd
 .rw[C0 e,Su];exact⟨z,hz,C0 ⟨rfl,e⟩⟩
 .rw[NP e,SF];intro y hy w;obtain⟨e1,e2⟩:=NS w;have e1:y.2=z.2:=by injection e1
  have a:=h y hy;rw[e1,h z hz]at a;injection a with a;injection a with a;injection a with a _;injection a with a;exact e (a.trans e2)
theorem vh{H:Hp}{us:List (aJ×VB)}(h:dS H us){kd:Str}:(cj us).filter (MJ us kd)=cj (ofKind us kd):=by unfold cj ofKind;rw[Tp];congr 1;refine List.filter_congr λz hz=>?_;exact AH h hz
def nR(cG:VB):Sp:=λvs H Q _=>∃(g b:VB)(kd:Str)(ks ts es:List V)(st:Str)(us:List (aJ×VB)),vs=[.ref g,.str kd]/\fY cG H g b ks (cj us) ts es st/\dS H us/\us.length<=24/\
 ∀(q:VB)(H':Hp),H q=none->H' q=some (.lst (cj (ofKind us kd)))->ak H H'->Q (.ref q) H'
def iS(wi hi:Int)(hs:List Int)(row:Str)(sq sd:Int)(u:aJ)(l:List (Int×Int)):Prop:= ∃n:Nat,j9 wi hi hs sq u.ax (u.dy sd) n/\n<=8/\l=tM row sd u.so u.ai (eV wi sq u.ax (u.dy sd) n)
theorem iS.uniq{wi hi:Int}{hs:List Int}{row:Str}{sq sd:Int}{u:aJ}{l l':List (Int×Int)}(h:iS wi hi hs row sq sd u l)(h':iS wi hi hs row sq sd u l'):l=l':=by obtain⟨n,a,_,rfl⟩:=h;obtain⟨m,b,_,rfl⟩:=h';rw[a.uniq b λ_=>Iff.rfl]
theorem iS.len{wi hi:Int}{hs:List Int}{row:Str}{sq sd:Int}{u:aJ}{l:List (Int×Int)}(h:iS wi hi hs row sq sd u l):l.length<=8:=by obtain⟨n,a,b,rfl⟩:=h;exact C9 _ _ _ _ (by rw[jP];exact b)
inductive aO(wi hi:Int)(hs:List Int)(row:Str)(sq sd:Int):List (aJ×VB)->List (Int×Int)->Prop
 |nil:aO wi hi hs row sq sd [] []
 |cons {z us l r}:iS wi hi hs row sq sd z.1 l->aO wi hi hs row sq sd us r->aO wi hi hs row sq sd (z::us) (l++r)
theorem aO.uniq{wi hi:Int}{hs:List Int}{row:Str}{sq sd:Int}:∀{us:List (aJ×VB)}{l l':List (Int×Int)},aO wi hi hs row sq sd us l->aO wi hi hs row sq sd us l'->l=l'
 |_,_,_,.nil,.nil=>rfl
 |_,_,_,.cons a b,.cons c d=>by rw[a.uniq c,aO.uniq b d]
theorem aO.len{wi hi:Int}{hs:List Int}{row:Str}{sq sd:Int}:∀{us:List (aJ×VB)}{l:List (Int×Int)},aO wi hi hs row sq sd us l->l.length<=8*us.length
 |_,_,.nil=>TZ _
 |_,_,.cons a b=>by have:=a.len;have:=aO.len b;rw[R9,Sf];omega
theorem aO.add{wi hi:Int}{hs:List Int}{row:Str}{sq sd:Int}{z:aJ×VB}{l:List (Int×Int)}(h:iS wi hi hs row sq sd z.1 l):∀{us:List (aJ×VB)}{r:List (Int×Int)},aO wi hi hs row sq sd us r->aO wi hi hs row sq sd (us++[z]) (r++l)
 |_,_,.nil=>by
  have:=aO.cons h aO.nil
  rwa[Sw]at this
 |_,_,.cons a b=>by rw[SM];exact .cons a (aO.add h b)
def tR(l l':List (Int×Int)):Prop:=(∀x,x∈l'<->x∈l)/\l'.Pairwise λx y=>eW (pk x) (pk y)=true
theorem tR.uniq{l:List (Int×Int)}:∀{a b:List (Int×Int)},tR l a->tR l b->a=b:=by
 have key:∀(a b:List (Int×Int)),(∀x,x∈a<->x∈b)->a.Pairwise (λx y=>eW (pk x) (pk y)=true)->b.Pairwise (λx y=>eW (pk x) (pk y)=true)->a=b:=by
  intro a
  induction a with
  |nil=>
   intro b h _ _;cases b with
   |nil=>rfl
   |cons y b=>exact NU ((h y).mpr R6) (by simp)
  |cons x a ih=>
   intro b h pa pb;cases b with
   |nil=>exact NU ((h x).mp R6) (by simp)
   |cons y b=>
    obtain⟨a1,a2⟩:=Sz.mp pa;obtain⟨b1,b2⟩:=Sz.mp pb;have e:x=y:=by
     rcases RV.mp ((h x).mp R6)with z|z
     .exact z
     .rcases RV.mp ((h y).mpr R6)with w|w
      .exact w.symm
      .have t1:=b1 x z;have t2:=a1 y w;rw[qx _ _ t1]at t2;cases t2
    subst e;rw[ih b (λz=>?_) a2 b2]
    constructor
    .intro hz
     rcases RV.mp ((h z).mp (R7 _ hz))with w|w
     .rw[w]at hz;have:=a1 x hz;rw[jW]at this;cases this
     .exact w
    .intro hz
     rcases RV.mp ((h z).mpr (R7 _ hz))with w|w
     .rw[w]at hz;have:=b1 x hz;rw[jW]at this;cases this
     .exact w
 intro a b ha hb;exact key a b (λx=>(ha.1 x).trans (hb.1 x).symm) ha.2 hb.2
def oX(K:Frag)(cB cG:VB):Sp:=λvs H Q _=>∃(g b:VB)(row kd:Str)(sq sd wi hi:Int)(hs:List Int)(ks ts es:List V)(st:Str)(us:List (aJ×VB)),vs=[.ref g,.str row,.int sq]/\fY cG H g b ks (cj us) ts es st/\cb K cB H b wi hi hs/\dS H us/\us.length<=12/\(∀z∈us,¬(z.1.ax=0/\z.1.up=0))/\
 RowS row/\(row.length:Int)=wi*hi/\0<=sq/\sq<wi*hi/\sdV row sq=.int sd/\(sd=0\/sd=1)/\lf (row.cps.toList.getD sq.toNat 0)=.str kd/\(∀l,aO wi hi hs row sq sd (ofKind us kd) l->∀m:List (Int×Int),m.Nodup->(∀x∈m,x∈l)->m.length<64)/\
 ∀(l l':List (Int×Int))(q:VB)(H':Hp),aO wi hi hs row sq sd (ofKind us kd) l->tR l l'->H q=none->cI H H' q l'->ak H H'->Q (.ref q) H'
structure CRg(P:N5)(w:N9)(K:Frag)(mg:NX)(np:Oe)(cB cG:VB):Prop where
 kind_of:cy P w K mg np "kind_of" ["sign"] 1 uk
 by_rule:cy P w K mg np "by_rule" ["board","row","square","rule"] 4 (rD K cB)
 Game_rules_of:nj P w K mg np cG "rules_of" ["self","kind"] 1 (nR cG)
theorem Hh{l:List (Int×Int)}:∀{L:List (List Int)},(∀k∈L,k∈l.map pk)->∃m:List (Int×Int),L=m.map pk/\∀x∈m,x∈l
 | [],_=>⟨[],rfl,λ_ z=>nomatch z⟩
 |k::L,h=>by obtain⟨m,rfl,hm⟩:=Hh λk' hk'=>h k' (R7 _ hk');obtain⟨x,hx,rfl⟩:=RW.mp (h k R6);exact⟨x::m,rfl,λy hy=>(RV.mp hy).elim (λz=>z▸hx) (hm y)⟩
theorem cI.cat{H H1 H2:Hp}{q:VB}{l l2:List (Int×Int)}{ps ps2:List (List Int×VB)}(h1:ps.map (·.1)=l.map pk)(h2:H2 q=some (.lst (ps.map λz=>V.ref z.2)))(h3:∀p∈ps,H p.2=none/\H2 p.2=some (.tup (p.1.map V.int)))(s:ak H H1)(g1:ps2.map (·.1)=l2.map pk)(g3:∀p∈ps2,H1 p.2=none/\H2 p.2=some (.tup (p.1.map V.int))):cI H (upd H2 q (.lst ((ps.map λz=>V.ref z.2)++ps2.map λz=>V.ref z.2))) q (l++l2):=by
 refine⟨ps++ps2,by rw[Sc,Sc,h1,g1],by rw[ah,Sc],λp hp=>?_⟩;have ne:∀{p:VB}{xs:List V},H2 p=some (.tup xs)->p≠q:=λa e=>by rw[e,h2]at a;cases a
 rcases Sa.mp hp with z|z
 .obtain⟨a1,a2⟩:=h3 p z;exact⟨a1,by rw[au (ne a2)];exact a2⟩
 .obtain⟨a1,a2⟩:=g3 p z;exact⟨s.free a1,by rw[au (ne a2)];exact a2⟩
theorem GW{to te:TE}{σ:St}{H:Hp}{D:dW}{l:VB}{xs:List V}(ho:Ev to σ H (.ref l))(hl:H l=some (.lst xs))(q:te σ H λy H2=>∃b xs zs,y=.ref b/\H2 l=some (.lst xs)/\H2 b=some (.lst zs)/\xs.length+zs.length<=v1/\D.nx σ (upd H2 l (.lst (xs++zs)))):jf (Mv to te) D σ H:=ho _ ⟨⟨xs,hl⟩,q⟩
theorem Mx{sp:Sp}{t' t:TA}{σ:St}{H:Hp}{R:List V->Hp->Prop}(h:t' σ H λvs H1=>sp vs H1 (λx H2=>t σ H2 λxs H3=>R (x::xs) H3) E0):bo (eA sp t') t σ H R:=h
structure jo(H:Hp)(d:VB)(ks:List Nat):Prop where
 at_:H d=some (.lst (ks.map strV))
 ltr:∀k∈ks,jF k
 l1:1<=ks.length
 l6:ks.length<=6
 nd:ks.Nodup
theorem jo.same{H H':Hp}{d:VB}{ks:List Nat}(h:jo H d ks)(s:ak H H'):jo H' d ks:=⟨s _ _ h.at_,h.ltr,h.l1,h.l6,h.nd⟩
theorem wt{ss:List Str}{i:Int}(h0:0<=i)(h1:i<ss.length):∃s,jn (ss.map V.str) i=some (.str s)/\s∈ss:=by obtain⟨v,e1,e2⟩:=Ah (xs:=ss.map V.str) h0 (by rw[RT];exact h1);obtain⟨s,hs,rfl⟩:=RW.mp e2;exact⟨s,e1,hs⟩
theorem jo.pick{H:Hp}{d:VB}{ks:List Nat}(h:jo H d ks)(i:Int):∃k∈ks,jn (ks.map strV) (i % ((ks.map strV).length:Int))=some (strV k):=by
 have hl:(0:Int)<((ks.map strV).length:Int):=by rw[RT];have:=h.l1;omega
 obtain⟨v,e1,e2⟩:=Ah (xs:=ks.map strV) (Uk i (by omega)) (Ul i hl);obtain⟨k,hk,rfl⟩:=RW.mp e2;exact⟨k,hk,e1⟩
theorem fU{te:TE}{ta:TA}{σ:St}{H:Hp}{v:V}{Q:List V->Hp->Prop}(h:Ev te σ H v)(q:ta σ H (λxs H2=>Q (v::xs) H2)):bo te ta σ H Q:=h _ q
theorem tupY{t:TA}{σ:St}{H:Hp}{Q:VK}(q:t σ H (λvs H2=>vs.length<=v1/\∀p,H2 p=none->Q (.ref p) (upd H2 p (.tup vs)))):zm t σ H Q:=q
theorem Ar{σ:St}{H:Hp}{Q:List V->Hp->Prop}(q:Q [] H):cL σ H Q:=q
structure kb(ks:List Nat)(u:aJ):Prop where
 kd:∃c∈ks,u.kd=one c
 so:u.so∈sortsL
 ai:u.ai∈aimsL
 jh:u.so="jump"->u.ai="hit"
 ax: -(if u.so="leap"then 3 else 1)<=u.ax/\u.ax<=(if u.so="leap"then 3 else 1)
 up: -(if u.so="leap"then 3 else 1)<=u.up/\u.up<=(if u.so="leap"then 3 else 1)
 n0:¬(u.ax=0/\u.up=0)
def v8:Sp:=λvs H Q _=>∃(c:Int)(d:VB)(ks:List Nat),vs=[.int c,.ref d]/\jo H d ks/\∀(t:VB)(u:aJ)(H':Hp),kb ks u->H t=none->H' t=some (.tup u.vs)->ak H H'->Q (.ref t) H'
theorem yF{ta:TA}{te:TE}{src:List (Option Nat)}{σ rest:St}{H:Hp}{Q:VK}{n:Int}(hl:∀Q':List V->Hp->Prop,(∀H',ak H H'->Q' [.int n] H')->ta σ H Q')(h0:0<=n)(h1:n<=1000)(hs:dX src σ=none::rest)(R:Nat->Hp->V->Prop)(hR:∀i H H' v,R i H v->ak H H'->R i H' v)(he:∀(i:Nat) H',i<n.toNat->ak H H'->∀Q:VK,(∀v H2,R i H2 v->ak H' H2->Q v H2)->te (some (.int (0+(i:Int)))::rest) H' Q)(q:∀d H' ys,ak H H'->H' d=none->ys.length=n.toNat->(∀i y,ys[i]? =some y->R i H' y)->Q (.ref d) (upd H' d (.lst ys))):tComp (mP ta) (gName 0) je te src σ H Q:=by
 refine hl _ λH0 s0=>⟨n,rfl,by omega,by omega,?_⟩;refine iO n.toNat (λi ys σ' H'=>ak H H'/\(∃v,σ'=v::rest)/\ys.length=i/\∀j y,ys[j]? =some y->R j H' y) (by rw[Oc];omega)
  (λi ys σ H h=>T9 h.2.2.1) (λi ys σ H _ hi=>hi) (λys σ H _=>TX _) ⟨s0,⟨none,hs⟩,rfl,λj y hy=>by simp at hy⟩ ?_ ?_
 .rintro i ys _ H1 x H2 hi ⟨s1,⟨v0,rfl⟩,hl,hy⟩ ⟨rfl,rfl⟩ Kt Kf ht hf;simp only[gName,je,SR,if_true];exact(he i _ hi s1 _ λv H2 rv s2=>ht _ _ _ ⟨s1.trans s2,⟨_,rfl⟩,by rw[R9,hl];rfl,λj y hm=>by
   by_cases hj:j<ys.length
   .rw[SU hj]at hm;exact hR _ _ _ _ (hy j y hm) s2
   .rw[S4 (by omega)]at hm;have e0:j - ys.length=0:=by have:=(Sd.mp hm).1;simp at this;exact this
    rw[e0]at hm;have:v=y:=by simpa using hm
    subst this;have:j=i:=by omega
    subst this;exact rv⟩)
 .rintro ys _ H1 dd ⟨s1,_,hl,hy⟩ hd;exact q dd H1 ys s1 hd hl hy
def gc(H:Hp)(zs:List ((Str×Str)×VB)):Prop:= ∀z∈zs,H z.2=some (.tup [.str z.1.1,.str z.1.2])
theorem gc.same{H H':Hp}{zs:List ((Str×Str)×VB)}(h:gc H zs)(s:ak H H'):gc H' zs:=λz hz=>s _ _ (h z hz)
abbrev bp(zs:List ((Str×Str)×VB)):List V:=zs.map λz=>V.ref z.2
structure oP(ks:List Nat)(zs:List ((Str×Str)×VB)):Prop where
 len:zs.length<=6
 kd:∀z∈zs,(∃a∈ks,z.1.1=one a)/\∃b∈ks,z.1.2=one b
 nd:(zs.map λz=>z.1.1).Nodup
 ap:∀z∈zs,∀y∈zs,¬z.1.2=y.1.1
def rp:Sp:=λvs H Q _=>∃(c:Int)(d:VB)(ks:List Nat),vs=[.int c,.ref d]/\jo H d ks/\∀(q:VB)(zs:List ((Str×Str)×VB))(H':Hp),oP ks zs->gc H' zs->H q=none->H' q=some (.lst (bp zs))->ak H H'->Q (.ref q) H'
theorem jS{a b:Nat}(h:one a=one b):a=b:=by unfold one at h;simp only[Str.mk.injEq]at h;have:=NW Array.toList h;simpa using this
theorem wp{H:Hp}(F:Nat->Str×Str):∀(ys:List V)(o:Nat),(∀i y,ys[i]? =some y->∃a,y=.ref a/\H a=some (.tup [.str (F (o+i)).1,.str (F (o+i)).2]))->∃zs:List ((Str×Str)×VB),ys=bp zs/\gc H zs/\zs.length=ys.length/\∀i z,zs[i]? =some z->z.1=F (o+i)
 | [],o,_=>⟨[],rfl,λ_ z=>(nomatch z),rfl,λi z h=>by simp at h⟩
 |y::ys,o,h=>by
  obtain⟨a,rfl,ha⟩:=h 0 y rfl;obtain⟨zs,rfl,h1,h2,h3⟩:=wp F ys (o+1) λi y hy=>by obtain⟨a,e1,e2⟩:=h (i+1) y (by simpa using hy);exact⟨a,e1,by rw[show o+1+i=o+(i+1) by omega];exact e2⟩
  refine⟨(F o,a)::zs,rfl,λz hz=>?_,by simp,λi z hz=>?_⟩
  .rcases RV.mp hz with rfl|hz
   .exact ha
   .exact h1 z hz
  .cases i with
   |zero=>
    have:(F o,a)=z:=by simpa using hz
    rw[<-this];rfl
   |succ i=>
    rw[h3 i z (by simpa using hz),show o+1+i=o+(i+1) by omega]
theorem oj{H H1 H':Hp}{x dx:VB}{o1 o2:HO}(s:ak H H1)(nx:H1 x=none)(nd:H1 dx=none)(sb:SameBut x (upd (upd H1 dx o1) x o2) H'):ak H H':=λb o e=>by have e1:=s b o e;have nbx:=aw e1 nx;have nbd:=aw e1 nd;exact sb b o (by rw[au nbx,au nbd];exact e1) nbx
theorem yk{H:Hp}{q:VB}{ks:List Nat}(h:H q=some (.lst (ks.map strV)))(hl:∀k∈ks,jF k)(nd:ks.Nodup)(k1:1<=ks.length)(k6:ks.length<=6):mL H (.ref q)=true:=by
 have e:lstOf H (.ref q)=some (ks.map strV):=by simp only[lstOf,h]
 unfold mL;rw[e];dsimp only;rw[RT,C0 ⟨k1,k6⟩,UH,UD];refine⟨Sh.mpr λx hx=>?_,C0 ?_⟩
 .obtain⟨k,hk,rfl⟩:=RW.mp hx;exact C0 (p:=97<=k/\k<=122) (hl k hk)
 .rw[R5];exact Sv.mpr (nd.imp λhab e=>hab (qc.mp e))
theorem cy.imp{P:N5}{w:N9}{K:Frag}{mg:NX}{np:Oe}{name:Str}{ps:List Str}{k:Nat}{sp sp':Sp}(C:cy P w K mg np name ps k sp)(h:∀vs H Q E,sp' vs H Q E->sp vs H Q E):cy P w K mg np name ps k sp':=by obtain⟨f,fd,F,a,b,c⟩:=C.ex;exact⟨f,fd,F.imp h,a,b,c⟩
theorem Jf{P:N5}{w:N9}{K:Frag}{mg:NX}{np:Oe}(C:cy P w K mg np "is_among" ["thing","least","most"] 2 iz):cy P w K mg np "is_among" ["thing","least","most"] 2 Gz:=cy.imp C λvs H Q E h=>by obtain⟨t,a,b,rfl,q⟩:=h;exact⟨.int t,a,b,rfl,trivial,q⟩
theorem CM{ks:List Nat}{u:aJ}(g:kb ks u):jg u.vs (ks.map one)=true:=by
 obtain⟨c,hc,e⟩:=g.kd;show(wordB (.str u.kd) (ks.map one)&&decide (u.so∈sortsL)&&decide (u.ai∈aimsL)&& !(decide (u.so="jump")&& !decide (u.ai="hit"))&&kZ u.so (.int u.ax) (.int u.up))=true;have h1:wordB (.str u.kd) (ks.map one)=true:=C0 (RW.mpr ⟨c,hc,e.symm⟩);have h2:(!(decide (u.so="jump")&& !decide (u.ai="hit")))=true:=by
  by_cases z:u.so="jump"
  .rw[g.jh z];simp
  .simp[z]
 have h3:kZ u.so (.int u.ax) (.int u.up)=true:=by
  have a:=g.ax;have b:=g.up;have n:=g.n0;unfold kZ amongB limS;have e1:decide (-(if u.so="leap"then(3:Int)else 1)<=u.ax/\u.ax<=if u.so="leap"then 3 else 1)=true:=C0 a;have e2:decide (-(if u.so="leap"then(3:Int)else 1)<=u.up/\u.up<=if u.so="leap"then 3 else 1)=true:=C0 b;dsimp only;rw[e1,e2]
  by_cases z:u.ax=0
  .have z2:¬u.up=0:=λw=>n ⟨z,w⟩;simp[z,z2]
  .simp[z]
 rw[h1,C0 g.so,C0 g.ai,h2,h3];rfl
theorem vd{H:Hp}{a:VB}{xs:List V}(h:H a=some (.lst xs)):lstOf H (.ref a)=some xs:=by simp only[lstOf,h]
theorem kn{H:Hp}{a:VB}{xs:List V}(h:H a=some (.tup xs)):tupOf H (.ref a)=some xs:=by simp only[tupOf,h]
theorem xH{H:Hp}{d:VB}{us:List (aJ×VB)}{ks:List Nat}(h:H d=some (.lst (cj us)))(R:dS H us)(g:∀z∈us,kb ks z.1)(h24:us.length<=24):eZ H (.ref d) (ks.map one)=true:=by unfold eZ;rw[vd h];show(decide ((cj us).length<=24)&&(cj us).all λx=>dI H x (ks.map one))=true;rw[RT,C0 h24,UH,Sh];intro x hx;obtain⟨z,hz,rfl⟩:=RW.mp hx;unfold dI;rw[kn (R z hz)];exact CM (g z hz)
theorem n6{H:Hp}{d:VB}{zs:List ((Str×Str)×VB)}{A B:List Str}(h:H d=some (.lst (bp zs)))(R:gc H zs)(g:∀z∈zs,z.1.1∈A/\z.1.2∈B)(h6:zs.length<=6):pairsB H (.ref d) A B=true:=by unfold pairsB;rw[vd h];show(decide ((bp zs).length<=6)&&(bp zs).all λx=>dL H x A B)=true;rw[RT,C0 h6,UH,Sh];intro x hx;obtain⟨z,hz,rfl⟩:=RW.mp hx;unfold dL;rw[kn (R z hz)];show(decide (z.1.1∈A)&&decide (z.1.2∈B))=true;rw[C0 (g z hz).1,C0 (g z hz).2];rfl
theorem xr{H:Hp}{d:VB}{zs:List ((Str×Str)×VB)}{ks:List Nat}(h:H d=some (.lst (bp zs)))(R:gc H zs)(g:oP ks zs):fJ H (.ref d) (ks.map one)=true:=by
 unfold fJ;rw[n6 h R (λz hz=>?_) g.len,vd h,UH]
 .have e1:(bp zs).map (cx H)=zs.map λz=>z.1.1:=by rw[R5];refine Sq λz hz=>?_;show cx H (.ref z.2)=_;unfold cx;rw[kn (R z hz)]
  show(!((bp zs).any λx=>decide (gF H x∈(bp zs).map (cx H)))&&decide (((bp zs).map (cx H)).Nodup))=true;rw[e1,C0 g.nd,UM,UG,SF];intro x hx w;obtain⟨z,hz,rfl⟩:=RW.mp hx;have w:=NS w;have e2:gF H (.ref z.2)=z.1.2:=by unfold gF;rw[kn (R z hz)]
  rw[e2]at w;obtain⟨y,hy,e⟩:=RW.mp w;exact g.ap z hz y hy e.symm
 .obtain⟨⟨a,ha,e1⟩,b,hb,e2⟩:=g.kd z hz;exact⟨RW.mpr ⟨a,ha,e1.symm⟩,RW.mpr ⟨b,hb,e2.symm⟩⟩
theorem iG(a:Nat):(one a).length<=1000:=by show 1<=1000;decide
theorem Hx{s:Str}(h:s∈sortsL):s.length<=1000:=(by decide:∀s∈sortsL,s.length<=1000) s h
theorem Jh{s:Str}(h:s∈aimsL):s.length<=1000:=(by decide:∀s∈aimsL,s.length<=1000) s h
theorem IN{s:Str}(h:s∈ik):s.length<=1000:=(by decide:∀s∈ik,s.length<=1000) s h
theorem HD{H:Hp}{d:VB}{us:List (aJ×VB)}{ks:List Nat}(h:H d=some (.lst (cj us)))(R:dS H us)(g:∀z∈us,kb ks z.1):fv H 2 (.ref d):=by
 refine jE.n (jE.lst h λx hx=>?_);obtain⟨z,hz,rfl⟩:=RW.mp hx;refine jE.tup (R z hz) λy hy=>?_;obtain⟨c,_,e⟩:=(g z hz).kd;simp only[aJ.vs,RV,Sb,or_false]at hy
 rcases hy with rfl|rfl|rfl|rfl|rfl
 .exact jE.flat (show z.1.kd.length<=1000 by rw[e];exact iG c) rfl
 .exact jE.flat (Hx (g z hz).so) rfl
 .exact jE.flat (Jh (g z hz).ai) rfl
 .exact jE.flat trivial rfl
 .exact jE.flat trivial rfl
theorem Ad{H:Hp}{d:VB}{zs:List ((Str×Str)×VB)}(h:H d=some (.lst (bp zs)))(R:gc H zs)(g:∀z∈zs,z.1.1.length<=1000/\z.1.2.length<=1000):fv H 2 (.ref d):=by
 refine jE.n (jE.lst h λx hx=>?_);obtain⟨z,hz,rfl⟩:=RW.mp hx;refine jE.tup (R z hz) λy hy=>?_;simp only[RV,Sb,or_false]at hy
 rcases hy with rfl|rfl
 .exact jE.flat (g z hz).1 rfl
 .exact jE.flat (g z hz).2 rfl
theorem Iw{H:Hp}{d:VB}{ks:List Nat}(h:jo H d ks):fv H 1 (.ref d):=by refine jE.n (jE.lst h.at_ λx hx=>?_);obtain⟨c,_,rfl⟩:=RW.mp hx;exact jE.flat (iG c) rfl
structure il(K:Frag)(cB cG:VB)(H:Hp)(g b kq:VB)(wi hi:Int)(hs:List Int)(ks:List Nat)(us:List (aJ×VB))(ts es:List ((Str×Str)×VB))(st:Str):Prop where
 gm:fY cG H g b (ks.map strV) (cj us) (bp ts) (bp es) st
 bd:cb K cB H b wi hi hs
 ltr:∀k∈ks,jF k
 k1:1<=ks.length
 k6:ks.length<=6
 knd:ks.Nodup
 rl:dS H us
 r12:us.length<=12
 rg:∀z∈us,kb ks z.1
 tt:gc H ts
 tg:oP ks ts
 et:gc H es
 e6:es.length<=6
 eg:∀z∈es,z.1.1∈ik/\∃b∈ks,z.1.2=one b
 sg:st∈iu
theorem il.same{K:Frag}{cB cG:VB}{H H':Hp}{g b kq:VB}{wi hi:Int}{hs:List Int}{ks:List Nat}{us:List (aJ×VB)}{ts es:List ((Str×Str)×VB)}{st:Str}(x:il K cB cG H g b kq wi hi hs ks us ts es st)(s:ak H H'):il K cB cG H' g b kq wi hi hs ks us ts es st:=
 ⟨x.gm.same s,x.bd.same s,x.ltr,x.k1,x.k6,x.knd,x.rl.same s,x.r12,x.rg,x.tt.same s,x.tg,x.et.same s,x.e6,x.eg,x.sg⟩
theorem GJ{C:VB}{sp:Sp}{t:TA}{σ:St}{H:Hp}{Q:VK}(h:t σ H λvs H1=>∀x dx,H1 x=none->H1 dx=none->dx≠x->sp (.ref x::vs) (upd (upd H1 dx (.own x)) x (.ins C dx [])) (λv H2=>v=.non/\Q (.ref x) H2) E0):xb C sp t σ H Q:=h
def v9(K:Frag)(cB cG:VB):Sp:=λvs H Q _=>∃(a:VB)(ns:List Int),vs=[.ref a]/\aN K H a (ns.map V.int)/\∀(g b kq:VB)(wi hi:Int)(hs:List Int)(ks:List Nat)(us:List (aJ×VB))(ts es:List ((Str×Str)×VB))(st:Str)(H':Hp),
 il K cB cG H' g b kq wi hi hs ks us ts es st->hs.length<=2->(hs.length:Int)<wi*hi->ak H H'->Q (.ref g) H'
structure LGg(P:N5)(w:N9)(K:Frag)(mg:NX)(np:Oe)(cB cG:VB):Prop extends LG1 P w K mg np where
 _law_board:cy P w K mg np "_law_board" ["_law_script"] 2 (rA K)
 _law_kinds:cy P w K mg np "_law_kinds" ["_law_cell"] 1 rz
 _law_rule:cy P w K mg np "_law_rule" ["_law_cell","_law_kinds_here"] 1 v8
 _law_turns:cy P w K mg np "_law_turns" ["_law_cell","_law_kinds_here"] 1 rp
 Board:oO P w K mg np "Board" cB ["self","wide","high","holes"] 4 (oY K cB)
 Game:oO P w K mg np "Game" cG ["self","board","kinds","rules","turns","ends","stuck"] 6 (wa K cG)
theorem dS.add{H H':Hp}{us:List (aJ×VB)}{u:aJ}{t:VB}(h:dS H us)(s:ak H H')(ht:H' t=some (.tup u.vs)):dS H' (us++[(u,t)]):=λz hz=>by
 rcases Sa.mp hz with w|w
 .exact s _ _ (h z w)
 .rw[R4.mp w];exact ht
theorem gc.add{H H':Hp}{zs:List ((Str×Str)×VB)}{x y:Str}{t:VB}(h:gc H zs)(s:ak H H')(ht:H' t=some (.tup [.str x,.str y])):gc H' (zs++[((x,y),t)]):=λz hz=>by
 rcases Sa.mp hz with w|w
 .exact s _ _ (h z w)
 .rw[R4.mp w];exact ht
theorem dS.put{H:Hp}{us:List (aJ×VB)}{q:VB}{xs ys:List V}(h:dS H us)(hq:H q=some (.lst xs)):dS (upd H q (.lst ys)) us:=λz hz=>by rw[au (λw=>by have:=h z hz;rw[w,hq]at this;cases this)];exact h z hz
theorem gc.put{H:Hp}{zs:List ((Str×Str)×VB)}{q:VB}{xs ys:List V}(h:gc H zs)(hq:H q=some (.lst xs)):gc (upd H q (.lst ys)) zs:=λz hz=>by rw[au (λw=>by have:=h z hz;rw[w,hq]at this;cases this)];exact h z hz
theorem Li{C:VB}{sp:Sp}{t:TA}{σ:St}{H:Hp}{D:dW}(h:xb C sp t σ H D.rt):cg (xb C sp t) D σ H:=h
def lG:Sp:=λvs H Q _=>∃c:Nat,vs=[.str (one c)]/\Sg c/\Q (bB c) H
theorem xh{c:Nat}:c∈("abcdefghijklmnopqrstuvwxyz":Str).cps.toList<->jF c:=by
 have e:("abcdefghijklmnopqrstuvwxyz":Str).cps.toList=(List.range 26).map (97+ ·):=by decide+kernel
 rw[e,RW];unfold jF
 constructor
 .rintro⟨i,hi,rfl⟩;have:=R8.mp hi;omega
 .intro h;exact⟨c - 97,R8.mpr (by omega),by omega⟩
structure Dm(row:Str)(hs:List Int):Prop extends RowS row where
 sg:∀c∈row.cps.toList,Sg c
 nh:∀s:Int,0<=s->s<row.length->¬s∈hs->¬row.cps.toList.getD s.toNat 0=35
end L2
namespace L2
open PySem PySem.W PySem.Calls PySem.Spec PyProof.Rows
section
variable{X:Cx}
theorem nX:∀{ps:List (List Int×VB)}{us:List VA},aX (ps.map λz=>V.ref z.2) us->us=ps.map λz=>Of z.2
 | [],_,.nil=>rfl
 |p::ps,_,.cons r t=>by cases r;rw[nX t];rfl
end
theorem mN:∀{k k':List Int},k.map V.int=k'.map V.int->k=k'
 | [],[],_=>rfl
 | [],_::_,h=>by cases h
 |_::_,[],h=>by cases h
 |x::k,y::k',h=>by injection h with h1 h2;injection h1 with h1;rw[h1,mN h2]
theorem Jg{k k':List Int}:((List.range (min (k.map V.int).length (k'.map V.int).length)).all (λi=>eqV (.int (k.getD i 0)) (.int (k'.getD i 0)))&&(k.map V.int).length == (k'.map V.int).length)=decide (k=k'):=by
 rw[RT,RT]
 by_cases e:k=k'
 .subst e;rw[C0 rfl,beq_self_eq_true,UM,Sh];intro i _;exact tf rfl
 .rw[NP e]
  by_cases hl:k.length=k'.length
  .rw[hl,beq_self_eq_true,UM];cases hh:(List.range (min k'.length k'.length)).all λi=>eqV (.int (k.getD i 0)) (.int (k'.getD i 0))with
   |false=>rfl
   |true=>
    refine NU (List.ext_getElem hl λi h1 h2=>?_) e;have:=Sh.mp hh i (R8.mpr (by omega));have:=NS (show decide (k.getD i 0=k'.getD i 0)=true from this);simpa[RY,h1,h2]using this
  .rw[show(k.length == k'.length)=false by simpa using hl,UL]
theorem qH{K:Frag}{H:Hp}{n:Nat}{a b:VB}{k k':List Int}(ha:H a=some (.tup (k.map V.int)))(hb:H b=some (.tup (k'.map V.int))):t7 K H (n+1) (.ref a) (.ref b) (decide (k=k')):=by
 by_cases e:a=b
 .subst e;rw[ha]at hb;have hb:k.map V.int=k'.map V.int:=by injection hb with z;injection z
  have:k=k':=mN hb;rw[C0 this];exact .same
 .rw[<-Jg];refine .tup (cJ.of ha) (cJ.of hb) e λi x y hx hy=>?_;have h1:i<k.length:=by have:=(Sd.mp hx).1;rwa[RT]at this
  have h2:i<k'.length:=by have:=(Sd.mp hy).1;rwa[RT]at this
  rw[RX,RU h1]at hx;rw[RX,RU h2]at hy;cases hx;cases hy;have z:=t7.flat (K:=K) (H:=H) (n:=n) (x:=.int k[i]) (y:=.int k'[i]) rfl rfl;rw[RY,RY,RU h1,RU h2];exact z
section
variable{X:Cx}{a b:Ol}{ta tb:TE}{pos:Qa}
def MM(K:Frag)(op:Po)(x y:V)(H:Hp)(Q:VK):Prop:=match op,x,y with
 | .NotIn,.ref c,.ref d=>∃(k:List Int)(ps:List (List Int×VB)),H c=some (.tup (k.map V.int))/\aN K H d (ps.map λz=>V.ref z.2)/\(∀p∈ps,H p.2=some (.tup (p.1.map V.int)))/\Q (.bl (!decide (k∈ps.map (·.1)))) H
 |_,_,_=>False
theorem Ia(op:Po)(hu:X.A.units+20<Pf):jb X (OC op) (MM X.K op):=by
 intro gV s σ H x y v u Q I rx ry h;unfold MM at h;split at h
 .rename_i c d;obtain⟨k,ps,hc,hd,hp,q⟩:=h;cases rx;cases ry;obtain⟨its,r',pl,hz⟩:=I.list hd;have e:=nX r';subst e;refine SeqAt.notIn_listAt (λv=>ps.any λp=>(match v with| .ref a=>a == p.2|_=>false)&&decide (p.1=k)) pl.isList (λy hy=>?_) (fin_bl I q ?_)
  .have hy:y∈ps.map λz=>Of z.2:=by simpa using hy
   obtain⟨p,hpp,rfl⟩:=RW.mp hy;have z:=mV I (qH (K:=X.K) (n:=0) (hp p hpp) hc) X.A.in1 (by show X.A.units+1+(0+1)<Pf;omega) (u:=.ref p.2) (v:=.ref c) rfl rfl;have e:(ps.any λp'=>(p.2 == p'.2)&&decide (p'.1=k))=decide (p.1=k):=by
    by_cases h:p.1=k
    .rw[C0 h,Su];exact⟨p,hpp,by rw[beq_self_eq_true,C0 h];rfl⟩
    .rw[NP h,SF];intro p' hp' w;rw[UD]at w;have e1:p.2=p'.2:=by simpa using w.1
     have e2:=NS w.2;have a1:=hp p hpp;rw[e1]at a1;have z1:=qH (K:=X.K) (n:=0) a1 (hp p' hp');have:p.1.map V.int=p'.1.map V.int:=by have a2:=hp p' hp';rw[a1]at a2;injection a2 with a2;injection a2
     exact h ((mN this).trans e2)
   show Rs X.A.in1 s (.ref p.2) (.ref c) (ps.any λp'=>(p.2 == p'.2)&&decide (p'.1=k));rw[e];exact z
  .congr 1;have:((ps.map λz=>Of z.2).toArray.any λv=>ps.any λp=>(match v with| .ref a=>a == p.2|_=>false)&&decide (p.1=k))=decide (k∈ps.map (·.1)):=by
    rw[List.any_toArray,S7]
    by_cases h:k∈ps.map (·.1)
    .rw[C0 h,Su];obtain⟨p,hpp,e⟩:=RW.mp h;refine⟨p,hpp,?_⟩;show(ps.any λp'=>(p.2 == p'.2)&&decide (p'.1=k))=true;rw[Su];exact⟨p,hpp,by rw[beq_self_eq_true,C0 e];rfl⟩
    .rw[NP h,SF];intro p hpp w;have w:(ps.any λp'=>(p.2 == p'.2)&&decide (p'.1=k))=true:=w;obtain⟨p',hp',w⟩:=Su.mp w;rw[UD]at w;exact h (RW.mpr ⟨p',hp',NS w.2⟩)
   rw[this]
 .exact h.elim
def Mu(K:Frag)(op:Po)(ta tb:TE):TE:=λσ H Q=>ta σ H λx H1=>tb σ H1 λy H2=>MM K op x y H2 Q
theorem LV(K:Frag){op:Po}(hu:X.A.units+20<Pf)(ha:PE X a ta)(hb:PE X b tb)(hm:behindInMarks op b=false:=by first|exact mH _|with_unfolding_all rfl)(hK:X.K=K:=by rfl):PT X (.Compare a [op] [b] pos) (fX (Mu K op ta tb)):=by subst hK;exact BP (Ia op hu) ha hb hm
end
end L2
namespace L2
open PySem PySem.Spec PyProof.Rows
theorem mI{α:Type}[DecidableEq α]:∀{m C:List α},m.Nodup->(∀x∈m,x∈C)->m.length<=C.length
 | [],_,_,_=>TZ _
 |x::m,C,nd,h=>by obtain⟨n1,n2⟩:=SH.mp nd;have hx:=h x R6;have z:=mI (C:=C.erase x) n2 (λy hy=>(To (a:=y) (b:=x) (λe=>n1 (by rw[<-e];exact hy))).mpr (h y (R7 _ hy)));rw[Tn hx]at z;have:0<C.length:=S8 hx;rw[Sf];omega
def prG(row:Str)(g:Int):Int×Int:=(g,if sdV row g=.non then -1 else g)
theorem o8(row:Str)(sd:Int)(ai:Str):∀path:List Int,(dY row sd ai path).Sublist (path.map (prG row))
 | []=>List.Sublist.refl _
 |g::r=>by
  rw[l7,Sk];have ih:=o8 row sd ai r
  by_cases h:sdV row g=.non
  .rw[NR h]
   by_cases a:ai="hit"
   .rw[NR a];exact ih.cons _
   .rw[NQ a];have:prG row g=(g, -1):=by unfold prG;rw[NR h]
    rw[this];exact ih.cons₂ _
  .rw[NQ h];have:prG row g=(g,g):=by unfold prG;rw[NQ h]
   rw[this];split
   .exact(List.nil_sublist _).cons₂ _
   .exact List.nil_sublist _
theorem Bd{u:aJ}{sd:Int}(n0:¬(u.ax=0/\u.up=0)):¬(u.ax=0/\u.dy sd=0):=λz=>n0 ⟨z.1,by have:=z.2;unfold aJ.dy at this;split at this<;>omega⟩
def GZ:List (Int×Int):=[(-1, -1),(-1,0),(-1,1),(0, -1),(0,1),(1, -1),(1,0),(1,1)]
theorem C3{x y:Int}(x1: -1<=x)(x2:x<=1)(y1: -1<=y)(y2:y<=1)(n0:¬(x=0/\y=0)):(x,y)∈GZ:=by
 have hx:x= -1\/x=0\/x=1:=by omega
 have hy:y= -1\/y=0\/y=1:=by omega
 rcases hx with rfl|rfl|rfl<;>rcases hy with rfl|rfl|rfl<;>first|decide|exact NU ⟨rfl,rfl⟩ n0
theorem G0{wi hi:Int}{hs:List Int}{row:Str}{sq sd:Int}{ks:List Nat}(w8:wi<=8)(h8:hi<=8)(w1:1<=wi)(s0:0<=sq)(s1:sq<wi*hi):∀{us:List (aJ×VB)}{l:List (Int×Int)},aO wi hi hs row sq sd us l->(∀z∈us,kb ks z.1)->∃(D C:List (Int×Int))(a:Nat),D.Nodup/\(∀e∈D,e∈GZ)/\D.length+a<=us.length/\C.length<=7*D.length+a/\(∀e∈D,∃n,j9 wi hi hs sq e.1 e.2 n/\∀g∈eV wi sq e.1 e.2 n,prG row g∈C)/\∀x∈l,x∈C
 |_,_,.nil,_=>⟨[],[],0,Tw,λ_ z=>(nomatch z),TX _,TX _,λ_ z=>(nomatch z),λ_ z=>(nomatch z)⟩
 |_,_,@aO.cons _ _ _ _ _ _ z us l r hl hr,hg=>by
  obtain⟨D,C,a,c1,c2,c3,c4,c5,c6⟩:=G0 w8 h8 w1 s0 s1 hr λy hy=>hg y (R7 _ hy);have g:=hg z R6;obtain⟨n,ry,n8,rfl⟩:=hl
  by_cases hs':z.1.so="slide"
  .have e:tM row sd z.1.so z.1.ai (eV wi sq z.1.ax (z.1.dy sd) n)=dY row sd z.1.ai (eV wi sq z.1.ax (z.1.dy sd) n):=by unfold tM;rw[hs',NQ (by decide),NQ (by decide)]
   rw[e];have sub:=λx hx=>(o8 row sd z.1.ai (eV wi sq z.1.ax (z.1.dy sd) n)).subset (a:=x) hx
   by_cases hD:(z.1.ax,z.1.dy sd)∈D
   .refine⟨D,C,a,c1,c2,by rw[Sf];omega,c4,c5,λx hx=>?_⟩
    rcases Sa.mp hx with hx|hx
    .obtain⟨m,rm,hm⟩:=c5 _ hD;have:=rm.uniq ry λ_=>Iff.rfl;subst this;obtain⟨gg,g1,rfl⟩:=RW.mp (sub x hx);exact hm gg g1
    .exact c6 x hx
   .have n7:n<=7:=by
     rcases Ui n with h|h
     .omega
     .have:=Aq w8 h8 w1 s0 s1 (Bd g.n0) (ry.1 (n - 1) (by omega));omega
    have ax:=g.ax;have up:=g.up;rw[hs',NQ (by decide)]at ax up;have dyb: -1<=z.1.dy sd/\z.1.dy sd<=1:=by unfold aJ.dy;split<;>omega
    refine⟨(z.1.ax,z.1.dy sd)::D,(eV wi sq z.1.ax (z.1.dy sd) n).map (prG row)++C,a,SH.mpr ⟨hD,c1⟩,λe he=>?_,by rw[Sf,Sf];omega,by rw[R9,RT,jP,Sf];omega,λe he=>?_,λx hx=>?_⟩
    .rcases RV.mp he with rfl|he
     .exact C3 ax.1 ax.2 dyb.1 dyb.2 (Bd g.n0)
     .exact c2 e he
    .rcases RV.mp he with rfl|he
     .exact⟨n,ry,λgg hgg=>SA _ (RW.mpr ⟨gg,hgg,rfl⟩)⟩
     .obtain⟨m,rm,hm⟩:=c5 e he;exact⟨m,rm,λgg hgg=>Sj _ (hm gg hgg)⟩
    .rcases Sa.mp hx with hx|hx
     .exact SA _ (sub x hx)
     .exact Sj _ (c6 x hx)
  .have l1:(tM row sd z.1.so z.1.ai (eV wi sq z.1.ax (z.1.dy sd) n)).length<=1:=by
    have so:=g.so;simp only[sortsL,RV,Sb,or_false]at so;unfold tM
    rcases so with e|e|e
    .rw[e,NQ (by decide),NR rfl];refine T0 (ku ..) ?_;rw[Si];omega
    .exact NU e hs'
    .rw[e,NR rfl];exact ou ..
   refine⟨D,tM row sd z.1.so z.1.ai (eV wi sq z.1.ax (z.1.dy sd) n)++C,a+1,c1,c2,by rw[Sf];omega,by rw[R9];omega,λe he=>?_,λx hx=>?_⟩
   .obtain⟨m,rm,hm⟩:=c5 e he;exact⟨m,rm,λgg hgg=>Sj _ (hm gg hgg)⟩
   .rcases Sa.mp hx with hx|hx
    .exact SA _ hx
    .exact Sj _ (c6 x hx)
theorem Md{wi hi:Int}{hs:List Int}{row:Str}{sq sd:Int}{ks:List Nat}(w8:wi<=8)(h8:hi<=8)(w1:1<=wi)(s0:0<=sq)(s1:sq<wi*hi){us:List (aJ×VB)}(h12:us.length<=12)(hg:∀z∈us,kb ks z.1){l:List (Int×Int)}(h:aO wi hi hs row sq sd us l)(m:List (Int×Int))(nd:m.Nodup)(hm:∀x∈m,x∈l):m.length<64:=by obtain⟨D,C,a,c1,c2,c3,c4,_,c6⟩:=G0 w8 h8 w1 s0 s1 h hg;have d8:D.length<=8:=mI c1 c2;have:=mI nd λx hx=>c6 x (hm x hx);omega
def zA(K:Frag)(cB cG:VB):Sp:=λvs H Q _=>∃(g b:VB)(row kd:Str)(sq sd wi hi:Int)(hs:List Int)(ks ts es:List V)(st:Str)(us:List (aJ×VB)),vs=[.ref g,.str row,.int sq]/\fY cG H g b ks (cj us) ts es st/\cb K cB H b wi hi hs/\dS H us/\us.length<=12/\(∀z∈us,¬(z.1.ax=0/\z.1.up=0))/\
 Dm row hs/\(row.length:Int)=wi*hi/\0<=sq/\sq<wi*hi/\sdV row sq=.int sd/\(sd=0\/sd=1)/\lf (row.cps.toList.getD sq.toNat 0)=.str kd/\(∀l,aO wi hi hs row sq sd (ofKind us kd) l->∀m:List (Int×Int),m.Nodup->(∀x∈m,x∈l)->m.length<64)/\
 ∀(l l':List (Int×Int))(q:VB)(H':Hp),aO wi hi hs row sq sd (ofKind us kd) l->tR l l'->H q=none->cI H H' q l'->ak H H'->Q (.ref q) H'
theorem C4{K:Frag}{sp:Sp}{t:TA}{vs:List V}{g:TG}{tt:TT}{te:TE}{src:List (Option Nat)}{σ:St}{H:Hp}{Q:VK}(h:Av t σ H vs)(q:sp vs H (λx H2=>∃a,x=.ref a/\(∃xs,aN K H2 a xs)/\df g tt te src σ Q (Hc K a) H2) E0):tComp (sY K (eA sp t)) g tt te src σ H Q:=h _ q
abbrev kRefs(ps:List (List Int×VB)):List V:=ps.map λz=>V.ref z.2
def BD(H:Hp)(ps:List (List Int×VB)):Prop:= ∀p∈ps,H p.2=some (.tup (p.1.map V.int))
theorem Ba{K:Frag}{H:Hp}{n:Nat}{q d:VB}{ps ps':List (List Int×VB)}(hq:aN K H q (kRefs ps))(hd:aN K H d (kRefs ps'))(e:ps.map (·.1)=ps'.map (·.1))(h1:BD H ps)(h2:BD H ps'):oQ K H (n+2) (.ref q) (.ref d) true:=by
 have hl:ps.length=ps'.length:=by have:=NW List.length e;rwa[RT,RT]at this
 have z:=oQ.lst (n:=n+1) (es:=λ_=>true) hq hd (by rw[RT,RT];exact hl) (λi x y hx hy=>by
  have i1:i<ps.length:=by have:=(Sd.mp hx).1;rwa[RT]at this
  have i2:i<ps'.length:=by omega
  rw[RX,RU i1]at hx;rw[RX,RU i2]at hy;cases hx;cases hy;have w:=qH (K:=K) (n:=n) (h1 _ (Se i1)) (h2 _ (Se i2));have ek:ps[i].1=ps'[i].1:=by
   have a:(ps.map (·.1))[i]? =some ps[i].1:=by rw[RX,RU i1];rfl
   have b:(ps'.map (·.1))[i]? =some ps'[i].1:=by rw[RX,RU i2];rfl
   rw[e,b]at a;exact(NV a).symm
  rw[C0 ek]at w;exact w)
 rw[show((List.range (kRefs ps).length).all λ_=>true)=true from Sh.mpr λ_ _=>rfl]at z;exact z
section
variable{K:Frag}{σ:St}{H:Hp}{ta tb te:TE}
theorem kO{op:Po}{R:Bool->Hp->Prop}(h:ta σ H λx H1=>tb σ H1 λy H2=>aV K op x y H2 (dw R)):fX (eY K op ta tb) σ H R:=h
end
theorem CW{K:Frag}{H:Hp}{n:Nat}{a b:VB}(ha:H a=some (.lst []))(hb:H b=some (.lst [])):oQ K H (n+1) (.ref a) (.ref b) true:=by have z:=oQ.lst (n:=n) (es:=λ_=>true) (aN.of (K:=K) ha) (aN.of hb) rfl (λi x y hx=>by simp at hx);exact z
theorem xz{c:Nat}{v:Int}(h:bB c=.int v):lf c=.str (one (lo1 c))/\(v=0\/v=1):=by
 unfold bB at h;unfold lf;split at h
 .cases h
 .rename_i z;rw[NQ z];injection h with h;refine⟨rfl,?_⟩;rw[<-h];split
  .exact .inl rfl
  .exact .inr rfl
theorem Bq{sp:Sp}{t:TA}{σ:St}{H:Hp}{R:Bool->Hp->Prop}{vs:List V}(h:Av t σ H vs)(q:sp vs H (dw λc H1=>R (!c) H1) E0):xv (fX (eA sp t)) σ H R:=h _ q
theorem yH{K:Frag}{op:Po}{sp:Sp}{t:TA}{tb:TE}{σ:St}{H:Hp}{R:Bool->Hp->Prop}{vs:List V}(h:Av t σ H vs)(q:sp vs H (λx H1=>tb σ H1 λy H2=>aV K op x y H2 (dw R)) E0):fX (eY K op (eA sp t) tb) σ H R:=h _ q
structure ip(wi hi:Int)(hs:List Int)(ks:List Nat)(z:Str):Prop where
 len:z.length=(wi*hi).toNat
 at_:∀(s c:Nat),z.cps.toList[s]? =some c->fW ks c (if(s:Int)∈hs then 35 else 46)=true
theorem fV{ks:List Nat}{c:Nat}{hs:List Int}{s:Int}(h:fW ks c (if s∈hs then 35 else 46)=true):(s∈hs/\c=35)\/(¬s∈hs/\(c=46\/c∈ks\/c∈ks.map (· - 32))):=by
 unfold fW at h
 by_cases m:s∈hs
 .rw[NR m,NR rfl]at h;exact .inl ⟨m,NS h⟩
 .rw[NQ m,NQ (by decide)]at h;exact .inr ⟨m,NS h⟩
theorem w6{ks:List Nat}{c:Nat}(hl:∀k∈ks,jF k)(h:c=46\/c∈ks\/c∈ks.map (· - 32)):Sg c/\c≠35:=by
 unfold Sg
 rcases h with h|h|h
 .omega
 .have:=hl c h;unfold jF at this;omega
 .obtain⟨k,hk,rfl⟩:=RW.mp h;have:=hl k hk;unfold jF at this;omega
theorem ip.g{wi hi:Int}{hs:List Int}{ks:List Nat}{z:Str}(R:ip wi hi hs ks z)(hl:∀k∈ks,jF k)(m:wi*hi<=64):Dm z hs:=by
 have sg:∀c∈z.cps.toList,Sg c:=λc hc=>by
  obtain⟨s,hs'⟩:=SZ hc
  rcases fV (R.at_ s c hs')with⟨_,h⟩|⟨_,h⟩
  .exact .inr (.inl h)
  .exact(w6 hl h).1
 refine⟨⟨by rw[R.len];omega,λc hc=>(sg c hc).lt⟩,sg,λs s0 s1 hn=>?_⟩;have hlt:s.toNat<z.cps.toList.length:=by have:z.length=z.cps.toList.length:=rfl;omega
 have e:z.cps.toList[s.toNat]? =some (z.cps.toList.getD s.toNat 0):=by rw[RY,RU hlt];rfl
 have:=R.at_ _ _ e;rw[show((s.toNat:Nat):Int)=s by omega]at this
 rcases fV this with⟨h,_⟩|⟨_,h⟩
 .exact NU h hn
 .exact(w6 hl h).2
theorem ip.put{wi hi:Int}{hs:List Int}{ks:List Nat}{z:Str}{s:Int}{c:Nat}(R:ip wi hi hs ks z)(s0:0<=s)(s1:s<z.length)(hn:¬s∈hs)(hc:c=46\/c∈ks\/c∈ks.map (· - 32)):ip wi hi hs ks (fg z s (one c)):=by
 refine⟨by rw[gU s0 s1];exact R.len,λj d hd=>?_⟩;rw[kG s0 s1]at hd;have ll:z.length=z.cps.toList.length:=rfl;have lt:(z.cps.toList.take s.toNat).length=s.toNat:=by rw[Si];omega
 by_cases h1:j<s.toNat
 .rw[SM,SU (by omega),Te h1]at hd;exact R.at_ j d hd
 .by_cases h2:j=s.toNat
  .subst h2;rw[SM,S4 (by omega),lt,Nat.sub_self]at hd;have:c=d:=by simpa using hd
   subst this;rw[show((s.toNat:Nat):Int)=s by omega,NQ hn];unfold fW;rw[NQ (by decide)];exact C0 hc
  .rw[S4 (by rw[R9,lt];show s.toNat+1<=j;omega),R9,lt,List.getElem?_drop]at hd;have e:s.toNat+1+(j - (s.toNat+[c].length))=j:=by show s.toNat+1+(j - (s.toNat+1))=j;omega
   rw[e]at hd;exact R.at_ j d hd
theorem fc{te:TE}{D:dW}{σ:St}{H:Hp}(h:te σ H D.rt):cg te D σ H:=h
theorem y9{K:Frag}{te:TE}{src:List (Option Nat)}{σ rest:St}{H:Hp}{Q:VK}{d:VB}{xs:List V}(hx:H d=some (.lst xs))(hz:xs.length<=v1)(hs:dX src σ=none::rest)(R:Nat->Hp->V->Prop)(hR:∀i H H' v,R i H v->ak H H'->R i H' v)(he:∀(i:Nat) x H',xs[i]? =some x->ak H H'->∀Q:VK,(∀v H2,R i H2 v->ak H' H2->Q v H2)->te (some x::rest) H' Q)(q:∀d' H' ys,ak H H'->H' d'=none->ys.length=xs.length->(∀i y,ys[i]? =some y->R i H' y)->Q (.ref d') (upd H' d' (.lst ys))):df (gName 0) je te src σ Q (Hc K d) H:=by
 refine iO xs.length (λi ys σ' H'=>ak H H'/\(∃v,σ'=v::rest)/\ys.length=i/\∀j y,ys[j]? =some y->R j H' y) hz (λi ys σ H h=>T9 h.2.2.1)
  (λi ys σ H' h hi=>⟨xs,xs[i],aN.of (h.1 _ _ hx),RU hi⟩) (λys σ H' h=>⟨xs,aN.of (h.1 _ _ hx),TX _⟩) ⟨ak.refl H,⟨none,hs⟩,rfl,λj y e=>by simp at e⟩ ?_ ?_
 .rintro i ys _ H1 x H2 hi ⟨s1,⟨v0,rfl⟩,hl,hy⟩ ⟨rfl,hyy⟩ Kt Kf ht hf;have ex:=hyy xs (aN.of (s1 _ _ hx));simp only[gName,je,SR,if_true];refine he i x _ ex s1 _ λv H2 rv s2=>ht _ _ _ ⟨s1.trans s2,⟨_,rfl⟩,by simp[hl],λj y e=>?_⟩
  by_cases q:j<ys.length
  .rw[SU q]at e;exact hR _ _ _ _ (hy j y e) s2
  .by_cases q2:j=ys.length
   .subst q2;simp at e;subst e;rw[hl];exact rv
   .rw[Sn (by simp;omega)]at e;cases e
 .rintro ys _ H1 dd ⟨s1,_,hl,hy⟩ hd;exact q dd H1 ys s1 hd hl hy
theorem wG{α:Type}{H0 H:Hp}(f:α->List Int):∀(l:List α)(ys:List V),ys.length=l.length->(∀(i:Nat)(y:V),ys[i]? =some y->∃x t,l[i]? =some x/\y=.ref t/\H0 t=none/\H t=some (.tup ((f x).map V.int)))->∃ps:List (List Int×VB),ys=kRefs ps/\ps.map (·.1)=l.map f/\∀p∈ps,H0 p.2=none/\H p.2=some (.tup (p.1.map V.int))
 | [],[],_,_=>⟨[],rfl,rfl,λ_ z=>nomatch z⟩
 |x::l,y::ys,hl,h=>by
  obtain⟨x',t,e1,rfl,e3,e4⟩:=h 0 y rfl;have e1:x=x':=by simpa using e1
  subst e1;obtain⟨ps,rfl,p2,p3⟩:=wG f l ys (by simpa using hl) λi y hy=>h (i+1) y (by simpa using hy);refine⟨(f x,t)::ps,rfl,by rw[Sk,Sk,p2],λp hp=>?_⟩
  rcases RV.mp hp with rfl|hp
  .exact⟨e3,e4⟩
  .exact p3 p hp
 | [],_::_,hl,_=>by simp at hl
 |_::_,[],hl,_=>by simp at hl
def Jz(wi hi:Int)(hs:List Int)(row:Str)(us:List (aJ×VB))(sd sq:Int)(l':List (Int×Int)):Prop:= ∃l,aO wi hi hs row sq sd (ofKind us (one (lo1 (row.cps.toList.getD sq.toNat 0)))) l/\tR l l'
theorem Jz.uniq{wi hi:Int}{hs:List Int}{row:Str}{us:List (aJ×VB)}{sd sq:Int}{l l':List (Int×Int)}(h:Jz wi hi hs row us sd sq l)(h':Jz wi hi hs row us sd sq l'):l=l':=by obtain⟨m,a,b⟩:=h;obtain⟨m',a',b'⟩:=h';have e:=a.uniq a';subst e;exact b.uniq b'
def tk3(s:Int)(x:Int×Int):List Int:=[s,x.1,x.2]
inductive ke(wi hi:Int)(hs:List Int)(row:Str)(us:List (aJ×VB))(sd:Int):List Int->List (List Int)->Prop
 |nil:ke wi hi hs row us sd [] []
 |cons {s ss l m}:Jz wi hi hs row us sd s l->ke wi hi hs row us sd ss m->ke wi hi hs row us sd (s::ss) (l.map (tk3 s)++m)
theorem ke.uniq{wi hi:Int}{hs:List Int}{row:Str}{us:List (aJ×VB)}{sd:Int}:∀{ss:List Int}{m m':List (List Int)},ke wi hi hs row us sd ss m->ke wi hi hs row us sd ss m'->m=m'
 |_,_,_,.nil,.nil=>rfl
 |_,_,_,.cons a b,.cons c d=>by rw[a.uniq c,ke.uniq b d]
theorem ke.add{wi hi:Int}{hs:List Int}{row:Str}{us:List (aJ×VB)}{sd s:Int}{l:List (Int×Int)}(h:Jz wi hi hs row us sd s l):∀{ss:List Int}{m:List (List Int)},ke wi hi hs row us sd ss m->ke wi hi hs row us sd (ss++[s]) (m++l.map (tk3 s))
 |_,_,.nil=>by
  have:=ke.cons h ke.nil
  rwa[Sw]at this
 |_,_,.cons a b=>by rw[SM];exact .cons a (ke.add h b)
def xi(H H':Hp)(q:VB)(m:List (List Int)):Prop:= ∃ps:List (List Int×VB),ps.map (·.1)=m/\H' q=some (.lst (kRefs ps))/\∀p∈ps,H p.2=none/\H' p.2=some (.tup (p.1.map V.int))
theorem BO{H H1 H2:Hp}{q:VB}{m m2:List (List Int)}{ps ps2:List (List Int×VB)}(h1:ps.map (·.1)=m)(hq:∀xs,¬H2 q=some (.tup xs))(h3:∀p∈ps,H p.2=none/\H2 p.2=some (.tup (p.1.map V.int)))(s:ak H H1)(g1:ps2.map (·.1)=m2)(g3:∀p∈ps2,H1 p.2=none/\H2 p.2=some (.tup (p.1.map V.int))):xi H (upd H2 q (.lst (kRefs ps++kRefs ps2))) q (m++m2):=by
 refine⟨ps++ps2,by rw[Sc,h1,g1],by rw[ah,show kRefs (ps++ps2)=kRefs ps++kRefs ps2 from Sc ..],λp hp=>?_⟩;have ne:∀{p:VB}{xs:List V},H2 p=some (.tup xs)->p≠q:=λa e=>hq _ (e▸a)
 rcases Sa.mp hp with z|z
 .obtain⟨a1,a2⟩:=h3 p z;exact⟨a1,by rw[au (ne a2)];exact a2⟩
 .obtain⟨a1,a2⟩:=g3 p z;exact⟨s.free a1,by rw[au (ne a2)];exact a2⟩
theorem iW{row:Str}{sd s:Int}(h:s∈sqsOf row sd):0<=s/\s<row.length/\sdV row s=.int sd:=by obtain⟨n,hn,rfl⟩:=RW.mp h;obtain⟨a,b⟩:=Ss.mp hn;have:=R8.mp a;exact⟨by omega,by omega,NS b⟩
theorem nP{row:Str}{sd:Int}:(sqsOf row sd).length<=row.length:=by unfold sqsOf;rw[RT];refine T0 (SK _ _) ?_;rw[Sx];exact TX _
theorem Hu{l l':List (Int×Int)}(h:tR l l'):l'.Nodup:=by rw[SL];refine h.2.imp λh e=>?_;rw[e,jW]at h;cases h
theorem CN{K:Frag}{cB cG:VB}{H:Hp}{g b kq:VB}{wi hi:Int}{hs:List Int}{ks:List Nat}{us:List (aJ×VB)}{ts es:List ((Str×Str)×VB)}{st row:Str}{sq sd:Int}{Q:VK}(G:il K cB cG H g b kq wi hi hs ks us ts es st)(R:Dm row hs)(rl:(row.length:Int)=wi*hi)(s0:0<=sq)(s1:sq<row.length)(hsd:sdV row sq=.int sd)(q:∀(l':List (Int×Int))(q:VB)(H':Hp),Jz wi hi hs row us sd sq l'->l'.length<64->H q=none->cI H H' q l'->ak H H'->Q (.ref q) H'):oX K cB cG [.ref g,.str row,.int sq] H Q E0/\zA K cB cG [.ref g,.str row,.int sq] H Q E0:=by
 have B:=G.bd;obtain⟨ekd,sd2⟩:=xz (c:=row.cps.toList.getD sq.toNat 0) hsd;have few:∀l,aO wi hi hs row sq sd (ofKind us (one (lo1 (row.cps.toList.getD sq.toNat 0)))) l->∀m:List (Int×Int),m.Nodup->(∀x∈m,x∈l)->m.length<64:=λl hl m nd hm=>
  Md B.w8 B.h8 B.w1 s0 (by omega) (T0 (SK _ _) G.r12) (λz hz=>G.rg z (Ss.mp hz).1) hl m nd hm
 have rg0:∀z∈us,¬(z.1.ax=0/\z.1.up=0):=λz hz=>(G.rg z hz).n0;have k:∀(l l':List (Int×Int))(q:VB)(H':Hp),aO wi hi hs row sq sd (ofKind us (one (lo1 (row.cps.toList.getD sq.toNat 0)))) l->tR l l'->H q=none->cI H H' q l'->ak H H'->Q (.ref q) H':=λl l' t H' h1 h2 h3 h4 h5=>
  q l' t H' ⟨l,h1,h2⟩ (few l h1 l' (Hu h2) λx hx=>(h2.1 x).mp hx) h3 h4 h5
 exact⟨⟨g,b,row,_,sq,sd,wi,hi,hs,ks.map strV,bp ts,bp es,st,us,rfl,G.gm,G.bd,G.rl,G.r12,rg0,R.toRowS,rl,s0,by omega,hsd,sd2,ekd,few,k⟩,
  ⟨g,b,row,_,sq,sd,wi,hi,hs,ks.map strV,bp ts,bp es,st,us,rfl,G.gm,G.bd,G.rl,G.r12,rg0,R,rl,s0,by omega,hsd,sd2,ekd,few,k⟩⟩
def lF(K:Frag)(cB cG:VB):Sp:=λvs H Q _=>∃(g b kq p:VB)(row:Str)(sd wi hi:Int)(hs:List Int)(ks:List Nat)(us:List (aJ×VB))(ts es:List ((Str×Str)×VB))(st:Str),vs=[.ref g,.ref p]/\il K cB cG H g b kq wi hi hs ks us ts es st/\cJ K H p [.str row,.int sd]/\Dm row hs/\(row.length:Int)=wi*hi/\
 ∀(m:List (List Int))(q:VB)(H':Hp),ke wi hi hs row us sd (sqsOf row sd) m->m.length<=4096->H q=none->xi H H' q m->ak H H'->Q (.ref q) H'
structure CMv(P:N5)(w:N9)(K:Frag)(mg:NX)(np:Oe)(cB cG:VB):Prop where
 squares_of:cy P w K mg np "squares_of" ["row","side"] 2 nQ
 goals:cy P w K mg np "goals" ["game","row","square"] 5 (oX K cB cG)
theorem BK{K:Frag}{src:List (Option Nat)}{σ:St}{H0 H:Hp}{Q:VK}{d:VB}{l':List (Int×Int)}{ps:List (List Int×VB)}{sq:Int}{te:TE}(s0:ak H0 H)(p1:ps.map (·.1)=l'.map pk)(hx:H d=some (.lst (kRefs ps)))(p3:∀p∈ps,H p.2=some (.tup (p.1.map V.int)))(l64:l'.length<64)(hs:dX src σ=[none,some (.int sq)])(ht:∀(a:VB)(x y:Int)(H':Hp)(Q:VK),H' a=some (.tup [.int x,.int y])->(∀t,H' t=none->Q (.ref t) (upd H' t (.tup [.int sq,.int x,.int y])))->te [oR a,oJ sq] H' Q)(q:∀d' H' ps2,ak H H'->H' d'=none->ps2.map (·.1)=l'.map (tk3 sq)->(∀p∈ps2,H0 p.2=none/\H' p.2=some (.tup (p.1.map V.int)))->Q (.ref d') (upd H' d' (.lst (kRefs ps2)))):df (gName 0) je te src σ Q (Hc K d) H:=by
 have z:=NW List.length p1;rw[RT,RT]at z;refine y9 (rest:=[oJ sq]) hx (by rw[RT,Oc];omega) hs (λj H' v=>∃x t,l'[j]? =some x/\v=.ref t/\H0 t=none/\H' t=some (.tup ((tk3 sq x).map V.int))) (λi H H' v h s=>?_) (λi x H' hx' s' Q' q'=>?_) (λd' H' ys s' hd hl hy=>?_)
 .obtain⟨x,t,a,b,c,e⟩:=h;exact⟨x,t,a,b,c,s _ _ e⟩
 .have hi:i<ps.length:=by
   have:=(Sd.mp hx').1
   rwa[RT]at this
  have hi2:i<l'.length:=by omega
  rw[RX,RU hi]at hx';obtain rfl:V.ref ps[i].2=x:=NV hx';have e:ps[i].1=pk l'[i]:=by
   have a:(ps.map (·.1))[i]? =some ps[i].1:=by rw[RX,RU hi];rfl
   rw[p1,RX,RU hi2]at a;exact(NV a).symm
  have h4:=s' _ _ (p3 _ (Se hi));rw[e]at h4;refine ht _ l'[i].1 l'[i].2 H' Q' h4 λt ht=>q' _ _ ⟨l'[i],t,RU hi2,rfl,(s0.trans s').free ht,ah⟩ ((ak.refl H').upd ht)
 .obtain⟨ps2,rfl,e1,e2⟩:=wG (tk3 sq) l' ys (by rw[hl,RT];exact z) hy;exact q d' H' ps2 s' hd e1 e2
theorem IT{K:Frag}{op:Po}{ta tb:TE}{σ:St}{H:Hp}{Q:VK}(h:ta σ H λx H1=>tb σ H1 λy H2=>aV K op x y H2 Q):eY K op ta tb σ H Q:=h
theorem qQ{sp:Sp}{t:TA}{σ:St}{H:Hp}{Q:VK}(h:t σ H λvs H1=>sp vs H1 Q E0):eA sp t σ H Q:=h
def zF(c:Nat)(sd:Int):Nat:=if sd=0 then c - 32 else c
def farI(hi sd:Int):Int:=if sd=0 then hi - 1 else 0
def Gx(K:Frag)(cB:VB):Sp:=λvs H Q _=>∃(p:VB)(wi hi:Int)(hs:List Int)(sd:Int),vs=[.ref p,.int sd]/\cb K cB H p wi hi hs/\Q (.int (farI hi sd)) H
theorem yE{tl te:TE}{tt:TT}{src:List (Option Nat)}{σ rest:St}{H:Hp}{Q:VK}{z:Str}(hl:Ev tl σ H (.str z))(hz:z.length<=1000)(hs:dX src σ=none::rest)(p:Nat->Bool)(f:Nat->V)(ht:∀(c:Nat)(H':Hp),c∈z.cps.toList->ak H H'->∀R:Bool->Hp->Prop,(∀H'',ak H' H''->R (p c) H'')->tt (some (.str (one c))::rest) H' R)(he:∀(c:Nat)(H':Hp),c∈z.cps.toList->p c=true->ak H H'->Ev te (some (.str (one c))::rest) H' (f c))(q:∀H' d,ak H H'->H' d=none->Q (.ref d) (upd H' d (.lst ((z.cps.toList.filter p).map f)))):tComp (L0 tl) (gName 0) tt te src σ H Q:=by
 refine hl _ ?_;show df _ tt te src σ Q (MQ z) H;have zl:z.length=z.cps.toList.length:=rfl;refine iO z.length (λi ys σ' H'=>ak H H'/\(∃o0,σ'=o0::rest)/\ys=((z.cps.toList.take i).filter p).map f) (T0 hz (by decide)) (λi ys σ H h=>?_) (λi ys σ H h hi=>hi) (λys σ H h=>TX _) ⟨ak.refl H,⟨_,hs⟩,rfl⟩ ?_ ?_
 .rw[h.2.2,RT];refine T0 (SK _ _) ?_;rw[Si];exact Nat.min_le_left _ _
 .rintro i ys _ H1 x H2 hi ⟨s1,⟨o0,rfl⟩,rfl⟩ ⟨rfl,c,hc,rfl⟩ Kt Kf kt kf;have hi':i<z.cps.toList.length:=by rw[<-zl];exact hi
  have ec:z.cps.toList[i]=c:=by rw[RU hi']at hc;exact NV hc
  have tk:z.cps.toList.take (i+1)=z.cps.toList.take i++[c]:=by rw[Tx hi',ec]
  have hm:c∈z.cps.toList:=Sl hc;show tt (some (.str (one c))::rest) _ _;refine ht c _ hm s1 _ (λH3 s3=>?_);cases hp:p c with
  |true=>
   refine iI (he c _ hm hp (s1.trans s3) _ (kt _ _ _ ⟨s1.trans s3,⟨_,rfl⟩,?_⟩));rw[tk,Tl,Sc,Sr,NR hp];rfl
  |false=>
   refine iJ (kf _ _ ⟨s1.trans s3,⟨_,rfl⟩,?_⟩);rw[tk,Tl,Sc,Sr,NQ (by rw[hp];decide)];simp
 .rintro ys σ' H' d ⟨s1,_,rfl⟩ hd;rw[zl,SX];exact q H' d s1 hd
theorem CY{K:Frag}{H:Hp}{n:Nat}{a b:VB}{xs:List V}(ha:H a=some (.lst xs))(hb:H b=some (.lst [])):oQ K H (n+1) (.ref a) (.ref b) (decide (xs=[])):=by
 cases xs with
 |nil=>exact CW ha hb
 |cons x xs=>exact oQ.len (aN.of ha) (aN.of hb) (by simp)
theorem iZ:plainId "dict.update.loop"=true:=by decide+kernel
theorem oE:entryFor table "dict.update.loop"=some Pj.«dict.update.loop» :=entryFor_of_fast (by kernel_rfl)
theorem qw:Qq (.type "list") "keys"=pure none:=by rw[Pq,OS];kernel_rfl
section
variable{prog:N5}{w:N9}{A:Oi}{E:NY}{s:N3}
theorem Ct{a:VB}{o:Obj}{xs:Array VA}{k:Nat}{Q:Option VA->N3->Prop}(hx:s.heap.get? a=some o)(hc:o.cls=.type "list")(hdat:o.data=.seq xs k)(hd:o.dict=none)(hA:A.handled=none)(h:∀h' tk,(∀b ob,s.heap.get? b=some ob->h'.get? b=some ob)->Q none {s with heap:=h',toks:=tk}):N8 (Od prog w) A (getAttr? (.ref a) "keys") Q E s:=by
 obtain⟨c,dct,dat,sl⟩:=o;simp only at hc hdat hd;subst hc hdat hd;obtain⟨hp,g,d,tk,os⟩:=s;have hT:∀tk',(⟨hp,g,d,tk',os⟩:N3).TypeIs (.ref a) "list":=λ_=>⟨_,hx,rfl⟩;have f1:=sub_AttributeError;have f3:=PySem.F.slot_list_getattribute.lookup;have f4:=PySem.F.slot_list_getattribute.bind (.ref a);have f5:=am_list_getattr_none;unfold getAttr? getAttrBy? getAttrBy
 repeat (any_goals (first|assumption|exact hT _|((with_reducible show N8 _ _ (call (Value.builtin "list.__getattribute__") _ _) _ _ _);refine QW PySem.F.slot_list_getattribute (hT _) am_entry_list_getattribute (PySem.F.args_list_getattribute_2 _ _) (meets_getattribute_miss_list a xs k sl "keys" _ qw (by decide+kernel) (by decide)) ⟨hx,hA,λh' tk' e hx'=>?_⟩)|wp_step))
 obtain⟨t',u',he⟩:=hx'.there;have hTe:∀tk'',(⟨h',g,d,tk'',os⟩:N3).TypeIs (.ref e) "AttributeError":=λ_=>⟨_,he,rfl⟩;show N8 _ _ (getattributeRaised _ _ _ _ _ _ _) _ _ _;unfold getattributeRaised
 repeat (any_goals (first|assumption|exact hTe _|wp_step))
 exact h h' tk' hx'.keeps
variable{K:Type}[DecidableEq K]{knd:KeyKind prog w K}
def gE(kvs:List (K×VA)):List (K×VA)->List (K×VA)
 | []=>kvs
 |p::ps=>gE (RO kvs p.1 p.2) ps
theorem uh{kvs:List (K×VA)}{k:K}{v:VA}:(RO kvs k v).length<=kvs.length+1:=by
 unfold RO;split
 .rw[RT];omega
 .rw[R9];exact TX _
theorem Bl{d it l:VB}{items:Array VA}{R:RL->N3->Prop}(hA:A.handled=none)(hdi:d≠it)(hdl:d≠l)(hil:it≠l):∀(rest:List (K×VA))(i:Nat)(s:N3)(kvs:List (K×VA))(tk:Rt),i+rest.length=items.size->s.heap.IsListIter it l i->s.heap.IsList l items->s.heap.DictOf knd d kvs->(∀j p,rest[j]? =some p->∃t key,items[i+j]? =some (.ref t)/\s.heap.IsTuple t #[key,p.2]/\knd.is p.1 key=true/\t≠d/\t≠it)->kvs.length+rest.length<=v1->(∀s',s'.heap.DictOf knd d (gE kvs rest)->(∀b o,b≠d->b≠it->s.heap.get? b=some o->s'.heap.get? b=some o)->s'.gens=s.gens->s'.drawn=s.drawn->s'.os=s.os->s.toks<=s'.toks->R (.ok (.ret .none)) s')->PQ (Od prog w) A (.builtin "dict.update.loop" ⟨[.ref d,.ref it,.int i tk,.none],[]⟩) R s:=by
 intro rest
 induction rest with
 |nil=>
  intro i s kvs tk hi hit hl hd hp hz hR;refine Ou oE ?_;rw[Om iZ _];show N8 _ A.in1 (Ph (.ref it) >>= _) _ _ s;refine N0 (Q4 (show A.in1.handled=none from hA) hit hl (by rw[US];simp at hi;omega) λh' ext=>?_);show N8 _ _ (Builtin.Dict.addKeywords d [] >>= _) _ _ _;exact N0 (N2 (N2 (hR _ (hd.extBut ext hdi) (λb o _ hb e=>ext b o hb e) rfl rfl rfl (TX _))))
 |cons p rest ih=>
  intro i s kvs tk hi hit hl hd hp hz hR;obtain⟨t,key,hx,ht,hk,htd,hti⟩:=hp 0 p rfl;refine Ou oE ?_;rw[Om iZ _];show N8 _ A.in1 (Ph (.ref it) >>= _) _ _ s;refine N0 (QQ hit hl hx λh1 hit1 sb1=>?_);obtain⟨ot,hot,hct,nt,hdt⟩:=ht;have hot1:h1.get? t=some ot:=(sb1.2 t hti).trans hot;have hT:(⟨h1,s.gens,s.drawn,s.toks,s.os⟩:N3).TypeIs (.ref t) "tuple":=⟨_,hot1,hct⟩;refine N0 (On (N0 (wpAny_tryCatch ?_)));unfold Builtin.Dict.pairItems;refine N0 (Pc hT ?_);show N8 _ _ (if _ then _ else _) _ _ _;rw[NR (by decide)];refine N0 (OD hot1 hdt (N2 ?_));show N8 _ _ (QU [key,p.2] (dictSet d key p.2)) _ _ _;have hd1:h1.DictOf knd d kvs:=hd.extBut (λb o hb e=>(sb1.2 b hb).trans e) hdi;refine On (wpAny_dictSet_pairs hk hd1 (λh2 hd2 sb2=>?_) (by simp at hz;omega));refine N2 ⟨O5 iZ _,?_⟩;have hb2:∀b o,b≠d->b≠it->s.heap.get? b=some o->h2.get? b=some o:=λb o nd ni e=>(sb2.2 b nd).trans ((sb1.2 b ni).trans e);have sl:=uh (kvs:=kvs) (k:=p.1) (v:=p.2);rw[Sf]at hi hz;refine ih (i+1) ⟨h2,s.gens,s.drawn,s.toks+1,s.os⟩ (RO kvs p.1 p.2) _ (by omega) ?_ ?_ hd2 (λj q hq=>?_) (by omega) (λs' a1 a2 a3 a4 a5 a6=>?_)
  .obtain⟨oi,e1,e2,e3⟩:=hit1;exact⟨oi,(sb2.2 it (Ne.symm hdi)).trans e1,e2,e3⟩
  .obtain⟨ol,e1,e2⟩:=hl;exact⟨ol,hb2 l ol (Ne.symm hdl) (Ne.symm hil) e1,e2⟩
  .obtain⟨t',key',b1,⟨o',c1,c2⟩,b3,b4,b5⟩:=hp (j+1) q (by simpa using hq);exact⟨t',key',by rw[show i+1+j=i+(j+1) by omega];exact b1,⟨o',hb2 t' o' b4 b5 c1,c2⟩,b3,b4,b5⟩
  .exact hR s' a1 (λb o nd ni e=>a2 b o nd ni (hb2 b o nd ni e)) a3 a4 a5 (T0 (T3 _) a6)
theorem lA{l:VB}{o:Obj}{items:Array VA}{n:Nat}{Q:NY}(hA:A.handled=none)(ho:s.heap.get? l=some o)(hc:o.cls=.type "list")(hdat:o.data=.seq items n)(hdd:o.dict=none)(ps:List (K×VA))(hlen:ps.length=items.size)(hsz:ps.length<=v1)(hp:∀(j:Nat)(p:K×VA),ps[j]? =some p->∃t key,items[j]? =some (Of t)/\s.heap.IsTuple t #[key,p.2]/\knd.is p.1 key=true)(h:∀s',s'.heap.DictOf knd s.heap.objs.size (gE [] ps)->(∀b o,s.heap.get? b=some o->s'.heap.get? b=some o)->s'.gens=s.gens->s'.drawn=s.drawn->s'.os=s.os->Q (.ref s.heap.objs.size) s'):N8 (Od prog w) A (call (.type "dict") [.ref l]) Q E s:=by
 refine callType_codes (Q₁:=λobj s₁=>obj=.ref s.heap.objs.size/\s₁={s with heap:=s.heap.push {cls:=.type "dict",data:=.dict #[]}}) F.kt_called_dict (F.kt_typeCall_dict_1 _) F.entry_dict_init (kt_code_dict_new _ ⟨rfl,rfl⟩) ?_;rintro obj s₁ ⟨rfl,rfl⟩;have hnew:(s.heap.push {cls:=.type "dict",data:=.dict #[]}).DictOf knd s.heap.objs.size []:=Heap.DictOf.new s.heap;have ho':(s.heap.push {cls:=.type "dict",data:=.dict #[]}).get? l=some o:=N1 _ ho;refine⟨hnew.typeIs,F.args_dict_init_2 _ _,?_⟩;unfold Pj.«dict.__init__»;refine N0 ?_;unfold Builtin.Dict.selfAndRest;refine N0 (wpAny_notOrdered_dict hnew.typeIs ?_);show N8 _ _ (pure (s.heap.objs.size,[Of l])) _ _ _;refine N2 ?_;show N8 _ _ (QO "dict.__init__" s.heap.objs.size (.ref l) [] .none) _ _ _;unfold QO;refine N0 (Pc (show Qd {s with heap:=s.heap.push {cls:=.type "dict",data:=.dict #[]}} (.ref l) "list"from⟨_,ho',hc⟩) ?_);rw[NR (by decide)];refine N0 (Ct ho' hc hdat hdd (show A.in1.in1.handled=none from hA) λh1 tk1 k1=>?_);rw[NR (by rfl)];have hl1:h1.IsList l items:=⟨o,k1 _ _ ho',hc,n,hdat⟩;have hd1:h1.DictOf knd s.heap.objs.size []:=by obtain⟨o',es,ep,e1,r⟩:=hnew;exact⟨o',es,ep,k1 _ _ e1,r⟩
 have ls:l<s.heap.objs.size:=N4 ho;have dlt:s.heap.objs.size<h1.objs.size:=by obtain⟨o',es,ep,e1,r⟩:=hd1;exact N4 e1
 refine N0 (QP ?_);refine N0 (Pd hl1 ?_);refine N2 ⟨O5 iZ _,?_⟩;refine Bl (A:=A.in1) hA (TY dlt) (T4 ls) (T4 (T6 ls dlt)) ps 0 _ [] _ (by omega) ⟨_,N7 _ rfl,rfl,rfl⟩ (hl1.push _) (hd1.push _) (λj p hj=>?_) (by simpa using hsz) (λs' a1 a2 a3 a4 a5 a6=>?_)
 .obtain⟨t,key,b1,⟨ot,c1,c2⟩,b3⟩:=hp j p hj;have tl:=N4 c1;exact⟨t,key,by rw[T8];exact b1,⟨ot,N1 _ (k1 _ _ (N1 _ c1)),c2⟩,b3,TY tl,TY (T6 tl dlt)⟩
 .refine⟨rfl,h s' a1 (λb o e=>?_) a3 a4 a5⟩;have bl:=N4 e;exact a2 b o (TY bl) (TY (T6 bl dlt)) (N1 _ (k1 _ _ (N1 _ e)))
end
end L2
namespace L2
open PySem PySem.W PySem.Calls PySem.Spec PyProof.Rows
def kvsOf(kvs:List (Key×V)):List (Str×Str)->List (Key×V)
 | []=>kvs
 |p::ps=>kvsOf (pV kvs (.inr p.1) (.str p.2)) ps
theorem om:∀(ps:List (Str×Str))(kvs:List (Key×V)),(kvsOf kvs ps).length<=kvs.length+ps.length
 | [],kvs=>TX _
 |p::ps,kvs=>by have a:=om ps (pV kvs (.inr p.1) (.str p.2));have b:=sS kvs (.inr p.1) (.str p.2);show(kvsOf (pV kvs (.inr p.1) (.str p.2)) ps).length<=_;rw[Sf];omega
theorem Hg{a b:Str}{us:List VA}(r:aX [.str a,.str b] us):∃t1 t2,us=[.str a t1,.str b t2]:=by
 cases r with
 |cons r0 r1=>
 cases r1 with
 |cons r2 r3=>
 cases r3;obtain⟨t1,rfl⟩:=(show∃t,_=Ps a t from r0);obtain⟨t2,rfl⟩:=(show∃t,_=Ps b t from r2);exact⟨t1,t2,rfl⟩
theorem Ae{h:Oe}:∀(zs:List ((Str×Str)×VB)),(∀z∈zs,∃t1 t2,h.IsTuple z.2 #[.str z.1.1 t1,.str z.1.2 t2])->∃ps:List (Key×VA),ps.length=zs.length/\(∀(j:Nat)(p:Key×VA),ps[j]? =some p->∃z key,zs[j]? =some z/\h.IsTuple z.2 #[key,p.2]/\aQ (kV p.1) key)/\∀(kvs:List (Key×V))(vs:List (Key×VA)),KV kvs vs->KV (kvsOf kvs (zs.map (·.1))) (gE vs ps)
 | [],_=>⟨[],rfl,λj p e=>by simp at e,λkvs vs r=>r⟩
 |z::zs,hz=>by
  obtain⟨t1,t2,ht⟩:=hz z R6;obtain⟨ps,p1,p2,p3⟩:=Ae zs λy hy=>hz y (R7 _ hy);refine⟨(.inr z.1.1,.str z.1.2 t2)::ps,by simp[p1],λj p e=>?_,λkvs vs r=>p3 _ _ (r.put _ ⟨t2,rfl⟩)⟩;cases j with
  |zero=>
   have e:(Sum.inr z.1.1,Ps z.1.2 t2)=p:=by simpa using e
   subst e;exact⟨z,_,rfl,ht,t1,rfl⟩
  |succ j=>
   obtain⟨y,key,a,b⟩:=p2 j p (by simpa using e);exact⟨y,key,by simpa using a,b⟩
section
variable{X:Cx}
def vz(K:Frag)(xs:List V)(H:Hp)(Q:VK):Prop:= ∃(d:VB)(zs:List ((Str×Str)×VB)),xs=[.ref d]/\aN K H d (bp zs)/\(∀z∈zs,cJ K H z.2 [.str z.1.1,.str z.1.2])/\zs.length<=1000/\∀q,H q=none->Q (.ref q) (upd H q (.dK (kvsOf [] (zs.map (·.1)))))
theorem tJ(hA:X.A.handled=none):bf X (.type "dict") (vz X.K):=by
 intro gV s σ H xs us Q I rv h;obtain⟨d,zs,rfl,hd,hp,hz,q⟩:=h;cases rv with
 |cons r0 rn=>
 cases rn;cases r0;obtain⟨its,r,⟨o,n,e,hc,hdd,hdat⟩,_⟩:=I.list hd;have rl:=r.length;rw[RT]at rl;obtain⟨ps,p1,p2,p3⟩:=Ae (h:=s.heap) zs λz hz'=>by obtain⟨it2,r2,tp,_⟩:=I.tuple (hp z hz');obtain⟨t1,t2,rfl⟩:=Hg r2;exact⟨t1,t2,tp⟩
 refine lA (knd:=dM X.prog X.w) hA e hc hdat hdd ps (by rw[p1,RZ];exact rl) (by rw[p1,Oc];omega) (λj p hj=>?_) (λs' a1 a2 a3 a4 a5=>?_)
 .obtain⟨z,key,b1,b2,b3⟩:=p2 j p hj;refine⟨z.2,key,?_,b2,GS b3⟩;obtain⟨u,hu,ru⟩:=r.get (show(bp zs)[j]? =some (V.ref z.2) by rw[RX,b1];rfl);cases ru;simpa using hu
 .have kl:=om (zs.map (·.1)) [];rw[RT]at kl;have hq:H s.heap.objs.size=none:=I.hok.fresh (TX _);obtain⟨h',g',d',t',os'⟩:=s';obtain rfl:g'=s.gens:=a3;obtain rfl:d'=s.drawn:=a4;obtain rfl:os'=s.os:=a5;have k2:∀b o,s.heap.get? b=some o->h'.get? b=some o:=a2;have dd:h'.DictOf (dM X.prog X.w) s.heap.objs.size (gE [] ps):=a1;have kz:(kvsOf [] (zs.map (·.1))).length<=v1:=by rw[Oc];have:([]:List (Key×V)).length=0:=rfl;omega
  exact⟨.ref s.heap.objs.size,upd H s.heap.objs.size (.dK (kvsOf [] (zs.map (·.1)))),I.laid (t':=t') k2 (TX _) (IQ kz (beq_eq_false_iff_ne.mpr (Ne.symm (TY I.big))) (p3 [] [] .nil) dd),rfl,q _ hq⟩
theorem AG(K:Frag){j:Nat}(hr:cY j X.A)(hK:X.K=K:=by rfl):bf X (.type "dict") (vz K):=by subst hK;exact tJ hr.hd
end
def IG(x:V)(xs:List V)(H:Hp)(Q:VK):Prop:= ∃a kvs k y,x=.ref a/\xs=[kV k,y]/\H a=some (.dK kvs)/\Q ((valV kvs k).getD y) H
theorem Cz{X:Cx}:qX X "dict.get" IG:=by
 intro gV s σ H x xs v us Q I rx rv h;obtain⟨a,kvs,k,y,rfl,rfl,e,q⟩:=h;cases rx;cases rv with
 |cons r1 rn=>
 cases rn with
 |cons r2 rn2=>
 cases rn2;obtain⟨z,hd,vs,rel,dd⟩:=Mj I.hok e;refine call_meetsIn PySem.F.slot_dict_get dd.typeIs PySem.F.entry_dict_get (PySem.F.args_dict_get_3 _ _ _) (meets_dict_get_default (dM X.prog X.w) a (GS r1) hd _) ⟨_,dd.mapOf,?_⟩;exact⟨(valV kvs k).getD y,H,I.tok _,(rel.val k).getD r2,q⟩
theorem GR{X:Cx}{o e e2:Ol}{to:TE}{t:TA}{apos cpos:Qa}(K:Frag)(ho:PE X o to)(ha:PA X [e,e2] t)(hbase:OE o "get" X.env (Ow o X.env)=Ow o X.env:=by rfl)(hfew:((Ot cpos (N6 [e,e2] X.env)).all (λx=> !x.1)&&(P4 cpos (Pe [] X.env)).all (λx=>x.1.isSome)
   &&decide ([e,e2].length+([]:List Pg).length+(if([]:List Pg).isEmpty then 0 else 1)<30))=true:=by rfl) (hline:(apos.endLine == cpos.line)=true:=by rfl) (hs:N6 [e,e2] X.env=(false,Ow e X.env)::N6 [e2] X.env:=by rfl) (hplain:(Ot cpos (N6 [e2] X.env)).any (·.1)=false:=by rfl) (hK:X.K=K:=by rfl):PE X (.Call (.Attribute o "get" apos) [e,e2] [] cpos) (Nm K "dict" IG to t):=by
 subst hK;exact LF PySem.F.plainAttrs_dict PySem.F.slot_dict_get PySem.F.type_dict_get Cz ho ha hbase hfew hline hs hplain
end L2
namespace L2
open PySem PySem.Spec PyProof.Rows
def turnV(ts:List ((Str×Str)×VB))(kd:Str):V:=(valV (kvsOf [] (ts.map (·.1))) (.inr kd)).getD (.str kd)
theorem Bf{K:Frag}{te:TE}{ta:TA}{σ:St}{H:Hp}{Q:VK}{d:VB}{zs:List ((Str×Str)×VB)}{kd:Str}(h:Ev te σ H (.ref d))(hd:aN K H d (bp zs))(hp:gc H zs)(hz:zs.length<=1000)(ha:∀H',ak H H'->Av ta σ H' [.str kd,.str kd])(q:∀H',ak H H'->Q (turnV zs kd) H'):Nm K "dict" IG (cB (vz K) (bo te cL)) ta σ H Q:=
 h _ ⟨d,zs,rfl,hd,λz hz'=>cJ.of (hp z hz'),hz,λp hq=>⟨.inr (.inr (.inl ⟨rfl,.inl ⟨_,ah⟩⟩)),ha _ ((ak.refl H).upd hq) _ ⟨p,_,.inr kd,.str kd,rfl,rfl,ah,q _ ((ak.refl H).upd hq)⟩⟩⟩
theorem zg{P:V->Prop}{kvs:List (Key×V)}{k:Key}{v:V}(h:∀kv∈kvs,P kv.2)(e:valV kvs k=some v):P v:=by unfold valV at e;obtain⟨kv,h1,rfl⟩:=U1.mp e;exact h kv (List.mem_of_find?_eq_some h1)
theorem Ab{P:V->Prop}{kvs:List (Key×V)}{k:Key}{v:V}(h:∀kv∈kvs,P kv.2)(hv:P v):∀kv∈pV kvs k v,P kv.2:=λkv hkv=>by
 unfold pV at hkv;split at hkv
 .obtain⟨y,hy,rfl⟩:=RW.mp hkv;split
  .exact hv
  .exact h y hy
 .rcases Sa.mp hkv with w|w
  .exact h kv w
  .rw[R4.mp w];exact hv
theorem on{P:V->Prop}:∀(ps:List (Str×Str))(kvs:List (Key×V)),(∀kv∈kvs,P kv.2)->(∀p∈ps,P (.str p.2))->∀kv∈kvsOf kvs ps,P kv.2
 | [],_,h,_=>h
 |p::ps,kvs,h,hp=>on ps _ (Ab h (hp p R6)) λq hq=>hp q (R7 _ hq)
theorem jG{ks:List Nat}{ts:List ((Str×Str)×VB)}(g:oP ks ts){k:Nat}(hk:k∈ks):∃c∈ks,turnV ts (one k)=.str (one c):=by
 unfold turnV;cases e:valV (kvsOf [] (ts.map (·.1))) (.inr (one k))with
 |none=>exact⟨k,hk,rfl⟩
 |some v=>
  have z:=zg (P:=λv=>∃c∈ks,v=.str (one c)) (on (P:=λv=>∃c∈ks,v=.str (one c)) _ [] (λ_ z=>nomatch z) λp hp=>?_) e
  .obtain⟨c,hc,rfl⟩:=z;exact⟨c,hc,rfl⟩
  .obtain⟨y,hy,rfl⟩:=RW.mp hp;obtain⟨_,c,hc,e2⟩:=g.kd y hy;exact⟨c,hc,by rw[e2]⟩
def chrV:V->Nat
 | .str z=>z.cps.toList.getD 0 0
 |_=>0
def arrN(ts:List ((Str×Str)×VB))(wi hi:Int)(c:Nat)(sd gl:Int):Nat:=if gl / wi=farI hi sd then zF (chrV (turnV ts (one (lo1 c)))) sd else c
def dU(ts:List ((Str×Str)×VB))(wi hi:Int)(row:Str)(sd s gl t:Int):Str:=fg (if t= -1 then fg row s (one 46)else fg (fg row s (one 46)) t (one 46)) gl (one (arrN ts wi hi (row.cps.toList.getD s.toNat 0) sd gl))
def rc(cG:VB):Sp:=λvs H Q _=>∃(g b:VB)(kd:Str)(ks rs es:List V)(ts:List ((Str×Str)×VB))(st:Str),vs=[.ref g,.str kd]/\fY cG H g b ks rs (bp ts) es st/\gc H ts/\ts.length<=6/\∀H',ak H H'->Q (turnV ts kd) H'
def Gy(K:Frag)(cB cG:VB):Sp:=λvs H Q _=>∃(g b kq:VB)(c:Nat)(sd gl wi hi:Int)(hs:List Int)(ks:List Nat)(us:List (aJ×VB))(ts es:List ((Str×Str)×VB))(st:Str),vs=[.ref g,.str (one c),.int sd,.int gl]/\il K cB cG H g b kq wi hi hs ks us ts es st/\(c∈ks\/c∈ks.map (· - 32))/\∀H',ak H H'->Q (.str (one (arrN ts wi hi c sd gl))) H'
def rE(K:Frag)(cB cG:VB):Sp:=λvs H Q _=>∃(g b kq p mv:VB)(row:Str)(sd s gl t wi hi:Int)(hs:List Int)(ks:List Nat)(us:List (aJ×VB))(ts es:List ((Str×Str)×VB))(st:Str),vs=[.ref g,.ref p,.ref mv]/\il K cB cG H g b kq wi hi hs ks us ts es st/\cJ K H p [.str row,.int sd]/\cJ K H mv [.int s,.int gl,.int t]/\ip wi hi hs ks row/\0<=s/\s<row.length/\sdV row s=.int sd/\0<=gl/\gl<row.length/\(t= -1\/0<=t/\t<row.length)/\
 ∀(q:VB)(H':Hp),H q=none->H' q=some (.tup [.str (dU ts wi hi row sd s gl t),.int (1 - sd)])->ak H H'->Q (.ref q) H'
structure CD1(P:N5)(w:N9)(K:Frag)(mg:NX)(np:Oe)(cB cG:VB):Prop where
 kind_of:cy P w K mg np "kind_of" ["sign"] 1 uk
 sign_of:cy P w K mg np "sign_of" ["kind","side"] 1 oU
 row_of:cy P w K mg np "row_of" ["wide","square"] 1 rh
 Board_far_row:nj P w K mg np cB "far_row" ["self","side"] 1 (Gx K cB)
 Game_turned:nj P w K mg np cG "turned" ["self","kind"] 1 (rc cG)
structure CD2(P:N5)(w:N9)(K:Frag)(mg:NX)(np:Oe)(cB cG:VB):Prop where
 arrived:cy P w K mg np "arrived" ["game","sign","side","goal"] 2 (Gy K cB cG)
 put:cy P w K mg np "put" ["row","square","sign"] 1 Gv
theorem i7{ks:List Nat}(hl:∀k∈ks,jF k){c:Nat}(h:c∈ks\/c∈ks.map (· - 32)):lo1 c∈ks/\c<128/\¬(c=46\/c=35):=by
 rcases h with h|h
 .have:=hl c h;unfold jF at this;refine⟨?_,by omega,by omega⟩;have e:lo1 c=c:=by unfold lo1;split<;>omega
  rw[e];exact h
 .obtain⟨k,hk,rfl⟩:=RW.mp h;have:=hl k hk;unfold jF at this;refine⟨?_,by omega,by omega⟩;have e:lo1 (k - 32)=k:=by unfold lo1;split<;>omega
  rw[e];exact hk
theorem CC{C:VB}{m:Str}{sp:Sp}{to:TE}{t:TA}{σ:St}{H:Hp}{Q:VK}{p:VB}(ho:Ev to σ H (.ref p))(hi:tW C m H p)(q:t σ H λvs H2=>sp (.ref p::vs) H2 Q E0):Br C m sp to t σ H Q:=ho _ ⟨hi,q⟩
theorem A5{te:TE}{σ:St}{H:Hp}(h:Ev te σ H (.str ".")):Ev te σ H (.str (one 46)):=by
 have e:one 46=".":=by decide+kernel
 rw[e];exact h
theorem C8{row:Str}{sd:Int}{so ai:Str}{path:List Int}{x:Int×Int}(h:x∈tM row sd so ai path):x.1∈path/\(x.2= -1\/x.2∈path):=by
 have sl:∀p:List Int,(∀y∈p,y∈path)->x∈dY row sd ai p->x.1∈path/\(x.2= -1\/x.2∈path):=λp hp hx=>by
  obtain⟨g,hg,rfl⟩:=RW.mp ((o8 row sd ai p).subset hx);refine⟨hp g hg,?_⟩;unfold prG;show(if sdV row g=.non then(-1:Int)else g)= -1\/(if sdV row g=.non then(-1:Int)else g)∈path;split
  .exact .inl rfl
  .exact .inr (hp g hg)
 unfold tM at h;split at h
 .match path,h with
  | [],h=>simp[jY]at h
  | [_],h=>simp[jY]at h
  |a::b::r,h=>
   have h:x∈(if sdV row a=.int (1 - sd)/\sdV row b=.non then [(b,a)]else []):=h;split at h
   .have e:=R4.mp h;rw[e];exact⟨by simp,.inr (by simp)⟩
   .simp at h
 .refine sl _ (λy hy=>?_) h;split at hy
  .exact SY hy
  .exact hy
structure Jm(wi hi:Int)(hs:List Int)(row:Str)(sd s gl t:Int):Prop where
 s0:0<=s
 s1:s<row.length
 sd:sdV row s=.int sd
 g0:0<=gl
 g1:gl<wi*hi
 gn:¬gl∈hs
 tk:t= -1\/(0<=t/\t<wi*hi/\¬t∈hs)
theorem aO.inn{wi hi:Int}{hs:List Int}{row:Str}{sq sd:Int}(w1:1<=wi):∀{us:List (aJ×VB)}{l:List (Int×Int)},aO wi hi hs row sq sd us l->∀x∈l,(0<=x.1/\x.1<wi*hi/\¬x.1∈hs)/\(x.2= -1\/(0<=x.2/\x.2<wi*hi/\¬x.2∈hs))
 |_,_,.nil,_,h=>nomatch h
 |_,_,.cons a b,x,h=>by
  rcases Sa.mp h with w|w
  .obtain⟨n,ry,_,rfl⟩:=a;obtain⟨h1,h2⟩:=C8 w;refine⟨uD w1 ry _ h1,?_⟩
   rcases h2 with e|e
   .exact .inl e
   .exact .inr (uD w1 ry _ e)
  .exact aO.inn w1 b x w
theorem ke.ok{wi hi:Int}{hs:List Int}{row:Str}{us:List (aJ×VB)}{sd:Int}(w1:1<=wi):∀{ss:List Int}{m:List (List Int)},ke wi hi hs row us sd ss m->(∀s∈ss,0<=s/\s<row.length/\sdV row s=.int sd)->∀k∈m,∃s gl t,k=[s,gl,t]/\Jm wi hi hs row sd s gl t
 |_,_,.nil,_,_,z=>nomatch z
 |_,_,@ke.cons _ _ _ _ _ _ s ss l m a b,hss,k,z=>by
  rcases Sa.mp z with w|w
  .obtain⟨x,hx,rfl⟩:=RW.mp w;obtain⟨l0,hl,hs'⟩:=a;obtain⟨i1,i2⟩:=hl.inn w1 x ((hs'.1 x).mp hx);obtain⟨a1,a2,a3⟩:=hss s R6;exact⟨s,x.1,x.2,rfl,a1,a2,a3,i1.1,i1.2.1,i1.2.2,i2⟩
  .exact ke.ok w1 b (λy hy=>hss y (R7 _ hy)) k w
def NH(ts:List ((Str×Str)×VB))(wi hi:Int)(row:Str)(sd:Int)(k:List Int):Str×Int:=(dU ts wi hi row sd (k.getD 0 0) (k.getD 1 0) (k.getD 2 0),1 - sd)
theorem Dg{wi hi:Int}{hs:List Int}{ks:List Nat}{ts:List ((Str×Str)×VB)}{row:Str}{sd s gl t:Int}(R:ip wi hi hs ks row)(hl:∀k∈ks,jF k)(tg:oP ks ts)(rl:(row.length:Int)=wi*hi)(hc:row.cps.toList.getD s.toNat 0∈ks\/row.cps.toList.getD s.toNat 0∈ks.map (· - 32))(sn:¬s∈hs)(h:Jm wi hi hs row sd s gl t):ip wi hi hs ks (dU ts wi hi row sd s gl t):=by
 have R1:=R.put (c:=46) h.s0 h.s1 sn (.inl rfl);have l1:=gU (c:=46) h.s0 h.s1;have g1:=h.g1;have R2:ip wi hi hs ks (if t= -1 then fg row s (one 46)else fg (fg row s (one 46)) t (one 46)):=by
  split
  .exact R1
  .rename_i ne
   rcases h.tk with e|⟨t0,t1,tn⟩
   .exact NU e ne
   .exact R1.put t0 (by rw[l1];omega) tn (.inl rfl)
 have l2:=R2.len;unfold dU;refine R2.put h.g0 (by rw[l2];omega) h.gn ?_;unfold arrN;split
 .obtain⟨c',hc',et⟩:=jG tg (i7 hl hc).1;rw[et];unfold zF;split
  .exact .inr (.inr (RW.mpr ⟨c',hc',rfl⟩))
  .exact .inr (.inl hc')
 .exact .inr hc
theorem AA{K:Frag}{t:TA}{ti:TE}{σ:St}{H:Hp}{Q:VK}{vs:List V}{v:V}{i:Int}(h:Av t σ H vs)(hz:vs.length<=1000)(hi:∀H',ak H H'->Ev ti σ H' (.int i))(e:jn vs i=some v)(q:∀H',ak H H'->Q v H'):tK K (uf t) ti σ H Q:=h _ ⟨T0 hz (by decide),λp hp=>hi _ ((ak.refl H).upd hp) _ ⟨vs,v,.inl (aN.of ah),e,q _ ((ak.refl H).upd hp)⟩⟩
theorem IE{K:Frag}{σ:St}{H:Hp}{i j l:Nat}{d:VB}{a b c:V}{R:St->Hp->Prop}(h:cJ K H d [a,b,c])(q:R (((σ.set i (some a)).set j (some b)).set l (some c)) H):vn K 3 (gZ (gName i) (gZ (gName j) (gZ (gName l) yu))) (.ref d) σ H R:=⟨d,_,rfl,h,rfl,_,_,rfl,_,_,rfl,_,_,rfl,rfl,q⟩
theorem iE{row:Str}{s:Int}{c:Nat}(h0:0<=s)(h1:s<row.length):(fg row s (one c)).cps.toList=row.cps.toList.set s.toNat c:=by
 have hl:s.toNat<row.cps.toList.length:=by have:row.length=row.cps.toList.length:=rfl;omega
 rw[kG h0 h1,List.set_eq_take_append_cons_drop,NR hl,SM];rfl
theorem Hz{ks:List Nat}(hl:∀k∈ks,jF k){c:Nat}{sd:Int}(h:c∈ks\/c∈ks.map (· - 32))(hs:bB c=.int sd):zF (lo1 c) sd=c:=by
 unfold bB at hs;split at hs
 .cases hs
 .injection hs with hs
  rcases h with h|h
  .have z:=hl c h;unfold jF at z;rw[NQ (by omega)]at hs;have e:lo1 c=c:=by unfold lo1;split<;>omega
   unfold zF;rw[e,NQ (by omega)]
  .obtain⟨k,hk,rfl⟩:=RW.mp h;have z:=hl k hk;unfold jF at z;rw[NR (by omega)]at hs;have e:lo1 (k - 32)=k:=by unfold lo1;split<;>omega
   unfold zF;rw[e,NR hs.symm]
theorem yS{ks:List Nat}{ts:List ((Str×Str)×VB)}{wi hi:Int}{hs:List Int}{row:Str}{sd s gl t:Int}(rl:(row.length:Int)=wi*hi)(s0:0<=s)(s1:s<row.length)(g0:0<=gl)(g1:gl<row.length)(ht:t= -1\/0<=t/\t<row.length):(dU ts wi hi row sd s gl t).cps.toList=((if 0<=t then(row.cps.toList.set s.toNat 46).set t.toNat 46 else row.cps.toList.set s.toNat 46).set gl.toNat (arrN ts wi hi (row.cps.toList.getD s.toNat 0) sd gl)):=by
 have l1:=gU (c:=46) s0 s1;unfold dU
 rcases ht with rfl|⟨t0,t1⟩
 .rw[NR rfl,NQ (by decide),iE g0 (by rw[l1];exact g1),iE s0 s1]
 .rw[NQ (by omega),NR t0,iE g0 (by rw[gU t0 (by rw[l1];exact t1),l1];exact g1),iE t0 (by rw[l1];exact t1),iE s0 s1]
theorem wl{wi hi:Int}{hs:List Int}{ks:List Nat}{z:Str}(R:ip wi hi hs ks z):rowB wi hi hs ks (.str z)=true:=by
 unfold rowB;dsimp only;rw[C0 (by rw[mW];exact R.len),UH,Sh];intro x hx;obtain⟨i,hi'⟩:=SZ hx;rw[List.getElem?_zipWith]at hi';cases e1:z.cps.toList[i]? with
 |none=>rw[e1]at hi';cases hi'
 |some c=>
  cases e2:(emptyT wi hi hs).cps.toList[i]? with
  |none=>rw[e1,e2]at hi';cases hi'
  |some e=>
   rw[e1,e2]at hi';have hx':fW ks c e=x:=NV hi';have ee:e=if(i:Int)∈hs then 35 else 46:=by
    unfold emptyT at e2;have e2:((List.range (wi*hi).toNat).map λ(s:Nat)=>if(s:Int)∈hs then 35 else 46)[i]? =some e:=e2;rw[RX]at e2;cases e3:(List.range (wi*hi).toNat)[i]? with
    |none=>rw[e3]at e2;cases e2
    |some j=>
     rw[e3]at e2;have e2:(if(j:Int)∈hs then 35 else 46)=e:=NV e2;have:j=i:=by obtain⟨h1,h2⟩:=Sd.mp e3;rw[TU]at h2;exact h2.symm
     rw[<-e2,this]
   rw[<-hx',ee];exact R.at_ i c e1
theorem GH{H:Hp}{a:VB}{z:Str}{i:Int}(h:H a=some (.tup [.str z,.int i]))(hz:z.length<=1000):jE H 1 (.ref a):=by
 refine jE.tup h λy hy=>?_;simp only[RV,Sb,or_false]at hy
 rcases hy with rfl|rfl
 .exact jE.flat hz rfl
 .exact jE.flat trivial rfl
structure MO(K:Frag)(cB cG:VB)(H:Hp)(g b kq p mv:VB)(row:Str)(sd wi hi:Int)(hs:List Int)(ks:List Nat)(us:List (aJ×VB))(ts es:List ((Str×Str)×VB))(st:Str)(k:List Int)(m:List (List Int)):Prop where
 gs:il K cB cG H g b kq wi hi hs ks us ts es st
 pl:cJ K H p [.str row,.int sd]
 tv:H mv=some (.tup (k.map V.int))
 rk:ip wi hi hs ks row
 mvs:ke wi hi hs row us sd (sqsOf row sd) m
theorem MO.same{K:Frag}{cB cG:VB}{H H':Hp}{g b kq p mv:VB}{row:Str}{sd wi hi:Int}{hs:List Int}{ks:List Nat}{us:List (aJ×VB)}{ts es:List ((Str×Str)×VB)}{st:Str}{k:List Int}{m:List (List Int)}(h:MO K cB cG H g b kq p mv row sd wi hi hs ks us ts es st k m)(s:ak H H'):MO K cB cG H' g b kq p mv row sd wi hi hs ks us ts es st k m:=⟨h.gs.same s,s.tupY h.pl,s _ _ h.tv,h.rk,h.mvs⟩
def zC(K:Frag)(cB cG:VB):Sp:=λvs H Q _=>∃(g b kq p mv:VB)(row:Str)(sd wi hi:Int)(hs:List Int)(ks:List Nat)(us:List (aJ×VB))(ts es:List ((Str×Str)×VB))(st:Str)(k:List Int)(m:List (List Int)),vs=[.ref g,.ref p,.ref mv]/\MO K cB cG H g b kq p mv row sd wi hi hs ks us ts es st k m/\k∈m/\
 ∀(q:VB)(H':Hp),H q=none->H' q=some (.tup [.str (NH ts wi hi row sd k).1,.int (1 - sd)])->ak H H'->Q (.ref q) H'
theorem Hn{K:Frag}{op:Po}{ta tb:TE}{σ:St}{H:Hp}{R:Bool->Hp->Prop}(h:ta σ H λx H1=>tb σ H1 λy H2=>MM K op x y H2 (dw R)):fX (Mu K op ta tb) σ H R:=h
theorem eX(x y:Str):(x++y).length=x.length+y.length:=by show(x.cps++y.cps).size=_;rw[UY];rfl
end L2
local macro_rules| `(tactic|walk_at "rd")=> `(tactic|simp only[L2.bj,L2.lS,L2.cg,L2.tAsg,L2.gName,L2.lR,L2.jf,L2.eF,L2.tC,L2.nK,L2.j6,L2.eY,L2.aV,L2.eqB,L2.fX,L2.dw,L2.tL,L2.C6,L2.xa,L2.C7,L2.Jv,L2.wJ,L2.tK,L2.Jt,L2.Ju,L2.Jr,L2.w9,L2.lB,L2.cB,L2.bo,L2.cL,L2.Ms,L2.yR,L2.eA,L2.xv,L2.BQ,L2.Hq,L2.Jq,L2.kS,L2.j4,L2.sT,L2.LO,L2.BS,L2.yq,L2.swA,L2.Jp,L2.NF,Tz,TB,SR,Tb])
namespace L2
open PySem PySem.Spec PyProof.Rows
def vY:Sp:=λvs H Q _=>∃n:Int,vs=[.int n]/\0<=n/\n<10 ^ 60/\∀H',ak H H'->Q (.str (OG (toString n))) H'
theorem Bv{α:Type}{xs:List α}{i:Int}(h0:0<=i)(h1:i<xs.length):∃v,jn xs i=some v/\xs[i.toNat]? =some v:=by
 have hx:xs[i.toNat]? =some (xs[i.toNat]'(by omega)):=RU (by omega);refine⟨_,?_,hx⟩;have e:i=((i.toNat:Nat):Int):=by omega
 have:=bw hx;rw[<-e]at this;exact this
def vX(w s:Int):Str:=⟨#[(97+s % w).toNat,(49+s / w).toNat]⟩
theorem Jc{xs:List Nat}{n a:Nat}(hx:∀k<n,xs[k]? =some (a+k)){i:Int}(h0:0<=i)(h1:i<n):jn xs i=some (a+i).toNat:=by
 have e:i=((i.toNat:Nat):Int):=by omega
 have:=bw (hx i.toNat (by omega));rw[<-e]at this;rw[this];congr 1;omega
theorem BA{i:Int}(h0:0<=i)(h1:i<26):jn ("abcdefghijklmnopqrstuvwxyz":Str).cps.toList i=some (97+i).toNat:=by rw[show("abcdefghijklmnopqrstuvwxyz":Str).cps.toList=[97,98,99,100,101,102,103,104,105,106,107,108,109,110,111,112,113,114,115,116,117,118,119,120,121,122]from by decide+kernel];exact Jc (n:=26) (a:=97) (by decide) h0 h1
theorem An{r:Int}(h0:0<=r)(h1:r<8):OG (toString (r+1))=⟨#[(49+r).toNat]⟩:=by
 obtain rfl|rfl|rfl|rfl|rfl|rfl|rfl|rfl:r=0\/r=1\/r=2\/r=3\/r=4\/r=5\/r=6\/r=7:=by omega
 all_goals decide+kernel
theorem Dj(a b:Nat):(⟨#[a]⟩++⟨#[b]⟩:Str)=⟨#[a,b]⟩:=by apply lC;rw[dg];rfl
theorem cH(w s:Int):(vX w s).length=2:=rfl
theorem hG{w s s':Int}(w1:1<=w)(s0:0<=s)(s0':0<=s')(h1:(97+s % w).toNat=(97+s' % w).toNat)(h2:(49+s / w).toNat=(49+s' / w).toNat):s=s':=by
 have a:=Uk s (by omega:w≠0);have a':=Uk s' (by omega:w≠0);have d:=Us s0 (by omega:0<=w);have d':=Us s0' (by omega:0<=w);have e1:s % w=s' % w:=by omega
 have e2:s / w=s' / w:=by omega
 rw[<-Uw s w,<-Uw s' w,e1,e2]
def yY(wi s g t:Int):Str:=if t= -1 then vX wi s++"-"++vX wi g else if t=g then vX wi s++"x"++vX wi g else vX wi s++"x"++vX wi t++"-"++vX wi g
def mvK(wi:Int)(k:List Int):Str:=yY wi (k.getD 0 0) (k.getD 1 0) (k.getD 2 0)
theorem Cw(wi s g t:Int):(yY wi s g t).cps.toList=if t= -1 then [(97+s % wi).toNat,(49+s / wi).toNat,45,(97+g % wi).toNat,(49+g / wi).toNat]else if t=g then [(97+s % wi).toNat,(49+s / wi).toNat,120,(97+g % wi).toNat,(49+g / wi).toNat]else [(97+s % wi).toNat,(49+s / wi).toNat,120,(97+t % wi).toNat,(49+t / wi).toNat,45,(97+g % wi).toNat,(49+g / wi).toNat]:=by
 have e1:("-":Str).cps.toList=[45]:=by decide+kernel
 have e2:("x":Str).cps.toList=[120]:=by decide+kernel
 unfold yY;split
 .rw[dg,dg,e1];rfl
 .split
  .rw[dg,dg,e2];rfl
  .rw[dg,dg,dg,dg,e1,e2];rfl
theorem Cv{wi s g t s' g' t':Int}(w1:1<=wi)(s0:0<=s)(g0:0<=g)(t0:t= -1\/0<=t)(s0':0<=s')(g0':0<=g')(t0':t'= -1\/0<=t')(e:yY wi s g t=yY wi s' g' t'):s=s'/\g=g'/\t=t':=by
 have e:=NW (λz:Str=>z.cps.toList) e;simp only[Cw]at e
 by_cases h1:t= -1
 .rw[NR h1]at e
  by_cases h1':t'= -1
  .rw[NR h1']at e;simp only[List.cons.injEq,and_true]at e;exact⟨hG w1 s0 s0' e.1 e.2.1,hG w1 g0 g0' e.2.2.2.1 e.2.2.2.2,by omega⟩
  .rw[NQ h1']at e
   by_cases h2':t'=g'
   .rw[NR h2']at e;simp at e
   .rw[NQ h2']at e;simp at e
 .rw[NQ h1]at e
  by_cases h1':t'= -1
  .rw[NR h1']at e
   by_cases h2:t=g
   .rw[NR h2]at e;simp at e
   .rw[NQ h2]at e;simp at e
  .rw[NQ h1']at e
   by_cases h2:t=g
   .rw[NR h2]at e
    by_cases h2':t'=g'
    .rw[NR h2']at e;simp only[List.cons.injEq,and_true,true_and]at e;have a:=hG w1 s0 s0' e.1 e.2.1;have b:=hG w1 g0 g0' e.2.2.1 e.2.2.2;exact⟨a,b,by omega⟩
    .rw[NQ h2']at e;simp at e
   .rw[NQ h2]at e
    by_cases h2':t'=g'
    .rw[NR h2']at e;simp at e
    .rw[NQ h2']at e;simp only[List.cons.injEq,and_true,true_and]at e;exact⟨hG w1 s0 s0' e.1 e.2.1,hG w1 g0 g0' e.2.2.2.2.1 e.2.2.2.2.2,hG w1 (by omega) (by omega) e.2.2.1 e.2.2.2.1⟩
def re:Sp:=λvs H Q _=>∃w s:Int,vs=[.int w,.int s]/\1<=w/\w<=8/\0<=s/\s / w<8/\∀H',ak H H'->Q (.str (vX w s)) H'
def lY(K:Frag)(cB cG:VB):Sp:=λvs H Q _=>∃(g b mv:VB)(wi hi:Int)(hs:List Int)(ks rs ts es:List V)(st:Str)(s gl t:Int),vs=[.ref g,.ref mv]/\fY cG H g b ks rs ts es st/\cb K cB H b wi hi hs/\H mv=some (.tup [.int s,.int gl,.int t])/\0<=s/\s<wi*hi/\0<=gl/\gl<wi*hi/\(t= -1\/(0<=t/\t<wi*hi))/\∀H',ak H H'->Q (.str (yY wi s gl t)) H'
theorem uB{wi hi s:Int}(w1:1<=wi)(h8:hi<=8)(h:s<wi*hi):s / wi<8:=by have:s / wi<hi:=Uz (by omega) (by rw[Ur];exact h);omega
structure Jw(K:Frag)(cB cG:VB)(H:Hp)(g b kq p:VB)(row:Str)(sd wi hi:Int)(hs:List Int)(ks:List Nat)(us:List (aJ×VB))(ts es:List ((Str×Str)×VB))(st:Str)(m:List (List Int)):Prop where
 gs:il K cB cG H g b kq wi hi hs ks us ts es st
 pl:cJ K H p [.str row,.int sd]
 rk:ip wi hi hs ks row
 mvs:ke wi hi hs row us sd (sqsOf row sd) m
theorem Jw.mv{K:Frag}{cB cG:VB}{H:Hp}{g b kq p:VB}{row:Str}{sd wi hi:Int}{hs:List Int}{ks:List Nat}{us:List (aJ×VB)}{ts es:List ((Str×Str)×VB)}{st:Str}{m:List (List Int)}(h:Jw K cB cG H g b kq p row sd wi hi hs ks us ts es st m):∀k∈m,∃s gl t,k=[s,gl,t]/\0<=s/\s<wi*hi/\0<=gl/\gl<wi*hi/\(t= -1\/(0<=t/\t<wi*hi)):=λk hk=>by
 have mm:=h.gs.bd.many;have rl:(row.length:Int)=wi*hi:=by rw[h.rk.len];omega
 obtain⟨s,gl,t,e,o⟩:=h.mvs.ok h.gs.bd.w1 (λs hs=>iW hs) k hk;exact⟨s,gl,t,e,o.s0,by have:=o.s1;omega,o.g0,o.g1,by rcases o.tk with z|z;exact .inl z;exact .inr ⟨z.1,z.2.1⟩⟩
theorem Jw.one{K:Frag}{cB cG:VB}{H:Hp}{g b kq p:VB}{row:Str}{sd wi hi:Int}{hs:List Int}{ks:List Nat}{us:List (aJ×VB)}{ts es:List ((Str×Str)×VB)}{st:Str}{m:List (List Int)}(h:Jw K cB cG H g b kq p row sd wi hi hs ks us ts es st m){k k':List Int}(hk:k∈m)(hk':k'∈m)(e:mvK wi k=mvK wi k'):k=k':=by obtain⟨s,gl,t,rfl,a1,a2,a3,a4,a5⟩:=h.mv k hk;obtain⟨s',gl',t',rfl,b1,b2,b3,b4,b5⟩:=h.mv k' hk';obtain⟨rfl,rfl,rfl⟩:=Cv h.gs.bd.w1 a1 a3 (by omega) b1 b3 (by omega) (show yY wi s gl t=yY wi s' gl' t' from e);rfl
section
variable{prog:N5}{w:N9}{A:Oi}{E:NY}{s:N3}
theorem tk1{α:Type}{M:Model}{t:RS α}{Q:α->N3->Prop}(h1:1<=s.toks)(h:N8 M A t Q E s):N8 M A t (λa s'=>1<=s'.toks/\Q a s') E s:=O6 (wpAny_toks_of h1 h) (λ_ _ x=>x) (λ_ _ x=>x.2)
end
theorem A8{K:Frag}{H:Hp}{n:Nat}{a b:VB}{k:List Int}(ha:H a=some (.tup (k.map V.int)))(hb:H b=some (.tup (k.map V.int))):oQ K H (n+1) (.ref a) (.ref b) true:=by
 have z:=oQ.tup (n:=n) (es:=λ_=>true) (cJ.of (K:=K) ha) (cJ.of (K:=K) hb) (λi x y hx hy=>by
  have e:x=y:=NV (hx.symm.trans hy);subst e;obtain⟨m,_,rfl⟩:=RW.mp (Sl hx);have w:=t7.flat (K:=K) (H:=H) (n:=n) (x:=.int m) (y:=.int m) rfl rfl;rw[show eqV (.int m) (.int m)=true from by simp[eqV,eqB]]at w;exact w)
 rw[show((List.range (min (k.map V.int).length (k.map V.int).length)).all λ_=>true)=true from Sh.mpr λ_ _=>rfl]at z;simpa using z
end L2
namespace L2
theorem iL{p:Nat->Bool}:∀{l:List Nat}{i v:Nat},p (l.getD i 0)=false->p v=false->(l.set i v).filter p=l.filter p
 | [],_,_,_,_=>rfl
 |a::l,0,v,h,hv=>by have h:p a=false:=h;rw[SR,Sr,Sr,NQ (by rw[hv];decide),NQ (by rw[h];decide)]
 |a::l,i+1,v,h,hv=>by
  have h:p (l.getD i 0)=false:=by simpa using h
  rw[Tb,Sr,Sr,iL h hv]
theorem lM{p:Nat->Bool}:∀{l:List Nat}{i v:Nat},i<l.length->p (l.getD i 0)=true->p v=false->(l.filter p).Perm (l.getD i 0::(l.set i v).filter p)
 | [],_,_,h,_,_=>by simp at h
 |a::l,0,v,_,h,hv=>by have h:p a=true:=h;rw[SR,Sr,Sr,NR h,NQ (by rw[hv];decide)];exact .refl _
 |a::l,i+1,v,hl,h,hv=>by
  have h:p (l.getD i 0)=true:=by simpa using h
  have ih:=lM (l:=l) (i:=i) (by simpa using hl) h hv;have e:(a::l).getD (i+1) 0=l.getD i 0:=by simp
  rw[e,Tb,Sr,Sr];split
  .exact(ih.cons a).trans (.swap ..)
  .exact ih
theorem zJ{l:List Nat}{i v:Nat}(h:i<l.length):(l.set i v).set i (l.getD i 0)=l:=by
 rw[List.set_set];apply SD;intro j;rw[List.getElem?_set];split
 .rename_i e;subst e;rw[RY,RU h];rfl
 .rfl
theorem gh{l:List Nat}{i v:Nat}(h:i<l.length):(l.set i v).getD i 0=v:=by rw[RY,S0 h];rfl
theorem cV{l:List Nat}{i j v:Nat}(h:i≠j):(l.set i v).getD j 0=l.getD j 0:=by rw[RY,S3 h,RY]
theorem wP{p:Nat->Bool}{l:List Nat}{i v:Nat}(hl:i<l.length)(h:p (l.getD i 0)=false)(hv:p v=true):((l.set i v).filter p).Perm (v::l.filter p):=by
 have z:=lM (p:=p) (l:=l.set i v) (i:=i) (v:=l.getD i 0) (by simpa using hl) (by rw[gh hl];exact hv) h
 rwa[gh hl,zJ hl]at z
theorem lV:∀{l l':List Nat},l.Perm l'->l.Pairwise (·<=·)->l'.Pairwise (·<=·)->l=l'
 | [],l',h,_,_=>(List.nil_perm.mp h).symm
 |a::l,[],h,_,_=>by have:=h.length_eq;simp at this
 |a::l,b::l',h,h1,h2=>by
  have p1:=Sz.mp h1;have p2:=Sz.mp h2;have e:a=b:=by
   have m1:a∈b::l':=h.mem_iff.mp R6;have m2:b∈a::l:=h.mem_iff.mpr R6
   rcases RV.mp m1 with e|m1
   .exact e
   .rcases RV.mp m2 with e|m2
    .exact e.symm
    .exact Nat.le_antisymm (p1.1 b m2) (p2.1 a m1)
  subst e;rw[lV (List.Perm.cons_inv h) p1.2 p2.2]
theorem qG{l r:List Nat}{a:Nat}(h:l.Perm (a::r)):(l.erase a).Perm r:=by
 have z:=h.erase a
 rwa[List.erase_cons_head]at z
theorem vw{l:List Nat}{a:Nat}(h:l.Pairwise (·<=·)):(l.erase a).Pairwise (·<=·):=h.sublist List.erase_sublist
theorem A7:∀{l:List Nat}{a:Nat},l.take (l.idxOf a)++l.drop (l.idxOf a+1)=l.erase a
 | [],_=>rfl
 |b::l,a=>by
  by_cases h:b=a
  .subst h;simp
  .have hb:(b == a)=false:=by simpa using h
   rw[List.idxOf_cons,hb,List.erase_cons,hb];show b::(l.take (l.idxOf a)++l.drop (l.idxOf a+1))=_;rw[A7];rfl
def im(r:List Nat)(s g:Nat)(t:Option Nat)(a:Nat):List Nat:=((match t with|some t=>(r.set s 46).set t 46|none=>r.set s 46).set g a)
structure yU(p q:Nat->Bool)(r:List Nat)(s g:Nat)(t:Option Nat)(a:Nat):Prop where
 s1:s<r.length
 g1:g<r.length
 sg:s≠g
 p46:p 46=false
 q46:q 46=false
 ps:p (r.getD s 0)=true
 qs:q (r.getD s 0)=false
 pg:p (r.getD g 0)=false
 pa:p a=true
 qa:q a=false
 tt:match t with|some t=>t<r.length/\t≠s/\q (r.getD t 0)=true/\p (r.getD t 0)=false/\(t≠g->r.getD g 0=46)|none=>r.getD g 0=46
theorem yU.own{p q:Nat->Bool}{r:List Nat}{s g:Nat}{t:Option Nat}{a:Nat}(h:yU p q r s g t a):∃F:List Nat,(r.filter p).Perm (r.getD s 0::F)/\((im r s g t a).filter p).Perm (a::F):=by
 have h1:=lM h.s1 h.ps h.p46;cases t with
 |none=>
  refine⟨(r.set s 46).filter p,h1,?_⟩;exact wP (by rw[Sy];exact h.g1) (by rw[cV h.sg];exact h.pg) h.pa
 |some t=>
  obtain⟨t1,ts,tq,tp,tg⟩:=h.tt;have e:((r.set s 46).set t 46).filter p=(r.set s 46).filter p:=iL (by rw[cV (Ne.symm ts)];exact tp) h.p46;refine⟨(r.set s 46).filter p,h1,?_⟩;rw[<-e];refine wP (by rw[Sy,Sy];exact h.g1) ?_ h.pa
  by_cases e2:t=g
  .subst e2;rw[gh (by rw[Sy];exact t1)];exact h.p46
  .rw[cV e2,cV h.sg];exact h.pg
theorem yU.oth{p q:Nat->Bool}{r:List Nat}{s g:Nat}{t:Option Nat}{a:Nat}(h:yU p q r s g t a):match t with|some t=>(r.filter q).Perm (r.getD t 0::(im r s g (some t) a).filter q)|none=>(im r s g none a).filter q=r.filter q:=by
 have h1:(r.set s 46).filter q=r.filter q:=iL h.qs h.q46;cases t with
 |none=>
  have tg:r.getD g 0=46:=h.tt;show((r.set s 46).set g a).filter q=r.filter q;rw[iL (by rw[cV h.sg,tg];exact h.q46) h.qa,h1]
 |some t=>
  obtain⟨t1,ts,tq,tp,tg⟩:=h.tt;have e:=lM (p:=q) (l:=r.set s 46) (i:=t) (v:=46) (by rw[Sy];exact t1) (by rw[cV (Ne.symm ts)];exact tq) h.q46;rw[cV (Ne.symm ts),h1]at e;show(r.filter q).Perm (r.getD t 0::(((r.set s 46).set t 46).set g a).filter q);rw[iL (l:=(r.set s 46).set t 46) ?_ h.qa]
  .exact e
  .by_cases e2:t=g
   .subst e2;rw[gh (by rw[Sy];exact t1)];exact h.q46
   .rw[cV e2,cV h.sg,tg e2];exact h.q46
theorem yU.len{p q:Nat->Bool}{r:List Nat}{s g:Nat}{t:Option Nat}{a:Nat}(h:yU p q r s g t a):(im r s g t a).length=r.length:=by unfold im;cases t<;>simp
theorem yU.ats{p q:Nat->Bool}{r:List Nat}{s g:Nat}{t:Option Nat}{a:Nat}(h:yU p q r s g t a):(im r s g t a).getD s 0=46:=by
 unfold im;rw[cV (Ne.symm h.sg)];cases t with
 |none=>exact gh h.s1
 |some t=>
  obtain⟨t1,ts,_⟩:=h.tt;show((r.set s 46).set t 46).getD s 0=46;rw[cV ts];exact gh h.s1
theorem yU.atg{p q:Nat->Bool}{r:List Nat}{s g:Nat}{t:Option Nat}{a:Nat}(h:yU p q r s g t a):(im r s g t a).getD g 0=a:=by unfold im;refine gh ?_;cases t<;>simp<;>exact h.g1
theorem Dh{r:List Nat}{s g n:Nat}{t:Option Nat}{a:Nat}(h1:s≠n)(h2:g≠n)(h3:∀x,t=some x->x≠n):(im r s g t a).getD n 0=r.getD n 0:=by
 unfold im;rw[cV h2];cases t with
 |none=>exact cV h1
 |some t=>
  show((r.set s 46).set t 46).getD n 0=_;rw[cV (h3 t rfl),cV h1]
theorem Jb{r:List Nat}{s g t:Nat}{a:Nat}(h1:t<r.length)(h2:g≠t):(im r s g (some t) a).getD t 0=46:=by unfold im;rw[cV h2];exact gh (by rw[Sy];exact h1)
theorem qC{p:Nat->Bool}{l:List Nat}{i:Nat}(hi:i<l.length)(h:p (l.getD i 0)=false)(h64:l.length<=64):(l.filter p).length<64:=by
 have m:l.getD i 0∈l:=by rw[RY,RU hi];exact Se hi
 have:(l.filter p).length<l.length:=by rw[List.length_filter_lt_length_iff_exists];exact⟨_,m,by rw[h];decide⟩
 omega
end L2
namespace L2
open PySem PySem.Spec PyProof.Rows
theorem wn:∀(a:Nat)(l:List Nat),risingS (one a) (l.map one)=true->(a::l).Pairwise (·<=·)
 |a,[],_=>Tu ..
 |a,b::r,h=>by
  have h:(!ltCps [b] [a]&&risingS (one b) (r.map one))=true:=h;rw[UD]at h;have ih:=wn b r h.2;have ab:a<=b:=by have h1:=h.1;rw[ltCps_eq,UG]at h1;have:=NT h1;rw[Az]at this;omega
  refine Sz.mpr ⟨λx hx=>?_,ih⟩
  rcases RV.mp hx with rfl|hx
  .exact ab
  .exact T0 ab ((Sz.mp ih).1 x hx)
theorem BX{l:List Nat}(h:sortedS (l.map one)=true):l.Pairwise (·<=·):=by
 cases l with
 |nil=>exact .nil
 |cons a l=>exact wn a l h
theorem Cp{ss:List Str}{cs:List Nat}(h:ss.Perm (cs.map one)):∃cs':List Nat,ss=cs'.map one/\cs'.Perm cs:=by
 have e:ss=(ss.map λz=>z.cps.toList.getD 0 0).map one:=by
  rw[R5]
  conv=>lhs;rw[<-TC ss]
  refine Sq λz hz=>?_;obtain⟨c,_,rfl⟩:=RW.mp (h.mem_iff.mp hz);rfl
 refine⟨_,e,?_⟩;have:=h.map λz:Str=>z.cps.toList.getD 0 0;rw[R5]at this;have e2:cs.map ((λz:Str=>z.cps.toList.getD 0 0)∘one)=cs:=by
  conv=>rhs;rw[<-TC cs]
  exact Sq λc _=>rfl
 rwa[e2]at this
theorem lU:∀{cs:List Nat}{us:List VA},aX (cs.map strV) us->RN us (cs.map one)
 | [],_,.nil=>.nil
 |c::cs,_,.cons r t=>by obtain⟨tk,rfl⟩:=r;exact .cons _ _ (lU t)
theorem xq{vs:List VA}{cs:List Nat}(h:RN vs (cs.map one)):aX (cs.map strV) vs:=by
 have:=xp h
 rwa[R5]at this
section
variable{X:Cx}{o e:Ol}{to te:TE}
def oZ(K:Frag)(xs:List V)(H:Hp)(Q:VK):Prop:= ∃(d:VB)(cs:List Nat),xs=[.ref d]/\aN K H d (cs.map strV)/\cs.length<64/\∀(cs':List Nat) q,cs'.Perm cs->cs'.Pairwise (·<=·)->H q=none->Q (.ref q) (upd H q (.lst (cs'.map strV)))
theorem tH:bf X (.builtin "sorted") (oZ X.K):=by
 intro gV s σ H xs us Q I r h;obtain⟨d,cs,rfl,hq,hb,q⟩:=h;obtain⟨u,rfl,rx⟩:=di r;cases rx;obtain⟨its,r',pl,hz⟩:=I.list hq;have hlen:=r'.length;rw[RT]at hlen;refine sorted_strs pl.isList (lU r') (by omega) λout ss' a1 a2 a3=>?_;obtain⟨cs',rfl,a4⟩:=Cp a2;obtain⟨e,he⟩:=sortedAll_at s.heap its out;have hl:=a4.length_eq;have hz':(cs'.map strV).length<=v1:=by rw[RT,hl,Oc];omega
 exact⟨.ref (s.heap.objs.size+1),_,I.laid (t':=s.toks) (λ_ _=>sortedAll_old) (T3 _) (show bD X.prog X.w _ _ _ (.lst (cs'.map strV))from⟨hz',out.toList,e,xq a1,by simpa[Pl]using he⟩),rfl,q cs' _ a4 (BX a3) (I.hok.fresh (T3 _))⟩
theorem Io(K:Frag)(hK:X.K=K:=by rfl):bf X (.builtin "sorted") (oZ K):=by subst hK;exact tH
theorem Ik:NM X "list.index" (λx vs H Q=>∃(l:VB)(cs:List Nat)(c:Nat),x=.ref l/\vs=[strV c]/\H l=some (.lst (cs.map strV))/\c∈cs/\Q (.int (cs.idxOf c:Nat)) H):=by
 intro gV s σ H x vs v us Q I rx rv h;obtain⟨l,cs,c,rfl,rfl,hH,hc,q⟩:=h;cases rx;obtain⟨u,rfl,ru⟩:=rv.one;obtain⟨z,its,n,r,hl,e⟩:=I.lstM hH;have fl:(cs.map strV).all flatV=true:=Sh.mpr λy hy=>by obtain⟨k,_,rfl⟩:=RW.mp hy;rfl
 have hlen:=r.length;rw[RT]at hlen;have hj:cs.idxOf c<cs.length:=TV.mpr hc;have at_:∀m(hm:m<its.length),tj (strV c) its[m]=decide (one (cs.getD m 0)=one c):=λm hm=>by
  have hx:(cs.map strV)[m]? =some (strV (cs.getD m 0)):=by rw[RX,RY,RU (by omega)];rfl
  obtain⟨w,hw,rw'⟩:=r.get hx;rw[RU hm]at hw;have hw:its[m]=w:=NV hw;rw[hw,vx rw' rfl];rfl
 have gd:∀m(hm:m<cs.length),cs.getD m 0=cs[m]:=λm hm=>by rw[RY,RU hm];rfl
 refine QW F.slot_list_index ⟨_,e,rfl⟩ F.entry_list_index (F.args_list_index_2 _ _) (SeqAt.list_indexAt l its.toArray n none #[] u (tj (strV c)) (cs.idxOf c) (by rw[RZ];omega) ?_ ?_ ?_) ⟨e,λw hw=>gX ru rfl r fl w (by simpa using hw),?_⟩
 .have hz:(cs.map strV).length<=16777216:=by rw[<-Oc];exact z
  rw[RT]at hz;omega
 .rw[TW,at_ _ (by omega),gd _ hj,List.getElem_idxOf hj];exact C0 rfl
 .intro m hm hlt;have hm':m<its.length:=by simpa using hm
  rw[TW,at_ m hm',gd m (by omega)];refine NP λw=>?_;have h1:=List.not_of_lt_findIdx (p:=(· == c)) (xs:=cs) (i:=m) hlt;rw[jS w]at h1;simp at h1
 .exact⟨.int (cs.idxOf c:Nat),H,I.tok _,⟨_,rfl⟩,q⟩
def Mt(to te:TE):TE:=λσ H Q=>to σ H λx H1=>match x with
 | .ref l=>(∃xs,H1 l=some (.lst xs))/\te σ H1 λy H2=>∃(cs:List Nat)(c:Nat),y=strV c/\H2 l=some (.lst (cs.map strV))/\c∈cs/\Q (.int (cs.idxOf c:Nat)) H2
 |_=>False
theorem IV{apos cpos:Qa}(ho:PE X o to)(he:PE X e te)(hbase:OE o "index" X.env (Ow o X.env)=Ow o X.env:=by rfl)(hfew:((Ot cpos (N6 [e] X.env)).all (λx=> !x.1)&&(P4 cpos (Pe [] X.env)).all (λx=>x.1.isSome)
   &&decide ([e].length+([]:List Pg).length+(if([]:List Pg).isEmpty then 0 else 1)<30))=true:=by rfl) (hline:(apos.endLine == cpos.line)=true:=by rfl) (hs:N6 [e] X.env=(false,Ow e X.env)::N6 [] X.env:=by rfl) (hplain:(Ot cpos (N6 [] X.env)).any (·.1)=false:=by rfl):PE X (.Call (.Attribute o "index" apos) [e] [] cpos) (Mt to te):=by
 intro gV s σ H Q I h;refine OQ hbase hfew hline rfl (bM (ho gV s σ H _ I h) λv s1 ⟨x,H1,I1,r1,q1⟩=>?_);cases x with
 |ref l=>
  obtain⟨⟨xs0,e0⟩,q1⟩:=q1;have ty:Gq X.K "list" (.ref l) H1:=.inl ⟨rfl,xs0,aN.of e0⟩;obtain⟨h1,h2⟩:=jq I1 r1 ty;refine⟨"list","list.index",PySem.F.plainAttrs_list,PySem.F.slot_list_index,PySem.F.type_list_index,h1,h2,?_⟩;have hA:=(pa_cons he pan hs:PA X [e] (bo te cL)) cpos gV s1 σ H1 (λvs H2=>∃y,vs=[y]/\∃(cs:List Nat)(c:Nat),y=strV c/\H2 l=some (.lst (cs.map strV))/\c∈cs/\Q (.int (cs.idxOf c:Nat)) H2) I1 (by
   show te σ H1 λy H2=>∃y',[y]=[y']/\_;have:(λ(y:V)(H2:Hp)=>∃(cs:List Nat)(c:Nat),y=strV c/\H2 l=some (.lst (cs.map strV))/\c∈cs/\Q (.int (cs.idxOf c:Nat)) H2)=λy H2=>∃y',[y]=[y']/\∃(cs:List Nat)(c:Nat),y'=strV c/\H2 l=some (.lst (cs.map strV))/\c∈cs/\Q (.int (cs.idxOf c:Nat)) H2:=by
    funext y H2;apply propext
    constructor
    .intro z;exact⟨y,rfl,z⟩
    .rintro⟨y',e,z⟩;have:y=y':=by injection e
     subst this;exact z
   rw[<-this];exact q1)
  rw[hs]at hA ⊢;refine OJ (by show(false||(Ot cpos (N6 [] X.env)).any (·.1))=false;rw[hplain]<;>rfl) (OW ?_)
  exact bM hA λus s2 ⟨vs,H2,I2,r2,y,e,cs,c,q3,q4,q5,q6⟩=>Ik gV s2 σ H2 _ vs v us Q I2 r1 r2 ⟨l,cs,c,rfl,by rw[e,q3],q4,q5,q6⟩
 |_=>exact q1.elim
end
section
variable{K:Frag}{σ:St}{H:Hp}{Q:VK}{ta tb te to:TE}
theorem IJ{d:VB}{cs:List Nat}{c:Nat}(ho:Ev to σ H (.ref d))(he:Ev te σ H (strV c))(hd:H d=some (.lst (cs.map strV)))(hc:c∈cs):Ev (Mt to te) σ H (.int (cs.idxOf c:Nat)):=λQ q=>ho _ ⟨⟨_,hd⟩,he _ ⟨cs,c,rfl,hd,hc,q⟩⟩
theorem BY(h:te σ H λv H1=>oZ K [v] H1 Q):cB (oZ K) (bo te cL) σ H Q:=h
theorem qD{t:TA}{c:Nat}{v:Int}(h:Av t σ H [.str (one c)])(hc:Sg c)(hb:Ev tb σ H (.int v)):Ev (eY K .NotEq (eA lG t) tb) σ H (.bl (!decide (bB c=.int v))):=λQ q=>h _ ⟨c,rfl,hc,hb _ (by rw[we];exact q)⟩
theorem IR(cs:List Nat)(j:Nat):fu (cs.map strV) none (some (j:Int))=(cs.take j).map strV:=by
 unfold fu;rw[HT.sIx_none,HT.sIx_nat,Uf,SV,Ta]
 by_cases h:j<=(cs.map strV).length
 .rw[Nat.min_eq_left h]
 .rw[Nat.min_eq_right (by omega),SJ (TX _),SJ (by omega)]
theorem Bh(cs:List Nat)(j:Nat)(h:j<=cs.length):fu (cs.map strV) (some (j:Int)) none=(cs.drop j).map strV:=by unfold fu;rw[HT.sIx_none,HT.sIx_nat,RT,Nat.min_eq_left h,List.map_drop,SJ (by rw[SI,RT];exact TX _)]
end
def nV(sd:Int)(c:Nat):Bool:=decide (bB c=.int sd)
def BE(row:Str)(sd:Int)(x:Int×Int):Prop:=(x.2= -1/\sdV row x.1=.non)\/(x.2=x.1/\sdV row x.1=.int (1 - sd))\/(sdV row x.2=.int (1 - sd)/\sdV row x.1=.non)
theorem No(row:Str)(g:Int):sdV row g=.non\/sdV row g=.int 0\/sdV row g=.int 1:=by
 unfold sdV bB;split
 .exact .inl rfl
 .split
  .exact .inr (.inl rfl)
  .exact .inr (.inr rfl)
theorem l5{row:Str}{sd:Int}{ai:Str}{x:Int×Int}(sd2:sd=0\/sd=1):∀{p:List Int},x∈dY row sd ai p->BE row sd x
 | [],h=>nomatch h
 |g::r,h=>by
  unfold dY at h;split at h
  .rename_i hn;split at h
   .exact l5 sd2 h
   .rcases RV.mp h with rfl|h
    .exact .inl ⟨rfl,hn⟩
    .exact l5 sd2 h
  .rename_i hn;split at h
   .rename_i h2;have e:=R4.mp h;subst e;refine .inr (.inl ⟨rfl,?_⟩)
    rcases No row g with z|z|z
    .exact NU z hn
    .rcases sd2 with rfl|rfl
     .exact NU z h2.1
     .exact z
    .rcases sd2 with rfl|rfl
     .exact z
     .exact NU z h2.1
   .exact nomatch h
theorem Da{row:Str}{sd:Int}{so ai:Str}{path:List Int}{x:Int×Int}(sd2:sd=0\/sd=1)(h:x∈tM row sd so ai path):BE row sd x:=by
 unfold tM at h;split at h
 .match path,h with
  | [],h=>simp[jY]at h
  | [_],h=>simp[jY]at h
  |a::b::r,h=>
   have h:x∈(if sdV row a=.int (1 - sd)/\sdV row b=.non then [(b,a)]else []):=h;split at h
   .rename_i h2;have e:=R4.mp h;rw[e];exact .inr (.inr h2)
   .simp at h
 .exact l5 sd2 h
theorem aO.how{wi hi:Int}{hs:List Int}{row:Str}{sq sd:Int}(sd2:sd=0\/sd=1):∀{us:List (aJ×VB)}{l:List (Int×Int)},aO wi hi hs row sq sd us l->∀x∈l,BE row sd x
 |_,_,.nil,_,h=>nomatch h
 |_,_,.cons a b,x,h=>by
  rcases Sa.mp h with w|w
  .obtain⟨n,ry,_,rfl⟩:=a;exact Da sd2 w
  .exact aO.how sd2 b x w
theorem ke.how{wi hi:Int}{hs:List Int}{row:Str}{us:List (aJ×VB)}{sd:Int}(sd2:sd=0\/sd=1):∀{ss:List Int}{m:List (List Int)},ke wi hi hs row us sd ss m->∀k∈m,BE row sd (k.getD 1 0,k.getD 2 0)
 |_,_,.nil,_,z=>nomatch z
 |_,_,@ke.cons _ _ _ _ _ _ s ss l m a b,k,z=>by
  rcases Sa.mp z with w|w
  .obtain⟨x,hx,rfl⟩:=RW.mp w;obtain⟨l0,hl,hs'⟩:=a;exact hl.how sd2 x ((hs'.1 x).mp hx)
  .exact ke.how sd2 b k w
structure g9(K:Frag)(cB cG:VB)(H:Hp)(g b kq p mv:VB)(row:Str)(sd s gl t wi hi:Int)(hs:List Int)(ks:List Nat)(us:List (aJ×VB))(ts es:List ((Str×Str)×VB))(st:Str):Prop where
 gs:il K cB cG H g b kq wi hi hs ks us ts es st
 pl:cJ K H p [.str row,.int sd]
 tv:H mv=some (.tup [.int s,.int gl,.int t])
 rk:ip wi hi hs ks row
 sd2:sd=0\/sd=1
 ok:Jm wi hi hs row sd s gl t
 how:BE row sd (gl,t)
theorem g9.same{K:Frag}{cB cG:VB}{H H':Hp}{g b kq p mv:VB}{row:Str}{sd s gl t wi hi:Int}{hs:List Int}{ks:List Nat}{us:List (aJ×VB)}{ts es:List ((Str×Str)×VB)}{st:Str}(h:g9 K cB cG H g b kq p mv row sd s gl t wi hi hs ks us ts es st)(z:ak H H'):g9 K cB cG H' g b kq p mv row sd s gl t wi hi hs ks us ts es st:=⟨h.gs.same z,z.tupY h.pl,z _ _ h.tv,h.rk,h.sd2,h.ok,h.how⟩
def tO(t:Int):Option Nat:=if 0<=t then some t.toNat else none
theorem zE{c:Nat}{sd:Int}(h:jF c)(sd2:sd=0\/sd=1):bB (zF c sd)=.int sd:=by
 unfold jF at h;unfold zF bB
 rcases sd2 with rfl|rfl
 .rw[NR rfl,NQ (by omega),NR (by omega)]
 .have e:(if(1:Int)=0 then c - 32 else c)=c:=NQ (by decide);rw[e,NQ (by omega),NQ (by omega)]
section
variable{K:Frag}{cB cG:VB}{H:Hp}{g b kq p mv:VB}{row:Str}{sd s gl t wi hi:Int}{hs:List Int}{ks:List Nat}{us:List (aJ×VB)}{ts es:List ((Str×Str)×VB)}{st:Str}
theorem g9.rl(S:g9 K cB cG H g b kq p mv row sd s gl t wi hi hs ks us ts es st):(row.length:Int)=wi*hi:=by have mm:=S.gs.bd.many;rw[S.rk.len];omega
theorem g9.cc(S:g9 K cB cG H g b kq p mv row sd s gl t wi hi hs ks us ts es st):row.cps.toList.getD s.toNat 0∈ks\/row.cps.toList.getD s.toNat 0∈ks.map (· - 32):=by
 have hsd:bB (row.cps.toList.getD s.toNat 0)=.int sd:=S.ok.sd;have hlt:s.toNat<row.cps.toList.length:=by have:row.length=row.cps.toList.length:=rfl;have:=S.ok.s0;have:=S.ok.s1;omega
 have e:row.cps.toList[s.toNat]? =some (row.cps.toList.getD s.toNat 0):=by rw[RY,RU hlt];rfl
 rcases fV (S.rk.at_ _ _ e)with⟨_,h⟩|⟨_,h|h⟩
 .rw[h]at hsd;cases hsd
 .rw[h]at hsd;cases hsd
 .exact h
theorem g9.arr(S:g9 K cB cG H g b kq p mv row sd s gl t wi hi hs ks us ts es st):bB (arrN ts wi hi (row.cps.toList.getD s.toNat 0) sd gl)=.int sd:=by
 unfold arrN;split
 .obtain⟨c',hc',et⟩:=jG S.gs.tg (i7 S.gs.ltr S.cc).1;rw[et];exact zE (S.gs.ltr c' hc') S.sd2
 .exact S.ok.sd
theorem g9.g46(S:g9 K cB cG H g b kq p mv row sd s gl t wi hi hs ks us ts es st)(h:sdV row gl=.non):row.cps.toList.getD gl.toNat 0=46:=by
 have R:=S.rk.g S.gs.ltr S.gs.bd.many.2;have n:=R.nh gl S.ok.g0 (by rw[S.rl];exact S.ok.g1) S.ok.gn;unfold sdV bB at h;split at h
 .rename_i z
  rcases z with z|z
  .exact z
  .exact NU z n
 .cases h
theorem g9.stn(S:g9 K cB cG H g b kq p mv row sd s gl t wi hi hs ks us ts es st):yU (nV sd) (nV (1 - sd)) row.cps.toList s.toNat gl.toNat (tO t) (arrN ts wi hi (row.cps.toList.getD s.toNat 0) sd gl):=by
 have rl:=S.rl;have ll:row.length=row.cps.toList.length:=rfl;have s0:=S.ok.s0;have s1:=S.ok.s1;have g0:=S.ok.g0;have g1:=S.ok.g1;have sd2:=S.sd2;have hsd:bB (row.cps.toList.getD s.toNat 0)=.int sd:=S.ok.sd;have no:∀i j:Int,i≠j->¬V.int i=V.int j:=λi j h z=>h (by injection z);have gN:¬sdV row gl=.int sd:=by
  rcases S.how with⟨_,h⟩|⟨_,h⟩|⟨_,h⟩
  .have h:sdV row gl=.non:=h;rw[h];intro z;cases z
  .have h:sdV row gl=.int (1 - sd):=h;rw[h];exact no _ _ (by omega)
  .have h:sdV row gl=.non:=h;rw[h];intro z;cases z
 refine⟨by omega,by omega,λe=>gN (by unfold sdV;rw[<-e];exact hsd),rfl,rfl,C0 hsd,NP (by rw[hsd];exact no _ _ (by omega)),NP gN,C0 S.arr,NP (by rw[S.arr];exact no _ _ (by omega)),?_⟩;unfold tO
 by_cases ht:0<=t
 .rw[NR ht];have t1:t<wi*hi:=by rcases S.ok.tk with z|z;omega;exact z.2.1
  have key:sdV row t=.int (1 - sd)/\(t≠gl->row.cps.toList.getD gl.toNat 0=46):=by
   rcases S.how with⟨h,_⟩|⟨h,h2⟩|⟨h,h2⟩
   .have h:t= -1:=h;omega
   .have h:t=gl:=h;rw[h];exact⟨h2,λz=>NU rfl z⟩
   .exact⟨h,λ_=>S.g46 h2⟩
  obtain⟨k1,k2⟩:=key;have k1':bB (row.cps.toList.getD t.toNat 0)=.int (1 - sd):=k1;refine⟨by omega,λe=>?_,C0 k1',NP (by rw[k1'];exact no _ _ (by omega)),λh=>k2 (by omega)⟩;rw[e,hsd]at k1';exact no _ _ (by omega) k1'
 .rw[NQ ht]
  rcases S.how with⟨_,h2⟩|⟨h,h2⟩|⟨h,h2⟩
  .exact S.g46 h2
  .have h:t=gl:=h;omega
  .exact S.g46 h2
theorem g9.beh(S:g9 K cB cG H g b kq p mv row sd s gl t wi hi hs ks us ts es st):(dU ts wi hi row sd s gl t).cps.toList=im row.cps.toList s.toNat gl.toNat (tO t) (arrN ts wi hi (row.cps.toList.getD s.toNat 0) sd gl):=by rw[yS (ks:=ks) (hs:=hs) S.rl S.ok.s0 S.ok.s1 S.ok.g0 (by rw[S.rl];exact S.ok.g1) (by rw[S.rl];exact S.ok.tk.imp id λz=>⟨z.1,z.2.1⟩)];unfold im tO;split<;>rfl
theorem g9.rkB(S:g9 K cB cG H g b kq p mv row sd s gl t wi hi hs ks us ts es st):ip wi hi hs ks (dU ts wi hi row sd s gl t):=by
 refine Dg S.rk S.gs.ltr S.gs.tg S.rl S.cc ?_ S.ok;have hsd:bB (row.cps.toList.getD s.toNat 0)=.int sd:=S.ok.sd;have hlt:s.toNat<row.cps.toList.length:=by have:row.length=row.cps.toList.length:=rfl;have:=S.ok.s0;have:=S.ok.s1;omega
 have e:row.cps.toList[s.toNat]? =some (row.cps.toList.getD s.toNat 0):=by rw[RY,RU hlt];rfl
 have ca:=S.rk.at_ _ _ e;rw[show((s.toNat:Nat):Int)=s by have:=S.ok.s0;omega]at ca
 rcases fV ca with⟨_,h⟩|⟨sn,_⟩
 .rw[h]at hsd;cases hsd
 .exact sn
end
def zw:Sp:=λvs H Q _=>∃(row:Str)(sd:Int),vs=[.str row,.int sd]/\row.length<=64/\(∀c∈row.cps.toList,Sg c)/\(row.cps.toList.filter (nV sd)).length<64/\
 ∀(cs:List Nat)(q:VB)(H':Hp),cs.Perm (row.cps.toList.filter (nV sd))->cs.Pairwise (·<=·)->H q=none->H' q=some (.lst (cs.map strV))->ak H H'->Q (.ref q) H'
def Hv:Sp:=λvs H Q _=>∃(d:VB)(c:Nat)(cs:List Nat),vs=[.ref d,strV c]/\H d=some (.lst (cs.map strV))/\c∈cs/\cs.length<=64/\
 ∀(q:VB)(H':Hp),H q=none->H' q=some (.lst ((cs.erase c).map strV))->ak H H'->Q (.ref q) H'
def zx(K:Frag)(cB cG:VB):Sp:=λvs H Q _=>∃(g b kq p mv:VB)(row:Str)(sd s gl t wi hi:Int)(hs:List Int)(ks:List Nat)(us:List (aJ×VB))(ts es:List ((Str×Str)×VB))(st:Str),vs=[.ref g,.str row,.str (dU ts wi hi row sd s gl t),.ref p,.ref mv]/\g9 K cB cG H g b kq p mv row sd s gl t wi hi hs ks us ts es st/\∀H',ak H H'->Q (.bl true) H'
def vZ(K:Frag)(cB cG:VB):Sp:=λvs H Q _=>∃(g b kq p mv bh:VB)(row:Str)(sd s gl t wi hi:Int)(hs:List Int)(ks:List Nat)(us:List (aJ×VB))(ts es:List ((Str×Str)×VB))(st:Str),vs=[.ref g,.ref p,.ref mv,.ref bh]/\g9 K cB cG H g b kq p mv row sd s gl t wi hi hs ks us ts es st/\H bh=some (.tup [.str (dU ts wi hi row sd s gl t),.int (1 - sd)])/\∀H',ak H H'->Q (.bl true) H'
def nT(K:Frag)(cB cG:VB):Sp:=λvs H Q _=>∃(g b kq p:VB)(row:Str)(sd wi hi:Int)(hs:List Int)(ks:List Nat)(us:List (aJ×VB))(ts es:List ((Str×Str)×VB))(st:Str)(m:List (List Int))(k:List Int),vs=[.ref g,.ref p,.str (mvK wi k)]/\Jw K cB cG H g b kq p row sd wi hi hs ks us ts es st m/\k∈m/\
 (∀(q:VB)(H':Hp),H' q=some (.tup (k.map V.int))->ak H H'->Q (.ref q) H')
theorem wV{K:Frag}{H:Hp}{n:Nat}{a b:VB}{xs ys:List Nat}(ha:H a=some (.lst (xs.map strV)))(hb:H b=some (.lst (ys.map strV)))(e:xs=ys):oQ K H (n+1) (.ref a) (.ref b) true:=by subst e;refine A9 (aN.of ha) (aN.of hb) (Sh.mpr λy hy=>?_);obtain⟨k,_,rfl⟩:=RW.mp hy;rfl
end L2
seal L2.PE L2.PT L2.PA L2.PS L2.t6 L2.PG L2.Jx L2.PI L2.PO L2.tV L2.PW L2.bf L2.qX L2.jb L2.NK L2.xj L2.y0
namespace K16
open PySem L2
def bm(i:Nat):Oo:=PySem.Challenge.pw_playboard_k16_whole_places_stay_good.main.body.getD i (.Pass ⟨0,0,0,0⟩)
abbrev fN:Oo:=bm 6
theorem rH:aD ["thing"] ["thing"] (al fN):=dB
abbrev eO:Oo:=bm 7
theorem pj:aD ["thing"] ["thing"] (al eO):=dB
abbrev fQ:Oo:=bm 8
theorem rK:aD ["thing","least","most"] ["thing","least","most"] (al fQ):=dB
abbrev c7:Oo:=bm 9
theorem dD:aD ["number","group","groups","left"] ["number"] (al c7):=dB
abbrev gM:Oo:=bm 18
theorem uw:aD ["thing","words"] ["thing","words"] (al gM):=dB
abbrev c8:Oo:=bm 19
theorem md:aD ["thing","many"] ["thing","many"] (al c8):=dB
abbrev dF:Oo:=bm 20
theorem nw:aD ["thing","least","most"] ["thing","least","most"] (al dF):=dB
abbrev gO:Oo:=bm 21
theorem me:aD ["sort","across","up","longest"] ["sort","across","up"] (al gO):=dB
abbrev gP:Oo:=bm 22
theorem ju:aD ["thing","kinds","sort","aim"] ["thing","kinds"] (al gP):=dB
abbrev gQ:Oo:=bm 23
theorem ux:aD ["thing","firsts","seconds"] ["thing","firsts","seconds"] (al gQ):=dB
abbrev dn:Oo:=bm 24
theorem pA:aD ["thing","firsts","seconds"] ["thing","firsts","seconds"] (al dn):=dB
abbrev dh:Oo:=bm 25
theorem k3:aD ["thing","kinds","firsts"] ["thing","kinds"] (al dh):=dB
abbrev gR:Oo:=bm 26
theorem uy:aD ["thing","kinds"] ["thing","kinds"] (al gR):=dB
abbrev dt:Oo:=bm 27
theorem pB:aD ["thing"] ["thing"] (al dt):=dB
abbrev dm:Oo:=bm 28
theorem pz:aD ["thing","kinds"] ["thing","kinds"] (al dm):=dB
abbrev gG:Oo:=bm 32
theorem ut:aD ["kind","side"] ["kind","side"] (al gG):=dB
abbrev gK:Oo:=bm 33
theorem uv:aD ["sign"] ["sign"] (al gK):=dB
abbrev gH:Oo:=bm 34
theorem uu:aD ["sign"] ["sign"] (al gH):=dB
abbrev dk:Oo:=bm 35
theorem pr:aD ["board"] ["board"] (al dk):=dB
abbrev rM:Oo:=bm 36
theorem HC:aD ["row","square","sign"] ["row","square","sign"] (al rM):=dB
abbrev cR:Oo:=bm 37
theorem nv:aD ["row","side"] ["row","side"] (al cR):=dB
abbrev fO:Oo:=bm 38
theorem kA:aD ["game","thing","bare","signs"] ["game","thing"] (al fO):=dB
abbrev fP:Oo:=bm 39
theorem rJ:aD ["game","thing"] ["game","thing"] (al fP):=dB
abbrev rL:Oo:=bm 41
theorem pi:aD ["board","square","across","up","come_to","here"] ["board","square","across","up"] (al rL):=dB
abbrev mj:Oo:=bm 44
theorem lH:aD ["row","side","aim","path","found","goal","owner"] ["row","side","aim","path"] (al mj):=dB
abbrev iC:Oo:=bm 45
theorem xF:aD ["row","side","path"] ["row","side","path"] (al iC):=dB
abbrev gS:Oo:=bm 46
theorem jv:aD ["board","row","square","rule","side","path"] ["board","row","square","rule"] (al gS):=dB
abbrev jN:Oo:=bm 47
theorem mf:aD ["game","row","square","found","rule"] ["game","row","square"] (al jN):=dB
abbrev eP:Oo:=bm 50
theorem px:aD ["wide","square"] ["wide","square"] (al eP):=dB
abbrev iB:Oo:=bm 51
theorem xE:aD ["wide","square"] ["wide","square"] (al iB):=dB
abbrev eK:Oo:=bm 52
theorem pe:aD ["wide","column","row"] ["wide","column","row"] (al eK):=dB
abbrev cZ:Oo:=bm 53
theorem l9:aD ["wide","square"] ["wide","square"] (al cZ):=dB
abbrev iY:Oo:=bm 55
theorem jK:aD ["game","place","row","found","start"] ["game","place"] (al iY):=dB
abbrev gT:Oo:=bm 56
theorem uz:aD ["game","sign","side","goal"] ["game","sign","side","goal"] (al gT):=dB
abbrev iD:Oo:=bm 57
theorem dj:aD ["game","place","move","side","start","goal","taken","sign","row"] ["game","place","move"] (al iD):=dB
abbrev mn:Oo:=bm 58
theorem B1:aD ["game","place","move"] ["game","place","move"] (al mn):=dB
abbrev du:Oo:=bm 61
theorem pC:aD ["thing","many"] ["thing","many"] (al du):=dB
abbrev bS:Oo:=gq (bm 62) 0
theorem jL:aD ["self","wide","high","holes"] ["self","wide","high","holes"] (al bS):=dB
abbrev eU:Oo:=gq (bm 62) 1
theorem pE:aD ["self","square"] ["self","square"] (al eU):=dB
abbrev ii:Oo:=gq (bm 62) 2
abbrev db:Oo:=gq (bm 62) 3
theorem dE:aD ["self","square","across","up","column","row","goal"] ["self","square","across","up"] (al db):=dB
abbrev cA:Oo:=gq (bm 62) 4
theorem kE:aD ["self","side"] ["self","side"] (al cA):=dB
abbrev cz:Oo:=gq (bm 64) 0
theorem kD:aD ["self","board","kinds","rules","turns","ends","stuck"] ["self","board","kinds","rules","turns","ends","stuck"] (al cz):=dB
abbrev bV:Oo:=gq (bm 64) 1
theorem kC:aD ["self","kind"] ["self","kind"] (al bV):=dB
abbrev da:Oo:=gq (bm 64) 2
theorem mi:aD ["self","kind"] ["self","kind"] (al da):=dB
abbrev eM:Oo:=bm 66
theorem fC:aD ["game","move","wide","start","goal"] ["game","move"] (al eM):=dB
abbrev gJ:Oo:=bm 67
theorem ma:aD ["game","place","text","move"] ["game","place","text"] (al gJ):=dB
abbrev cN:Oo:=bm 69
theorem li:aD ["_law_script","_law_k"] ["_law_script","_law_k"] (al cN):=dB
abbrev dG:Oo:=bm 70
theorem ny:aD ["_law_cell","_law_k"] ["_law_cell","_law_k"] (al dG):=dB
abbrev dH:Oo:=bm 71
theorem bx:aD ["_law_script","_law_cell","_law_wide","_law_high","_law_holes","_law_k","_law_hole"] ["_law_script"] (al dH):=dB
abbrev cT:Oo:=bm 72
theorem gu:aD ["_law_cell","_law_letters","_law_step"] ["_law_cell"] (al cT):=dB
abbrev eS:Oo:=bm 73
theorem bE:aD ["_law_cell","_law_kinds_here","_law_more","_law_sort","_law_aim","_law_reach","_law_across","_law_up"] ["_law_cell","_law_kinds_here"] (al eS):=dB
abbrev cS:Oo:=bm 74
theorem eI:aD ["_law_cell","_law_kinds_here","_law_many","_law_other","_law_turns_here"] ["_law_cell","_law_kinds_here"] (al cS):=dB
abbrev eT:Oo:=bm 75
theorem a9:aD ["_law_script","_law_wide","_law_high","_law_holes","_law_kinds_here","_law_cell","_law_rules","_law_k","_law_turns_here","_law_ends","_law_more","_law_stuck"] ["_law_script"] (al eT):=dB
abbrev cw:Oo:=bm 76
theorem bu:aD ["_law_script","_law_game_here","_law_start","_law_size","_law_free","_law_signs","_law_cell","_law_cells","_law_spots","_law_k","_law_square","_law_more","_law_kind"] ["_law_script","_law_game_here","_law_start"] (al cw):=dB
abbrev eQ:Oo:=bm 77
theorem pD:aD ["_law_sign"] ["_law_sign"] (al eQ):=dB
abbrev cD:Oo:=bm 78
theorem mh:aD ["_law_row_here","_law_side_here"] ["_law_row_here","_law_side_here"] (al cD):=dB
abbrev cM:Oo:=bm 79
theorem ig:aD ["_law_signs","_law_sign","_law_at"] ["_law_signs","_law_sign"] (al cM):=dB
abbrev ci:Oo:=bm 80
theorem bW:aD ["_law_game_here","_law_ahead","_law_behind","_law_place","_law_move","_law_before","_law_now","_law_kind"] ["_law_game_here","_law_ahead","_law_behind","_law_place","_law_move"] (al ci):=dB
abbrev bX:Oo:=bm 81
theorem ba:aD ["_law_game_here","_law_place","_law_move","_law_behind","_law_start","_law_goal","_law_taken","_law_row_here","_law_square","_law_others"] ["_law_game_here","_law_place","_law_move","_law_behind"] (al bX):=dB
abbrev jM:Oo:=bm 82
theorem hJ:aD ["_law_script","_law_game_here","_law_place","_law_k","_law_cell","_law_found","_law_move","_law_behind"] ["_law_script"] (al jM):=dB
structure Txt(mg:NX)(aS aA aE aW:VB):Prop where
 isinstance:mg "isinstance"=none
 int:mg "int"=none
 bool:mg "bool"=none
 str:mg "str"=none
 list:mg "list"=none
 tuple:mg "tuple"=none
 len:mg "len"=none
 range:mg "range"=none
 all:mg "all"=none
 any:mg "any"=none
 set:mg "set"=none
 sorted:mg "sorted"=none
 min:mg "min"=none
 dict:mg "dict"=none
 enumerate:mg "enumerate"=none
 zip:mg "zip"=none
 reversed:mg "reversed"=none
 NOTHING:∃u,mg "NOTHING"=some u/\aQ (.int (-1)) u
 EMPTY:∃u,mg "EMPTY"=some u/\aQ (.str ".") u
 HOLE:∃u,mg "HOLE"=some u/\aQ (.str "#") u
 COLUMNS:∃u,mg "COLUMNS"=some u/\aQ (.str "abcdefghijklmnopqrstuvwxyz") u
 MOST_PAIRS:∃u,mg "MOST_PAIRS"=some u/\aQ (.int 6) u
 MOST_KINDS:∃u,mg "MOST_KINDS"=some u/\aQ (.int 6) u
 MOST_RULES:∃u,mg "MOST_RULES"=some u/\aQ (.int 24) u
 LONGEST:∃u,mg "LONGEST"=some u/\aQ (.int 8) u
 SORTS:∃u,mg "SORTS"=some u/\aQ (.ref aS) u
 AIMS:∃u,mg "AIMS"=some u/\aQ (.ref aA) u
 END_WORDS:∃u,mg "END_WORDS"=some u/\aQ (.ref aE) u
 STUCK_WORDS:∃u,mg "STUCK_WORDS"=some u/\aQ (.ref aW) u
section
variable{P:N5}{w:N9}{K:Frag}{mg:NX}{np:Oe}{aS aA aE aW:VB}
theorem sD{f:VB}{fd:Oa}(F:cF K "is_whole" "is_whole" fN f fd)(T:Txt mg aS aA aE aW):aY P w K mg np cK 1 f fd ["thing"] lW:=by refine F.ok1 rH λcdv A xc s H vs Q E hr h=>?_;obtain⟨v,rfl,t,q⟩:=h;refine⟨_,(aj (aB (dP (GQ .int T.isinstance T.int vL (cv 0)) (fm (IU (GQ .bool T.isinstance T.bool Db (cv 0))))))),?_⟩;show cg _ _ [some v] H;refine aM (cO (mS (ae rfl) t) (λ_=>II (mS (ae rfl) t))) ?_;rw[y7 t];exact q
theorem sH{f:VB}{fd:Oa}(F:cF K "is_among" "is_among" fQ f fd)(T:Txt mg aS aA aE aW)(C:RG0 P w K mg np):aY P w K mg np cK 2 f fd ["thing","least","most"] iz:=by
 refine F.ok1 rK λcdv A xc s H vs Q E hr h=>?_;obtain⟨v,a,b,rfl,t,q⟩:=h;have hu:=bF hr;refine⟨_,(aj (aB (dP (aC C.is_whole hr (az (cv 0) pan)) (fm (vi K hu (cv 1) (cv 0) (cv 2)))))),?_⟩;show cg _ _ [some v,oJ a,oJ b] H;have hc:=aH (sp:=lW) (σ:=[some v,oJ a,oJ b]) (H:=H) (aa (ae (n:=0) rfl) aq) (λQ q=>⟨v,rfl,t,q⟩);cases v with
 |int i=>exact aM (cO hc (λ_=>wT (ae rfl) (ae rfl) (λ_=>ae rfl))) q
 |_=>exact aM (cO (b:=false) hc (λh=>by cases h)) q
theorem uQ{f:VB}{fd:Oa}(F:cF K "is_word" "is_word" gM f fd)(T:Txt mg aS aA aE aW):aY P w K mg np cK 1 f fd ["thing","words"] (iX K):=by
 refine F.ok1 uw λcdv A xc s H vs Q E hr h=>?_;obtain⟨v,d,ws,rfl,t,hw,q⟩:=h;have hu:=bF hr;refine⟨_,(aj (aB (dP (GQ .str T.isinstance T.str qR (cv 0)) (fm (jA K hu (cv 0) (cv 1)))))),?_⟩;show cg _ _ [some v,oR d] H;have hs:=mS (T:=.str) (te:=eF 0) (σ:=[some v,oR d]) (ae rfl) t;rw[ug t]at hs;cases v with
 |str z=>exact aM (cO hs (λ_=>vt (ae rfl) (ae rfl) hw)) q
 |_=>exact aM (cO (b:=false) hs (λh=>by cases h)) q
theorem mz{f:VB}{fd:Oa}(F:cF K "is_tuple_of" "is_tuple_of" c8 f fd)(T:Txt mg aS aA aE aW):aY P w K mg np cK 1 f fd ["thing","many"] iy:=by
 refine F.ok1 md λcdv A xc s H vs Q E hr h=>?_;obtain⟨v,n,rfl,t,q⟩:=h;have hu:=bF hr;refine⟨_,(aj (aB (dP (GQ .tuple T.isinstance T.tuple Bt (cv 0)) (fm (jA K hu (kB (gB K) bP T.len (az (cv 0) pan)) (cv 1)))))),?_⟩;show cg _ _ [some v,oJ n] H;have hs:=mS (T:=.tuple) (te:=eF 0) (σ:=[some v,oJ n]) (ae rfl) t;rw[Hk t]at hs;unfold tupB at q;cases e:tupOf H v with
 |none=>
  rw[e]at hs q;exact aM (cO (b:=false) hs (λh=>by cases h)) q
 |some xs=>
  rw[e]at hs q;obtain⟨a,rfl,ha⟩:=fK e;exact aM (cO hs (λ_=>fT (cX (ae rfl) (.inr (cJ.of ha))) (ae rfl))) q
theorem nA{f:VB}{fd:Oa}(F:cF K "is_list_of" "is_list_of" dF f fd)(T:Txt mg aS aA aE aW):aY P w K mg np cK 1 f fd ["thing","least","most"] oW:=by
 refine F.ok1 nw λcdv A xc s H vs Q E hr h=>?_;obtain⟨v,a,b,rfl,t,q⟩:=h;have hu:=bF hr;refine⟨_,(aj (aB (dP (GQ .list T.isinstance T.list ja (cv 0)) (fm (vi K hu (cv 1) (kB (gB K) bP T.len (az (cv 0) pan)) (cv 2)))))),?_⟩;show cg _ _ [some v,oJ a,oJ b] H;have hs:=mS (T:=.list) (te:=eF 0) (σ:=[some v,oJ a,oJ b]) (ae rfl) t;rw[Im t]at hs;unfold kK at q;cases e:lstOf H v with
 |none=>
  rw[e]at hs q;exact aM (cO (b:=false) hs (λh=>by cases h)) q
 |some xs=>
  rw[e]at hs q;obtain⟨d,rfl,hd⟩:=fR e;exact aM (cO hs (λ_=>wT (ae rfl) (cX (ae rfl) (.inl (aN.of hd))) (λ_=>ae rfl))) q
theorem uR{f:VB}{fd:Oa}(F:cF K "is_step" "is_step" gO f fd)(T:Txt mg aS aA aE aW)(C:RG1 P w K mg np):aY P w K mg np cK 3 f fd ["sort","across","up"] v3:=by
 refine F.ok1 me λcdv A xc s H vs Q E hr h=>?_;obtain⟨so,x,y,rfl,tx,ty,q⟩:=h;have hu:=bF hr;refine⟨_,(af (av 3 me.nd (de (aL K hu (cv 0) bq) ag ag))
  (af (aR (PW.pt (dZ (bN (bG (aC C.is_among hr (az (cv 1) (az (qK (cv 3)) (az (cv 3) pan)))))) (cW (bN (bG (aC C.is_among hr (az (cv 2) (az (qK (cv 3)) (az (cv 3) pan))))))))) (aj (aB dv)) aF)
  (aj (aB (Mp (jA K hu (cv 1) ag) (fm (jA K hu (cv 2) ag))))))),?_⟩
 show bj _ _ _ [oT so,some x,some y,none] H;refine aU (v:=.int (limS so)) (λQ q=>?_) ?_
 .refine qW (mT (aZ (fS (ae rfl) ao)) (λ_=>ao) (λ_=>ao)) ?_;unfold limS at q
  by_cases h:so="leap"
  .rw[NR h]at q;rw[C0 h];exact q
  .rw[NQ h]at q;rw[NP h];exact q
 unfold kZ at q;generalize limS so=l at q ⊢;refine bg (fI (cE (aZ (aH (aa (ae rfl) (aa (vq (ae rfl)) (aa (ae rfl) aq))) (λQ q=>⟨x, -l,l,rfl,tx,q⟩)))) (λ_=>cE (aZ (aH (aa (ae rfl) (aa (vq (ae rfl)) (aa (ae rfl) aq))) (λQ q=>⟨y, -l,l,rfl,ty,q⟩))))) (λh=>?_) (λh=>?_)
 .refine aM ao ?_;have e:(amongB x (-l) l&&amongB y (-l) l&& !(decide (x=.int 0)&&decide (y=.int 0)))=false:=by cases h1:amongB x (-l) l<;>cases h2:amongB y (-l) l<;>simp_all
  rw[e]at q;exact q
 .have h1:amongB x (-l) l=true:=by cases h1:amongB x (-l) l<;>simp_all
  have h2:amongB y (-l) l=true:=by cases h2:amongB y (-l) l<;>simp_all
  cases x with
  |int i=>
   cases y with
   |int j=>
    refine aM (Mf (jk (ae rfl) ao) (λ_=>jk (ae rfl) ao)) ?_;rw[h1,h2]at q;have ei:∀k:Int,decide (V.int k=V.int 0)=decide (k=0):=λk=>by
     by_cases e:k=0
     .rw[C0 e,C0 (NW V.int e)]
     .rw[NP e,NP (λz=>e (by injection z))]
    rw[ei,ei]at q;have e:(true&&true&& !(decide (i=0)&&decide (j=0)))=(!decide (i=0)|| !decide (j=0)):=by cases decide (i=0)<;>cases decide (j=0)<;>rfl
    rw[e]at q;exact q
   |_=>cases h2
  |_=>cases h1
theorem uT{f:VB}{fd:Oa}(F:cF K "is_pair" "is_pair" gQ f fd)(T:Txt mg aS aA aE aW)(C:RG2 P w K mg np):aY P w K mg np cK 2 f fd ["thing","firsts","seconds"] (v5 K):=by
 refine F.ok1 ux λcdv A xc s H vs Q E hr h=>?_;obtain⟨v,d,e,A,B,rfl,t,hA,hB,q⟩:=h;have hu:=bF hr;refine⟨_,(aj (aB (dP (aC C.is_tuple_of hr (az (cv 0) (az ag pan))) (dP (aC C.is_word hr (az (bI K (cv 0) ag) (az (cv 1) pan))) (fm (aC C.is_word hr (az (bI K (cv 0) ag) (az (cv 2) pan)))))))),?_⟩;show cg _ _ [some v,oR d,oR e] H;have hc:=aH (sp:=iy) (σ:=[some v,oR d,oR e]) (H:=H) (x:=.bl (tupB H v 2)) (aa (ae (n:=0) rfl) (aa (ao (x:=.int 2)) aq)) (λQ q=>⟨v,2,rfl,t.thg,q⟩);unfold dL at q;unfold tupB at hc;cases e1:tupOf H v with
 |none=>
  rw[e1]at hc q;exact aM (cO (b:=false) hc (λh=>by cases h)) q
 |some xs=>
  rw[e1]at hc q;obtain⟨a,rfl,ha⟩:=fK e1;have tx:=t.2 xs (.inl e1)
  by_cases hl:(xs.length:Int)=2
  .match xs,hl,e1,ha,tx,q,hc with
   | [x,y],_,e1,ha,tx,q,hc=>
     exact aM (cO hc (λ_=>cO (aH (aa (aT (ae rfl) ao (.inr (cJ.of ha)) (bw (j:=0) rfl)) (aa (ae rfl) aq)) (λQ q=>⟨x,d,A,rfl,tx x (by simp),hA,q⟩))
      (λ_=>aH (aa (aT (ae rfl) ao (.inr (cJ.of ha)) (bw (j:=1) rfl)) (aa (ae rfl) aq)) (λQ q=>⟨y,e,B,rfl,tx y (by simp),hB,q⟩)))) q
  .have e2:sC xs A B=false:=by
    unfold sC;split
    .exact NU rfl hl
    .rfl
   have hc2:Ev (eA iy (bo (eF 0) (bo (tC (.int 2)) cL))) [some (.ref a),some (.ref d),some (.ref e)] H (.bl (decide ((xs.length:Int)=2))):=hc;rw[NP hl]at hc2;have q2:Q (.bl (sC xs A B)) H:=q;rw[e2]at q2;exact aM (cO (b:=false) hc2 (λh=>by cases h)) q2
theorem uS{f:VB}{fd:Oa}(F:cF K "is_rule" "is_rule" gP f fd)(T:Txt mg aS aA aE aW)(hS:∀H,io K H aS sortsL)(hA:∀H,io K H aA aimsL)(C:RG3 P w K mg np):aY P w K mg np cK 4 f fd ["thing","kinds"] (v4 K):=by
 refine F.ok1 ju λcdv A xc s H vs Q E hr h=>?_;obtain⟨v,d,ws,rfl,t,hw,q⟩:=h;have hu:=bF hr;refine⟨_,(af (aR (PW.pt (dZ (bN (bG (aC C.is_tuple_of hr (az (cv 0) (az ag pan))))) (cW (bN (bG (aC C.is_word hr (az (bI K (cv 0) ag) (az (cv 1) pan)))))))) (aj (aB dv)) aF)
  (af (av 2 ju.nd (bI K (cv 0) ag))
  (af (av 3 ju.nd (bI K (cv 0) ag))
  (af (aR (PW.pt (dZ (bN (bG (aC C.is_word hr (az (cv 2) (az (kg T.SORTS) pan))))) (cW (bN (bG (aC C.is_word hr (az (cv 3) (az (kg T.AIMS) pan)))))))) (aj (aB dv)) aF)
  (af (aR (PW.pt (gv (aL K hu (cv 2) bq) (fE (aL K hu (cv 3) bq)))) (aj (aB dv)) aF)
  (aj (aB (aC C.is_step hr (az (cv 2) (az (bI K (cv 0) ag) (az (bI K (cv 0) ag) pan))))))))))),?_⟩
 show bj _ _ _ [some v,oR d,none,none] H;have rb:tupB H v 5=false->dI H v ws=false:=λh=>by
  unfold tupB at h;unfold dI;cases e1:tupOf H v with
  |none=>rfl
  |some xs=>
   rw[e1]at h;have h:¬(xs.length:Int)=5:=NT h;show jg xs ws=false;unfold jg;split
   .exact NU rfl h
   .rfl
 cases hb0:tupB H v 5 with
 |false=>
  rw[rb hb0]at q;refine bg (fI (b:=false) (cE (aZ (aH (sp:=iy) (x:=.bl (tupB H v 5)) (aa (ae rfl) (aa ao aq)) (λQ q=>⟨v,5,rfl,t.thg,q⟩)))) (λh=>?_)) (λ_=>aM ao q) (λh=>?_)
  .rw[hb0]at h;cases h
  .rw[hb0]at h;cases h
 |true=>
  obtain⟨xs,e1,hl⟩:∃xs,tupOf H v=some xs/\(xs.length:Int)=5:=by
   unfold tupB at hb0;cases e1:tupOf H v with
   |none=>rw[e1]at hb0;cases hb0
   |some xs=>rw[e1]at hb0;exact⟨xs,rfl,NS hb0⟩
  unfold dI at q;rw[e1]at q;have q:Q (.bl (jg xs ws)) H:=q;obtain⟨a,rfl,ha⟩:=fK e1;have tx:=t.2 xs (.inl e1)
  match xs,hl,e1,ha,tx,q with
  | [k,so,ai,x,y],_,e1,ha,tx,q=>
    have hq:cJ K H a [k,so,ai,x,y]:=cJ.of ha;have hb:tupB H (.ref a) 5=true:=by unfold tupB;rw[e1];rfl
    refine bg (fI (cE (aZ (aH (sp:=iy) (x:=.bl (tupB H (.ref a) 5)) (aa (ae rfl) (aa ao aq)) (λQ q=>⟨.ref a,5,rfl,t.thg,q⟩)))) (λ_=>cE (aZ (aH (sp:=iX K) (aa (aT (ae rfl) ao (.inr hq) (bw (j:=0) rfl)) (aa (ae rfl) aq)) (λQ q=>⟨k,d,ws,rfl,tx k (by simp),hw,q⟩))))) (λh=>?_) (λh=>?_)
    .rw[hb]at h;have hk:wordB k ws=false:=by
      cases hk:wordB k ws
      .rfl
      .rw[hk]at h;cases h
     refine aM ao ?_;have e2:jg [k,so,ai,x,y] ws=false:=by
      unfold jg;split
      .rename_i z;cases z;rw[hk];simp
      .rfl
     rw[e2]at q;exact q
    .rw[hb]at h;have hk:wordB k ws=true:=by
      cases hk:wordB k ws
      .rw[hk]at h;cases h
      .rfl
     refine aU (v:=so) (aT (ae rfl) ao (.inr hq) (bw (j:=1) rfl)) ?_;refine aU (v:=ai) (aT (ae rfl) ao (.inr hq) (bw (j:=2) rfl)) ?_;refine bg (fI (cE (aZ (aH (sp:=iX K) (aa (ae rfl) (aa ao aq)) (λQ q=>⟨so,aS,sortsL,rfl,tx so (by simp),hS H,q⟩)))) (λ_=>cE (aZ (aH (sp:=iX K) (aa (ae rfl) (aa ao aq)) (λQ q=>⟨ai,aA,aimsL,rfl,tx ai (by simp),hA H,q⟩))))) (λh=>?_) (λh=>?_)
     .refine aM ao ?_;have e2:jg [k,so,ai,x,y] ws=false:=by
       unfold jg;split
       .rename_i k' so' ai' x' y' z;cases z;have h:(!decide (so'∈sortsL)|| !decide (ai'∈aimsL))=true:=h
        cases h1:decide (so'∈sortsL)<;>cases h2:decide (ai'∈aimsL)<;>simp_all
       .rfl
      rw[e2]at q;exact q
     .have h1:wordB so sortsL=true:=by cases h1:wordB so sortsL<;>simp_all
      have h2:wordB ai aimsL=true:=by cases h2:wordB ai aimsL<;>simp_all
      cases so with
      |str so=>
       cases ai with
       |str ai=>
        have h1:decide (so∈sortsL)=true:=h1;have h2:decide (ai∈aimsL)=true:=h2;have eR:jg [k,.str so,.str ai,x,y] ws=(!(decide (so="jump")&& !decide (ai="hit"))&&kZ so x y):=by show(wordB k ws&&decide (so∈sortsL)&&decide (ai∈aimsL)&& !(decide (so="jump")&& !decide (ai="hit"))&&kZ so x y)=_;rw[hk,h1,h2];simp
        rw[eR]at q;refine bg (gt (aZ (fS (ae rfl) ao)) (λ_=>aZ (iN (ae rfl) ao))) (λh=>?_) (λh=>?_)
        .refine aM ao ?_;rw[h]at q;exact q
        .rw[h]at q;exact bR (aa (ae rfl) (aa (aT (ae rfl) ao (.inr hq) (bw (j:=3) rfl)) (aa (aT (ae rfl) ao (.inr hq) (bw (j:=4) rfl)) aq))) ⟨so,x,y,rfl,tx x (by simp),tx y (by simp),q⟩
       |_=>cases h2
      |_=>cases h1
theorem qj{f:VB}{fd:Oa}(F:cF K "are_pairs" "are_pairs" dn f fd)(T:Txt mg aS aA aE aW)(C:RG4 P w K mg np):aY P w K mg np cK 3 f fd ["thing","firsts","seconds"] (rj K):=by
 refine F.ok1 pA λcdv A xc s H vs Q E hr h=>?_;obtain⟨v,d,e,A,B,rfl,t,hA,hB,q⟩:=h;have hu:=bF hr;refine⟨_,(aj (aB (dP (aC C.is_list_of hr (az (cv 0) (az ag (az (kg T.MOST_PAIRS) pan)))) (fm (kB (AI K) m8 T.all (az (fz (ck (N:=["part","firsts","seconds"]) (src:=[none,some 1,some 2]) (al dn) ["thing","firsts","seconds"]) (wE K (cv 0)) (λ_ _ _=>(bi (i:=0) ["part","firsts","seconds"])) (λ_ _ _=>bL) (λ_ _ _=>(aC C.is_pair hr (az (cv 0) (az (cv 1) (az (cv 2) pan)))))) pan)))))),?_⟩;show cg _ _ [some v,oR d,oR e] H;refine vO (a:=kK H v 0 6) (aH (aa (ae rfl) (aa ao (aa ao aq))) (λQ q=>⟨v,0,6,rfl,t.thg,q⟩)) (λh=>?_) (λh=>?_)
 .unfold kK at h;cases e1:lstOf H v with
  |none=>rw[e1]at h;cases h
  |some xs=>
   rw[e1]at h;have h:0<=(xs.length:Int)/\(xs.length:Int)<=6:=NS h;obtain⟨a,rfl,ha⟩:=fR e1;have tx:=t.2 xs (.inr e1);refine fH (d:=a) (xs:=xs) (rest:=[oR d,oR e]) (ae rfl) (aN.of ha) (by rw[Oc];omega) rfl (λ_=>true) (λx=>.bl (dL H x A B)) (λx hx=>cP) (λx hx _=>?_) (λp hp=>?_)
   .exact aH (aa (ae rfl) (aa (ae rfl) (aa (ae rfl) aq))) (λQ q=>⟨x,d,e,A,B,rfl,tx x hx,hA,hB,q⟩)
   .refine⟨xs.map (λx=>dL H x A B),?_,?_⟩
    .have e2:(xs.filter λ_=>true).map (λx=>V.bl (dL H x A B))=(xs.map (λx=>dL H x A B)).map V.bl:=by rw[Sm.mpr (λ_ _=>rfl),R5];rfl
     rw[<-e2];exact aN.of ah
    .have k:=q _ ((ak.refl H).upd (o:=.lst ((xs.filter λ_=>true).map (λx=>V.bl (dL H x A B)))) hp);unfold pairsB at k;rw[e1]at k;have e3:(decide (xs.length<=6)&&xs.all (λx=>dL H x A B))=(xs.map (λx=>dL H x A B)).all id:=by rw[C0 (by omega:xs.length<=6),TD];rfl
     have k:Q (.bl (decide (xs.length<=6)&&xs.all (λx=>dL H x A B))) _:=k;rw[e3]at k;exact k
 .have k:=q H (ak.refl H);have e2:pairsB H v A B=false:=by
   unfold pairsB;unfold kK at h;cases e1:lstOf H v with
   |none=>rfl
   |some xs=>
    rw[e1]at h;have h:¬(0<=(xs.length:Int)/\(xs.length:Int)<=6):=NT h;show(decide (xs.length<=6)&&_)=false;rw[NP (by omega:¬xs.length<=6)];rfl
  rw[e2]at k;exact k
theorem uU{f:VB}{fd:Oa}(F:cF K "is_ends" "is_ends" gR f fd)(T:Txt mg aS aA aE aW)(hE:∀H,io K H aE ik)(C:RG5 P w K mg np):aY P w K mg np cK 4 f fd ["thing","kinds"] (wb K):=by refine F.ok1 uy λcdv A xc s H vs Q E hr h=>?_;obtain⟨v,d,ws,rfl,t,hw,q⟩:=h;refine⟨_,(aj (aB (aC C.are_pairs hr (az (cv 0) (az (kg T.END_WORDS) (az (cv 1) pan)))))),?_⟩;show cg _ _ [some v,oR d] H;exact bR (aa (ae rfl) (aa ao (aa (ae rfl) aq))) ⟨v,aE,d,ik,ws,rfl,t,hE H,hw,q⟩
theorem sE{f:VB}{fd:Oa}(F:cF K "is_turns" "is_turns" dh f fd)(T:Txt mg aS aA aE aW)(C:RG5 P w K mg np):aY P w K mg np cK 4 f fd ["thing","kinds"] (ra K):=by
 refine F.ok1 k3 λcdv A xc s H vs Q E hr h=>?_;obtain⟨v,d,ws,rfl,t,hw,q⟩:=h;have hu:=bF hr;refine⟨_,(af (aR (bN (bG (aC C.are_pairs hr (az (cv 0) (az (cv 1) (az (cv 1) pan)))))) (aj (aB dv)) aF)
  (af (av 2 k3.nd (fz (ck (N:=["pair"]) (src:=[none]) (al dh) ["thing","kinds","firsts"]) (wE K (cv 0)) (λ_ _ _=>(bi (i:=0) ["pair"])) (λ_ _ _=>bL) (λ_ _ _=>(bI K (cv 0) ag))))
  (af (aR (bG (kB (Ny K) IZ T.any (az (fz (ck (N:=["pair","firsts"]) (src:=[none,some 2]) (al dh) ["thing","kinds","firsts"]) (wE K (cv 0)) (λ_ _ _=>(bi (i:=0) ["pair","firsts"])) (λ_ _ _=>bL) (λ_ _ _=>(jA K hu (bI K (cv 0) ag) (cv 1)))) pan))) (aj (aB dv)) aF)
  (aj (aB (jA K hu (kB m7 bP T.len (az (yZ (GN K hr) qS T.set (az (cv 2) pan)) pan)) (kB (gB K) bP T.len (az (cv 2) pan)))))))),?_⟩
 show bj _ _ _ [some v,oR d,none] H;refine cr (λb H'=>b=(!pairsB H v ws ws)/\ak H H') (λQ q=>kR (aa (ae rfl) (aa (ae rfl) (aa (ae rfl) aq))) ⟨v,d,d,ws,ws,rfl,t,hw,hw,λH' s=>q _ _ ⟨rfl,s⟩⟩) (λH1 h=>?_) (λH1 h=>?_)
 .obtain⟨hb,s1⟩:=h;have k:=q H1 s1;have e0:pairsB H v ws ws=false:=by
   cases z:pairsB H v ws ws
   .rfl
   .rw[z]at hb;cases hb
  unfold fJ at k;rw[e0]at k;exact aM ao k
 .obtain⟨hb,s1⟩:=h;have e0:pairsB H v ws ws=true:=by
   cases z:pairsB H v ws ws
   .rw[z]at hb;cases hb
   .rfl
  unfold fJ at q;rw[e0]at q;obtain⟨xs,e1,l6,hp⟩:=xV e0;rw[e1]at q;have q:∀H',ak H H'->Q (.bl (!(xs.any λx=>decide (gF H x∈xs.map (cx H)))&&decide ((xs.map (cx H)).Nodup))) H':=q;obtain⟨a,rfl,ha⟩:=fR e1;have ha1:=s1 _ _ ha;refine bJ (λu H'=>∃fq,u=.ref fq/\H' fq=some (.lst ((xs.map (cx H)).map V.str))/\ak H1 H') (λQ q=>?_) ?_
  .refine fH (d:=a) (xs:=xs) (rest:=[]) (ae rfl) (aN.of ha1) (by rw[Oc];omega) rfl (λ_=>true) (λx=>.str (cx H x)) (λx hx=>cP) (λx hx _=>?_) (λp hp'=>?_)
   .obtain⟨c,f1,f2,rfl,hc⟩:=hp x hx;have e:cx H (.ref c)=f1:=by simp only[cx,tupOf,hc]
    rw[e];exact aT (ae rfl) ao (.inr (cJ.of (s1 _ _ hc))) (bw (j:=0) rfl)
   .have e:(xs.filter λ_=>true).map (λx=>V.str (cx H x))=(xs.map (cx H)).map V.str:=by rw[Sm.mpr (λ_ _=>rfl),R5];rfl
    rw[e];exact q _ _ ⟨p,rfl,ah,(ak.refl H1).upd hp'⟩
  rintro _ H2 ⟨fq,rfl,hf,s2⟩;have ha2:=s2 _ _ ha1;refine cr (λb H'=>b=(xs.any λx=>decide (gF H x∈xs.map (cx H)))/\ak H2 H') (λQ q=>?_) (λH3 h=>?_) (λH3 h=>?_)
  .refine fH (d:=a) (xs:=xs) (rest:=[oR fq]) (ae rfl) (aN.of ha2) (by rw[Oc];omega) rfl (λ_=>true) (λx=>.bl (decide (gF H x∈xs.map (cx H)))) (λx hx=>cP) (λx hx _=>?_) (λp hp'=>?_)
   .obtain⟨c,f1,f2,rfl,hc⟩:=hp x hx;have e:gF H (.ref c)=f2:=by simp only[gF,tupOf,hc]
    rw[e];exact vt (aT (ae rfl) ao (.inr (cJ.of (s2 _ _ (s1 _ _ hc)))) (bw (j:=1) rfl)) (ae rfl) (.inl (aN.of hf))
   .refine⟨xs.map (λx=>decide (gF H x∈xs.map (cx H))),?_,?_⟩
    .have e2:(xs.filter λ_=>true).map (λx=>V.bl (decide (gF H x∈xs.map (cx H))))=(xs.map (λx=>decide (gF H x∈xs.map (cx H)))).map V.bl:=by rw[Sm.mpr (λ_ _=>rfl),R5];rfl
     rw[<-e2];exact aN.of ah
    .have e3:(xs.map (λx=>decide (gF H x∈xs.map (cx H)))).any id=xs.any λx=>decide (gF H x∈xs.map (cx H)):=by rw[S7];rfl
     rw[e3];exact q _ _ ⟨rfl,(ak.refl H2).upd hp'⟩
  .have k:=q H3 ((s1.trans s2).trans h.2);rw[<-h.1]at k;exact aM ao k
  .have s03:=(s1.trans s2).trans h.2;show cg _ _ [oR a,oR d,oR fq] H3;have hf3:=h.2 _ _ hf;refine Bm (sR (ss:=xs.map (cx H)) (ae rfl) (aN.of hf3) (by rw[RT];omega) (λH4 s4=>?_));refine qW (cX (ae rfl) (.inl (aN.of (s4 _ _ hf3)))) ?_;have k:=q H4 (s03.trans s4);rw[<-h.1]at k;have e4:decide ((((kY (xs.map (cx H))).length:Nat):Int)=((((xs.map (cx H)).map V.str).length:Nat):Int))=decide ((xs.map (cx H)).Nodup):=by
    rw[RT (f:=V.str)]
    by_cases hn:(xs.map (cx H)).Nodup
    .rw[C0 hn,C0 (by rw[(iU _).mpr hn])]
    .rw[NP hn,NP (λz=>hn ((iU _).mp (by omega)))]
   show Q (.bl (decide ((((kY (xs.map (cx H))).length:Nat):Int)=((((xs.map (cx H)).map V.str).length:Nat):Int)))) H4;rw[e4];exact k
theorem qf{f:VB}{fd:Oa}(F:cF K "is_letter" "is_letter" eO f fd)(T:Txt mg aS aA aE aW):aY P w K mg np cK 1 f fd ["thing"] nU:=by
 refine F.ok1 pj λcdv A xc s H vs Q E hr h=>?_;obtain⟨v,rfl,t,q⟩:=h;have hu:=bF hr;refine⟨_,(aj (aB (dP (GQ .str T.isinstance T.str qR (cv 0)) (dP (jA K hu (kB (gB K) bP T.len (az (cv 0) pan)) ag) (fm (vi K hu bq (cv 0) bq)))))),?_⟩;show cg _ _ [some v] H;have hs:=mS (T:=.str) (te:=eF 0) (σ:=[some v]) (ae rfl) t;rw[ug t]at hs;cases v with
 |str z=>
  refine aM (cO hs (λ_=>cO (fT (lO (ae rfl) (T0 (show z.length<=1000 from t) (by decide))) ao) (λ_=>CV ao (ae rfl) ao))) ?_;rw[Lh,Lg];have e:(true&&(decide ((z.length:Int)=1)&&(!decide (z.cps.toList<[97])&& !decide ([122]<z.cps.toList))))=letB (.str z):=by
   rw[dC]
   match e:z.cps.toList with
   | [c]=>
     simp only[letB,e,Az];rw[UF];simp
   | []=>simp only[letB,e];rfl
   |_::_::r=>
    simp only[letB,e];rw[NP (by simp only[Sf];omega)];rfl
  have q2:=q;rw[<-e]at q2;exact q2
 |_=>exact aM (cO (b:=false) hs (λh=>by cases h)) q
theorem qk{f:VB}{fd:Oa}(F:cF K "are_kinds" "are_kinds" dt f fd)(T:Txt mg aS aA aE aW)(C:NO P w K mg np):aY P w K mg np cK 2 f fd ["thing"] rB:=by
 refine F.ok1 pB λcdv A xc s H vs Q E hr h=>?_;obtain⟨v,rfl,t,q⟩:=h;have hu:=bF hr;refine⟨_,(af (aR (PW.pt (dZ (bN (bG (aC C.is_list_of hr (az (cv 0) (az ag (az (kg T.MOST_KINDS) pan)))))) (cW (bN (bG (kB (AI K) m8 T.all (az (fz (ck (N:=["part"]) (src:=[none]) (al dt) ["thing"]) (wE K (cv 0)) (λ_ _ _=>(bi (i:=0) ["part"])) (λ_ _ _=>bL) (λ_ _ _=>(aC C.is_letter hr (az (cv 0) pan)))) pan))))))) (aj (aB dv)) aF)
  (aj (aB (jA K hu (kB m7 bP T.len (az (yZ (GN K hr) qS T.set (az (cv 0) pan)) pan)) (kB (gB K) bP T.len (az (cv 0) pan)))))),?_⟩
 show bj _ _ _ [some v] H;have eL:Ev (eA oW (bo (eF 0) (bo (tC (.int 1)) (bo (tC (.int 6)) cL)))) [some v] H (.bl (kK H v 1 6)):=aH (aa (ae rfl) (aa ao (aa ao aq))) (λQ q=>⟨v,1,6,rfl,t.thg,q⟩);unfold mL at q;cases e1:lstOf H v with
 |none=>
  have hb:kK H v 1 6=false:=by unfold kK;rw[e1]
  rw[hb]at eL;rw[e1]at q;refine bg (b:=true) (λQ q=>cE (aZ eL) _ (iI q)) (λ_=>aM ao (q H (ak.refl H))) (λh=>by cases h)
 |some xs=>
  rw[e1]at q;have q:∀H',ak H H'->Q (.bl (decide (1<=xs.length/\xs.length<=6)&&xs.all letB&&decide ((xs.map iw).Nodup))) H':=q;obtain⟨a,rfl,ha⟩:=fR e1;have tx:=t.2 xs (.inr e1);have hb:kK H (.ref a) 1 6=decide (1<=xs.length/\xs.length<=6):=by unfold kK;rw[e1];show decide ((1:Int)<=xs.length/\(xs.length:Int)<=6)=_;rw[decide_eq_decide];omega
  rw[hb]at eL
  by_cases hl:1<=xs.length/\xs.length<=6
  .rw[C0 hl]at eL q;refine cr (λb H'=>b=(!xs.all letB)/\ak H H') (λQ q=>?_) (λH1 h=>?_) (λH1 h=>?_)
   .refine Lf (cE (aZ eL)) ?_;refine fH (d:=a) (xs:=xs) (rest:=[]) (ae rfl) (aN.of ha) (by rw[Oc];omega) rfl (λ_=>true) (λx=>.bl (letB x)) (λx hx=>cP) (λx hx _=>?_) (λp hp=>?_)
    .exact aH (aa (ae rfl) aq) (λQ q=>⟨x,rfl,tx x hx,q⟩)
    .refine⟨xs.map letB,?_,?_⟩
     .have e2:(xs.filter λ_=>true).map (λx=>V.bl (letB x))=(xs.map letB).map V.bl:=by rw[Sm.mpr (λ_ _=>rfl),R5];rfl
      rw[<-e2];exact aN.of ah
     .have e3:(xs.map letB).all id=xs.all letB:=by rw[TD];rfl
      rw[e3];exact q _ _ ⟨rfl,(ak.refl H).upd hp⟩
   .have k:=q H1 h.2;have e0:xs.all letB=false:=by
     cases z:xs.all letB
     .rfl
     .rw[z]at h;cases h.1
    rw[e0]at k;exact aM ao k
   .obtain⟨hq,s1⟩:=h;have e0:xs.all letB=true:=by
     cases z:xs.all letB
     .rw[z]at hq;cases hq
     .rfl
    have e5:xs=(xs.map iw).map V.str:=by
     rw[R5];have:∀x∈xs,x=(V.str∘iw) x:=λx hx=>by obtain⟨c,rfl,_⟩:=AB (Sh.mp e0 x hx);rfl
     exact(TC xs).symm.trans (Sq this)
    have ha1:=s1 _ _ ha;rw[e5]at ha1;show cg _ _ [oR a] H1;refine Bm (sR (ss:=xs.map iw) (ae rfl) (aN.of ha1) (by rw[RT];omega) (λH4 s4=>?_));refine qW (cX (ae rfl) (.inl (aN.of (s4 _ _ ha1)))) ?_;have k:=q H4 (s1.trans s4);rw[e0]at k;have e4:decide ((((kY (xs.map iw)).length:Nat):Int)=((((xs.map iw).map V.str).length:Nat):Int))=decide ((xs.map iw).Nodup):=by
     rw[RT (f:=V.str)]
     by_cases hn:(xs.map iw).Nodup
     .rw[C0 hn,C0 (by rw[(iU _).mpr hn])]
     .rw[NP hn,NP (λz=>hn ((iU _).mp (by omega)))]
    show Q (.bl (decide ((((kY (xs.map iw)).length:Nat):Int)=((((xs.map iw).map V.str).length:Nat):Int)))) H4;rw[e4];exact k
  .rw[NP hl]at eL q;exact bg (b:=true) (λQ q=>cE (aZ eL) _ (iI q)) (λ_=>aM ao (q H (ak.refl H))) (λh=>by cases h)
theorem qi{f:VB}{fd:Oa}(F:cF K "are_rules" "are_rules" dm f fd)(T:Txt mg aS aA aE aW)(C:NO P w K mg np):aY P w K mg np cK 5 f fd ["thing","kinds"] (rf K):=by
 refine F.ok1 pz λcdv A xc s H vs Q E hr h=>?_;obtain⟨v,d,ws,rfl,t,hw,q⟩:=h;have hu:=bF hr;refine⟨_,(aj (aB (dP (aC C.is_list_of hr (az (cv 0) (az ag (az (kg T.MOST_RULES) pan)))) (fm (kB (AI K) m8 T.all (az (fz (ck (N:=["part","kinds"]) (src:=[none,some 1]) (al dm) ["thing","kinds"]) (wE K (cv 0)) (λ_ _ _=>(bi (i:=0) ["part","kinds"])) (λ_ _ _=>bL) (λ_ _ _=>(aC C.is_rule hr (az (cv 0) (az (cv 1) pan))))) pan)))))),?_⟩;show cg _ _ [some v,oR d] H;refine vO (a:=kK H v 0 24) (aH (aa (ae rfl) (aa ao (aa ao aq))) (λQ q=>⟨v,0,24,rfl,t.thg,q⟩)) (λh=>?_) (λh=>?_)
 .unfold kK at h;cases e1:lstOf H v with
  |none=>rw[e1]at h;cases h
  |some xs=>
   rw[e1]at h;have h:0<=(xs.length:Int)/\(xs.length:Int)<=24:=NS h;obtain⟨a,rfl,ha⟩:=fR e1;have tx:=t.2 xs (.inr e1);refine fH (d:=a) (xs:=xs) (rest:=[oR d]) (ae rfl) (aN.of ha) (by rw[Oc];omega) rfl (λ_=>true) (λx=>.bl (dI H x ws)) (λx hx=>cP) (λx hx _=>?_) (λp hp=>?_)
   .exact aH (aa (ae rfl) (aa (ae rfl) aq)) (λQ q=>⟨x,d,ws,rfl,tx x hx,hw,q⟩)
   .refine⟨xs.map (λx=>dI H x ws),?_,?_⟩
    .have e2:(xs.filter λ_=>true).map (λx=>V.bl (dI H x ws))=(xs.map (λx=>dI H x ws)).map V.bl:=by rw[Sm.mpr (λ_ _=>rfl),R5];rfl
     rw[<-e2];exact aN.of ah
    .have k:=q _ ((ak.refl H).upd (o:=.lst ((xs.filter λ_=>true).map (λx=>V.bl (dI H x ws)))) hp);unfold eZ at k;rw[e1]at k;have e3:(decide (xs.length<=24)&&xs.all (λx=>dI H x ws))=(xs.map (λx=>dI H x ws)).all id:=by rw[C0 (by omega:xs.length<=24),TD];rfl
     have k:Q (.bl (decide (xs.length<=24)&&xs.all (λx=>dI H x ws))) _:=k;rw[e3]at k;exact k
 .have k:=q H (ak.refl H);have e2:eZ H v ws=false:=by
   unfold eZ;unfold kK at h;cases e1:lstOf H v with
   |none=>rfl
   |some xs=>
    rw[e1]at h;have h:¬(0<=(xs.length:Int)/\(xs.length:Int)<=24):=NT h;show(decide (xs.length<=24)&&_)=false;rw[NP (by omega:¬xs.length<=24)];rfl
  rw[e2]at k;exact k
theorem qu{f cG:VB}{fd:Oa}(F:cF K "__init__" "Game.__init__" cz f fd)(T:Txt mg aS aA aE aW)(hW:∀H,io K H aW iu)(B:vS K cG)(C:GG2 P w K mg np):aY P w K mg np cK 6 f fd ["self","board","kinds","rules","turns","ends","stuck"] (wa K cG):=by
 refine F.ok1 kD λcdv A xc s H vs Q E hr h=>?_;obtain⟨p,b,kd,rd,td,ed,dx,ws,rs,ts,es,st,rfl,hp,hk,hr',ht,he,tk,tr,tt,te,bk,br,bt,be,hst,lst',q⟩:=h;have hu:=bF hr;have wk:∀H',ak H H'->io K H' kd ws:=λH' s=>.inl (aN.of (s _ _ hk));refine⟨_,(af (aR (bN (bG (aC C.are_kinds hr (az (cv 2) pan)))) (aj dJ) aF)
  (af (aR (bN (bG (aC C.are_rules hr (az (cv 3) (az (cv 2) pan))))) (aj dJ) aF)
  (af (aR (bN (bG (aC C.is_turns hr (az (cv 4) (az (cv 2) pan))))) (aj dJ) aF)
  (af (aR (bN (bG (aC C.is_ends hr (az (cv 5) (az (cv 2) pan))))) (aj dJ) aF)
  (af (aR (bN (bG (aC C.is_word hr (az (cv 6) (az (kg T.STUCK_WORDS) pan))))) (aj dJ) aF)
  (af (jj K (cv 0) (cv 1))
  (af (jj K (cv 0) (yZ (wF K) ja T.list (az (cv 2) pan)))
  (af (jj K (cv 0) (yZ (wF K) ja T.list (az (cv 3) pan)))
  (af (jj K (cv 0) (yZ (wF K) ja T.list (az (cv 4) pan)))
  (af (jj K (cv 0) (yZ (wF K) ja T.list (az (cv 5) pan)))
  (aj (jj K (cv 0) (cv 6))))))))))))),?_⟩
 show bj _ _ _ [oR p,oR b,oR kd,oR rd,oR td,oR ed,oT st] H;refine cr (λb H'=>b=false/\ak H H') (λQ q=>kR (aa (ae rfl) aq) ⟨.ref kd,rfl,tk,λH' s=>?_⟩) (λH' h=>by cases h.1) (λH1 h=>?_)
 .rw[bk];exact q _ _ ⟨rfl,s⟩
 obtain⟨_,s1⟩:=h;have eqR:eZ H1 (.ref rd) ws=eZ H (.ref rd) ws:=rN tr s1;refine cr (λb H'=>b=false/\ak H1 H') (λQ q=>kR (aa (ae rfl) (aa (ae rfl) aq)) ⟨.ref rd,kd,ws,rfl,tr.same s1,wk _ s1,λH' s=>?_⟩) (λH' h=>by cases h.1) (λH2 h=>?_)
 .rw[eqR,br];exact q _ _ ⟨rfl,s⟩
 obtain⟨_,s2⟩:=h;have s02:=s1.trans s2;have eqT:fJ H2 (.ref td) ws=fJ H (.ref td) ws:=qY tt s02;refine cr (λb H'=>b=false/\ak H2 H') (λQ q=>kR (aa (ae rfl) (aa (ae rfl) aq)) ⟨.ref td,kd,ws,rfl,tt.same s02,wk _ s02,λH' s=>?_⟩) (λH' h=>by cases h.1) (λH3 h=>?_)
 .rw[eqT,bt];exact q _ _ ⟨rfl,s⟩
 obtain⟨_,s3⟩:=h;have s03:=s02.trans s3;have eqE:pairsB H3 (.ref ed) ik ws=pairsB H (.ref ed) ik ws:=la te s03;refine cr (λb H'=>b=false/\ak H3 H') (λQ q=>kR (aa (ae rfl) (aa (ae rfl) aq)) ⟨.ref ed,kd,ws,rfl,te.same s03,wk _ s03,λH' s=>?_⟩) (λH' h=>by cases h.1) (λH4 h=>?_)
 .rw[eqE,be];exact q _ _ ⟨rfl,s⟩
 obtain⟨_,s4⟩:=h;have s04:=s03.trans s4;refine bg (cE (aZ (aH (aa (ae rfl) (aa ao aq)) (λQ q=>⟨.str st,aW,iu,rfl,lst',hW H4,q⟩)))) (λh=>?_) (λ_=>?_)
 .have e:wordB (.str st) iu=true:=C0 hst;rw[e]at h;cases h
 have gl:=λb k r t e=>IF (b:=b) (k:=k) (r:=r) (t:=t) (e:=e);have nk:p≠kd:=gW hp hk (by intro z;cases z);have nr:p≠rd:=gW hp hr' (by intro z;cases z);have nt:p≠td:=gW hp ht (by intro z;cases z);have ne':p≠ed:=gW hp he (by intro z;cases z);have h4:∀(G:Hp),SameBut p H G->G kd=some (.lst (ws.map V.str))/\G rd=some (.lst rs)/\G td=some (.lst ts)/\G ed=some (.lst es):=λG sb=>⟨sb _ _ hk nk.symm,sb _ _ hr' nr.symm,sb _ _ ht nt.symm,sb _ _ he ne'.symm⟩;refine ui (ae rfl) (ae rfl) (s04 _ _ hp) B.cl B.board (by decide) ?_;generalize hG5:upd H4 p (HO.ins cG dx (putF "board" (V.ref b) []))=G5;have p5:G5 p=some (.ins cG dx (gf1 b)):=hG5▸ah;have b5:SameBut p H G5:=hG5▸s04.but.self;have nfree:∀(G:Hp)(q:VB),SameBut p H G->G p≠none->G q=none->H q=none:=λG q sb hpp hq=>by
  cases e:H q with
  |none=>rfl
  |some o=>
   by_cases z:q=p
   .rw[z]at hq;exact NU hq hpp
   .have:=sb q o e z;rw[hq]at this;cases this
 refine lE (ae rfl) (h4 _ b5).1 (λH'=>ae rfl) p5 B.cl B.kinds (by have:=(gl b 0 0 0 0).1;omega) (λkq hkq=>?_);have nkq:p≠kq:=aw p5 hkq;generalize hG6:upd (upd G5 kq (HO.lst (ws.map V.str))) p (HO.ins cG dx (putF "kinds" (V.ref kq) (gf1 b)))=G6;have p6:G6 p=some (.ins cG dx (gf2 b kq)):=hG6▸ah;have k6:G6 kq=some (.lst (ws.map V.str)):=by rw[<-hG6,au nkq.symm,ah]
 have b6:SameBut p H G6:=hG6▸(b5.new (nfree _ _ b5 (by rw[p5];simp) hkq)).self;refine lE (ae rfl) (h4 _ b6).2.1 (λH'=>ae rfl) p6 B.cl B.rules (by have:=(gl b kq 0 0 0).2.1;omega) (λrq hrq=>?_);have nrq:p≠rq:=aw p6 hrq;generalize hG7:upd (upd G6 rq (HO.lst rs)) p (HO.ins cG dx (putF "rules" (V.ref rq) (gf2 b kq)))=G7;have p7:G7 p=some (.ins cG dx (gf3 b kq rq)):=hG7▸ah;have r7:G7 rq=some (.lst rs):=by rw[<-hG7,au nrq.symm,ah]
 have k7:G7 kq=some (.lst (ws.map V.str)):=by rw[<-hG7,au nkq.symm,au (aw k6 hrq)];exact k6
 have b7:SameBut p H G7:=hG7▸(b6.new (nfree _ _ b6 (by rw[p6];simp) hrq)).self;refine lE (ae rfl) (h4 _ b7).2.2.1 (λH'=>ae rfl) p7 B.cl B.turns (by have:=(gl b kq rq 0 0).2.2.1;omega) (λtq htq=>?_);have ntq:p≠tq:=aw p7 htq;generalize hG8:upd (upd G7 tq (HO.lst ts)) p (HO.ins cG dx (putF "turns" (V.ref tq) (gf3 b kq rq)))=G8;have p8:G8 p=some (.ins cG dx (gf4 b kq rq tq)):=hG8▸ah;have t8:G8 tq=some (.lst ts):=by rw[<-hG8,au ntq.symm,ah]
 have r8:G8 rq=some (.lst rs):=by rw[<-hG8,au nrq.symm,au (aw r7 htq)];exact r7
 have k8:G8 kq=some (.lst (ws.map V.str)):=by rw[<-hG8,au nkq.symm,au (aw k7 htq)];exact k7
 have b8:SameBut p H G8:=hG8▸(b7.new (nfree _ _ b7 (by rw[p7];simp) htq)).self;refine lE (ae rfl) (h4 _ b8).2.2.2 (λH'=>ae rfl) p8 B.cl B.ends (by have:=(gl b kq rq tq 0).2.2.2.1;omega) (λeq heq=>?_);have neq:p≠eq:=aw p8 heq;generalize hG9:upd (upd G8 eq (HO.lst es)) p (HO.ins cG dx (putF "ends" (V.ref eq) (gf4 b kq rq tq)))=G9;have p9:G9 p=some (.ins cG dx (CO b kq rq tq eq)):=hG9▸ah;have e9:G9 eq=some (.lst es):=by rw[<-hG9,au neq.symm,ah]
 have t9:G9 tq=some (.lst ts):=by rw[<-hG9,au ntq.symm,au (aw t8 heq)];exact t8
 have r9:G9 rq=some (.lst rs):=by rw[<-hG9,au nrq.symm,au (aw r8 heq)];exact r8
 have k9:G9 kq=some (.lst (ws.map V.str)):=by rw[<-hG9,au nkq.symm,au (aw k8 heq)];exact k8
 have b9:SameBut p H G9:=hG9▸(b8.new (nfree _ _ b8 (by rw[p8];simp) heq)).self;refine vW (λv H'=>v=.str st/\H'=G9) (λQ q=>qW (v:=.str st) (ae rfl) (q _ _ ⟨rfl,rfl⟩)) p cG dx (λH' Q q=>ae rfl Q q) B.cl B.stuck ?_;rintro _ _ ⟨rfl,rfl⟩;refine⟨_,p9,by have:=(gl b kq rq tq eq).2.2.2.2;omega,?_⟩;refine q _ ⟨dx,kq,rq,tq,eq,ah,?_,?_,?_,?_⟩ b9.self
 .rw[au nkq.symm];exact k9
 .rw[au nrq.symm];exact r9
 .rw[au ntq.symm];exact t9
 .rw[au neq.symm];exact e9
end
section
variable{P:N5}{w:N9}{K:Frag}{mg:NX}{np:Oe}{aS aA aE aW:VB}
theorem ql{f:VB}{fd:Oa}(F:cF K "are_holes" "are_holes" du f fd)(T:Txt mg aS aA aE aW)(C:CA P w K mg np):aY P w K mg np cK 3 f fd ["thing","many"] rC:=by
 refine F.ok1 pC λcdv A xc s H vs Q E hr h=>?_;obtain⟨d,m,hs,rfl,hd,good,nd,hl,m64,k⟩:=h;have hu:=bF hr;have hS:aN K H d (hs.map V.int):=aN.of hd;refine⟨_,(af (aR (PW.pt (dZ (bN (bG (GQ .list T.isinstance T.list ja (cv 0)))) (cW (aL K hu (kB (gB K) bP T.len (az (cv 0) pan)) (cv 1))))) (aj (aB dv)) aF)
  (af (aR (bN (bG (kB (AI K) m8 T.all (az (fz (ck (N:=["hole","many"]) (src:=[none,some 1]) (al du) ["thing","many"]) (wE K (cv 0)) (λ_ _ _=>(bi (i:=0) ["hole","many"])) (λ_ _ _=>bL) (λ_ _ _=>(aC C.is_among hr (az (cv 0) (az ag (az (am (cv 1) ag) pan)))))) pan)))) (aj (aB dv)) aF)
  (aj (aB (jA K hu (kB vJ bP T.len (az (yZ (Nw K hr) qS T.set (az (cv 0) pan)) pan)) (kB (gB K) bP T.len (az (cv 0) pan))))))),?_⟩
 show bj _ _ _ [oR d,oJ m] H;refine bg (fI (cE (aZ (IK (ae rfl) hd))) (λ_=>(aZ (A6 (cX (ae rfl) (.inl hS)) (ae rfl))))) (λh=>?_) (λ_=>?_)
 .have h:decide (m<=((hs.map V.int).length:Int))=true:=h;have h:=NS h;rw[RT]at h;omega
 refine cr (λb H'=>b=false/\ak H H') (λQ q=>?_) (λH' h=>by cases h.1) (λH1 h=>?_)
 .refine fH (d:=d) (xs:=hs.map V.int) (rest:=[oJ m]) (ae rfl) hS (by rw[RT,Oc];omega) rfl (λ_=>true) (λ_=>.bl true) (λx hx=>cP) (λx hx _=>?_) (λd' hd'=>?_)
  .obtain⟨z,hz,rfl⟩:=RW.mp hx;have g:=good z hz;refine aH (aa (ae rfl) (aa ao (aa (eC (ae rfl) ao) aq))) (λQ q=>⟨z,0,m - 1,rfl,?_⟩);rw[C0 (by omega:0<=z/\z<=m - 1)];exact q
  .refine⟨List.replicate hs.length true,?_,?_⟩
   .have e:((hs.map V.int).filter λ_=>true).map (λ_=>V.bl true)=(List.replicate hs.length true).map V.bl:=by rw[Sm.mpr (λ_ _=>rfl),R5,List.map_replicate];show hs.map (λ_=>V.bl true)=_;rw[List.map_const']
    rw[<-e];exact aN.of ah
   .have e:(List.replicate hs.length true).all id=true:=by simp
    rw[e];exact q _ _ ⟨rfl,(ak.refl H).upd hd'⟩
 obtain⟨_,s1⟩:=h;have hS1:=s1.seq hS;simp only[cg,eY,cB,bo,cL];refine qW (ae rfl) ?_;refine⟨hs,hS1,by have:scanBound=4096:=rfl;omega,λq hq=>?_⟩;refine⟨_,_,ah,?_⟩;have s2:ak H1 (upd H1 q (.set (λk=>(uniq hs).any (· == k)) (uniq hs).length)):=(ak.refl H1).upd hq;refine qW (v:=.ref d) (ae rfl) ⟨_,.inl (s2.seq hS1),?_⟩;rw[RT,(zh hs).mpr nd];show Q (.bl (decide ((hs.length:Int)=hs.length))) _;rw[C0 rfl];exact k _ (s1.trans ((ak.refl H1).upd hq))
theorem nH{f cB:VB}{fd:Oa}(F:cF K "__init__" "Board.__init__" bS f fd)(T:Txt mg aS aA aE aW)(B:iT K cB)(C:CB2 P w K mg np):aY P w K mg np cK 4 f fd ["self","wide","high","holes"] (oY K cB):=by
 refine F.ok1 jL λcdv A xc s H vs Q E hr h=>?_;obtain⟨p,d,dx,wi,hi,hs,rfl,hp,hd,w1,w8,h1,h8,good,nd,hl,k⟩:=h;have hu:=bF hr;have m1:wi*hi<=8*8:=Uq w8 h8 (by omega) (by omega);have m0:0<=wi*hi:=Uy (by omega) (by omega);have npd:p≠d:=gW hp hd (by intro z;cases z);refine⟨_,(af (aR (PW.pt (dZ (bN (bG (aC C.is_among hr (az (cv 1) (az ag (az (kg T.LONGEST) pan)))))) (cW (bN (bG (aC C.is_among hr (az (cv 2) (az ag (az (kg T.LONGEST) pan))))))))) (aj dJ) aF)
  (af (aR (bN (bG (aC C.are_holes hr (az (cv 3) (az (am (cv 1) (cv 2)) pan))))) (aj dJ) aF)
  (af (jj K (cv 0) (cv 1))
  (af (jj K (cv 0) (cv 2))
  (af (jj K (cv 0) (kB (LW K) kT T.sorted (az (cv 3) pan)))
  (aj (jj K (cv 0) (fz (ck (N:=["square","self"]) (src:=[none,some 0]) (al bS) ["self","wide","high","holes"]) (AE T.range (az (am (cv 1) (cv 2)) pan)) (λ_ _ _=>(bi (i:=0) ["square","self"])) (λ_ _ _=>bL) (λ_ _ _=>(jA K hu (cv 0) (cC K (cv 1)))))))))))),?_⟩
 show bj _ _ _ [oR p,oJ wi,oJ hi,oR d] H;refine bg (fI (cE (aZ (aH (aa (ae rfl) (aa ao (aa ao aq))) (λQ q=>⟨wi,1,8,rfl,q⟩)))) (λ_=>(cE (aZ (aH (aa (ae rfl) (aa ao (aa ao aq))) (λQ q=>⟨hi,1,8,rfl,q⟩)))))) (λh=>?_) (λ_=>?_)
 .rw[C0 (⟨w1,w8⟩:1<=wi/\wi<=8),C0 (⟨h1,h8⟩:1<=hi/\hi<=8)]at h;cases h
 refine cr (λb H'=>b=false/\ak H H') (λQ q=>?_) (λH' h=>by cases h.1) (λH1 h=>?_)
 .exact kR (aa (ae rfl) (aa (eE (ae rfl) (ae rfl) (.inl ⟨by omega,by omega⟩)) aq)) ⟨d,wi*hi,hs,rfl,hd,good,nd,hl,by omega,λH' s=>q _ _ ⟨rfl,s⟩⟩
 obtain⟨_,s1⟩:=h;refine ui (ae rfl) (ae rfl) (s1 _ _ hp) B.cl B.wide (by decide) ?_;have a1:=bQ "wide" (V.int wi) [];have a2:=bQ "high" (V.int hi) (putF "wide" (V.int wi) []);simp only[List.length_nil]at a1;refine ui (ae rfl) (ae rfl) ah B.cl B.high (by omega) ?_;generalize hH3:upd (upd H1 p (HO.ins cB dx (putF "wide" (V.int wi) []))) p (HO.ins cB dx (putF "high" (V.int hi) (putF "wide" (V.int wi) [])))=H3;have p3:H3 p=some (.ins cB dx (putF "high" (V.int hi) (putF "wide" (V.int wi) []))):=hH3▸ah;have s3:SameBut p H H3:=hH3▸(s1.but.self.self);have d3:H3 d=some (.lst (hs.map V.int)):=s3 _ _ hd npd.symm;refine BU (λv H'=>∃(hs':List Int)(q:VB),v=.ref q/\hs'.Perm hs/\hs'.Pairwise (·<=·)/\H3 q=none/\H'=upd H3 q (.lst (hs'.map V.int))) (λQ q=>?_) p cB dx (λH' Q q=>ae rfl Q q) B.cl B.holes ?_
 .exact NI (ae rfl) ⟨hs,aN.of d3,by omega,λhs' q' h1 h2 h3=>q _ _ ⟨hs',q',rfl,h1,h2,h3,rfl⟩⟩
 rintro _ _ ⟨hs',q,rfl,pm,sr,hq,rfl⟩;have npq:p≠q:=aw p3 hq;have a3:=bQ "holes" (V.ref q) (putF "high" (V.int hi) (putF "wide" (V.int wi) []));refine⟨_,(by rw[au npq];exact p3),(by omega),?_⟩;generalize hH4:upd (upd H3 q (HO.lst (hs'.map V.int))) p (HO.ins cB dx (putF "holes" (V.ref q) (putF "high" (V.int hi) (putF "wide" (V.int wi) []))))=H4;have p4:H4 p=some (.ins cB dx (putF "holes" (V.ref q) (putF "high" (V.int hi) (putF "wide" (V.int wi) [])))):=hH4▸ah;have q4:H4 q=some (.lst (hs'.map V.int)):=by rw[<-hH4,au npq.symm,ah]
 have hqH:H q=none:=by
  cases e:H q with
  |none=>rfl
  |some o=>
   have:=s3 q o e npq.symm;rw[hq]at this;cases this
 have s4:SameBut p H H4:=hH4▸((s3.new hqH).self);have f4:Fl K H4 p "holes" (.ref q):=⟨cB,dx,_,p4,B.cl,B.holes,by rw[ay,NR rfl]⟩;refine vW (λv H'=>∃(pf:VB),v=.ref pf/\H4 pf=none/\H'=upd H4 pf (.lst ((firmL wi hi hs').map V.bl))) (λQ k'=>?_) p cB dx (λH' Q q=>ae rfl Q q) B.cl B.firm ?_
 .refine iP (n:=wi*hi) (rest:=[oR p]) (aa (eE (ae rfl) (ae rfl) (.inl ⟨by omega,by omega⟩)) aq) m0 (by rw[Oc];omega) (by omega) rfl (λ_=>true) (λx=>match x with| .int i=>.bl (!decide (i∈hs'))|_=>.non) (λi hi=>cP) (λi hi _=>?_) (λd' hd'=>?_)
  .exact(qE (ae rfl) (bb (ae rfl) (f4)) (.inl (aN.of q4)))
  .refine k' _ _ ⟨d',rfl,hd',?_⟩;have e:(((List.range (wi*hi).toNat).map λ(i:Nat)=>V.int (0+(i:Int))).filter λ_=>true).map (λx=>match x with| .int i=>V.bl (!decide (i∈hs'))|_=>.non)=(firmL wi hi hs').map V.bl:=by rw[Sm.mpr (λ_ _=>rfl),R5];unfold firmL;rw[R5];refine Sq λi _=>?_;show V.bl (!decide (0+(i:Int)∈hs'))=V.bl (!decide ((i:Int)∈hs'));rw[Uo]
   rw[e]
 rintro _ _ ⟨pf,rfl,hpf,rfl⟩;have npf:p≠pf:=aw p4 hpf;have nqf:q≠pf:=aw q4 hpf;have hfH:H pf=none:=by
  cases e:H pf with
  |none=>rfl
  |some o=>
   have:=s4 pf o e npf.symm;rw[hpf]at this;cases this
 refine⟨_,(by rw[au npf];exact p4),(by omega),?_⟩;refine k hs' _ pm ⟨⟨dx,q,pf,ah,by rw[au npq.symm,au nqf];exact q4,by rw[au npf.symm,ah]⟩,w1,w8,h1,h8,λh hh=>good h (pm.mem_iff.mp hh),sr,pm.nodup_iff.mpr nd⟩ ((s4.new hfH).self)
theorem qh{f:VB}{fd:Oa}(F:cF K "column_of" "column_of" eP f fd)(T:Txt mg aS aA aE aW):aY P w K mg np cK 1 f fd ["wide","square"] wd:=by refine F.ok1 px λcdv A xc s H vs Q E hr h=>?_;obtain⟨a,b,rfl,a0,q⟩:=h;refine⟨_,(aj (aB (am (cv 1) (cv 0)))),?_⟩;show cg _ _ [oJ a,oJ b] H;exact aM (a7 (ae rfl) (ae rfl) (a0)) q
theorem x6{f:VB}{fd:Oa}(F:cF K "row_of" "row_of" iB f fd)(T:Txt mg aS aA aE aW):aY P w K mg np cK 1 f fd ["wide","square"] rh:=by refine F.ok1 xE λcdv A xc s H vs Q E hr h=>?_;obtain⟨a,b,rfl,a0,a1,q⟩:=h;refine⟨_,(aj (aB (am (cv 1) (cv 0)))),?_⟩;show cg _ _ [oJ a,oJ b] H;exact aM (bO (ae rfl) (ae rfl) (⟨a0,by omega⟩)) q
theorem qd{f:VB}{fd:Oa}(F:cF K "square_at" "square_at" eK f fd)(T:Txt mg aS aA aE aW):aY P w K mg np cK 1 f fd ["wide","column","row"] zu:=by refine F.ok1 pe λcdv A xc s H vs Q E hr h=>?_;obtain⟨a,b,c,rfl,a0,a1,q⟩:=h;refine⟨_,(aj (aB (am (am (cv 2) (cv 0)) (cv 1)))),?_⟩;show cg _ _ [oJ a,oJ b,oJ c] H;exact aM (bK (eE (ae rfl) (ae rfl) (.inr ⟨by omega,by omega⟩)) (ae rfl)) q
theorem mE{f cB:VB}{fd:Oa}(F:cF K "moved" "Board.moved" db f fd)(T:Txt mg aS aA aE aW)(B:iT K cB)(C:CB P w K mg np):aY P w K mg np cK 2 f fd ["self","square","across","up"] (v6 K cB):=by
 refine F.ok1 dE λcdv A xc s H vs Q E hr h=>?_;obtain⟨p,wi,hi,hs,sq,ax,up,rfl,O,k⟩:=h;have hu:=bF hr;have w1:=O.w1;have w8:=O.w8;have fw:=O.wide B;have fh:=O.high B;obtain⟨pf,ff,hf⟩:=O.firm B;refine⟨_,(af (av 4 dE.nd (am (aC C.column_of hr (az (cC K (cv 0)) (az (cv 1) pan))) (cv 2)))
  (af (av 5 dE.nd (am (aC C.row_of hr (az (cC K (cv 0)) (az (cv 1) pan))) (cv 3)))
  (af (aR (PW.pt (dZ (bN (wD K hu ag (cv 4) (cC K (cv 0)))) (cW (bN (wD K hu ag (cv 5) (cC K (cv 0))))))) (aj (aB hV)) aF)
  (af (av 6 dE.nd (aC C.square_at hr (az (cC K (cv 0)) (az (cv 4) (az (cv 5) pan)))))
  (aj (aB (de (bG (bI K (cC K (cv 0)) (cv 6))) (cv 6) hV))))))),?_⟩
 show bj _ _ _ [oR p,oJ sq,oJ ax,oJ up,none,none,none] H;refine aU (bK (aH (aa (bb (ae rfl) (fw)) (aa (ae rfl) aq)) (λQ q=>⟨wi,sq,rfl,by omega,q⟩)) (ae rfl)) ?_;refine aU (bK (aH (aa (bb (ae rfl) (fw)) (aa (ae rfl) aq)) (λQ q=>⟨wi,sq,rfl,by omega,by omega,q⟩)) (ae rfl)) ?_;unfold MI at k;generalize hc:sq % wi+ax=c at k;generalize hr':sq / wi+up=r at k;refine bg (fI (cE (vU ao (ae rfl) (λ_=>(bb (ae rfl) (fw))))) (λ_=>(cE (vU ao (ae rfl) (λ_=>(bb (ae rfl) (fh))))))) (λh=>?_) (λh=>?_)
 .show cg _ _ _ _;refine aM ao ?_;rw[NQ (λz=>by rw[C0 (⟨z.1,z.2.1⟩:0<=c/\c<wi),C0 (⟨z.2.2.1,z.2.2.2⟩:0<=r/\r<hi)]at h;cases h)]at k;exact k
 .have h2:(0<=c/\c<wi)/\(0<=r/\r<hi):=by
   by_cases a:0<=c/\c<wi
   .by_cases b:0<=r/\r<hi
    .exact⟨a,b⟩
    .rw[C0 a,NP b]at h;cases h
   .rw[NP a]at h;cases h
  rw[NR ⟨h2.1.1,h2.1.2,h2.2.1,h2.2.2⟩]at k;refine aU (aH (aa (bb (ae rfl) (fw)) (aa (ae rfl) (aa (ae rfl) aq))) (λQ q=>⟨wi,c,r,rfl,by omega,by omega,q⟩)) ?_;have g0:0<=r*wi+c:=by have:=Uy h2.2.1 (by omega:0<=wi);omega
  have g1:r*wi+c<wi*hi:=by
   have:r*wi<=(hi - 1)*wi:=UA (by omega) (by omega);have e:(hi - 1)*wi=wi*hi - wi:=by rw[Int.sub_mul,Uu,Ur]
   omega
  show cg _ _ _ _;refine aM (v:=if(!decide (r*wi+c∈hs))=true then .int (r*wi+c)else .non) (mT (aZ (aT (bb (ae rfl) (ff)) (ae rfl) (.inl (aN.of hf)) (wQ g0 g1))) (λ_=>(ae rfl)) (λ_=>ao)) ?_
  by_cases m:r*wi+c∈hs
  .rw[C0 m];rw[NR m]at k;exact k
  .rw[NP m];rw[NQ m]at k;exact k
theorem Ih{f cB:VB}{fd:Oa}(F:cF K "ray" "ray" rL f fd)(T:Txt mg aS aA aE aW)(B:iT K cB)(C:CB3 P w K mg np cB):aY P w K mg np cK 3 f fd ["board","square","across","up"] (Gu K cB):=by
 refine F.ok1 pi λcdv A xc s H vs Q E hr h=>?_;obtain⟨p,wi,hi,hs,sq,ax,up,rfl,O,s0,s1,n0,k⟩:=h;have hu:=bF hr;have w1:=O.w1;have w8:=O.w8;have m0:=Uk sq (by omega:wi≠0);have m1:=Ul sq (by omega:0<wi);refine⟨_,(af (aR (PW.pt (gv (aL K hu (cv 2) ag) (fE (aL K hu (cv 3) ag)))) (aj (aB (bz pan))) aF)
  (af (av 4 pi.nd (bz pan))
  (af (av 5 pi.nd (oo C.Board_moved hr (cv 0) (az (cv 1) (az (cv 2) (az (cv 3) pan)))))
  (af (sy Oy (aL K hu (cv 5) hV) (af (fF (jD (cv 4) (cv 5)))
  (aj (av 5 pi.nd (oo C.Board_moved hr (cv 0) (az (cv 5) (az (cv 2) (az (cv 3) pan))))))))
  (aj (aB (cv 4))))))),?_⟩
 show bj _ _ _ [oR p,oJ sq,oJ ax,oJ up,none,none] H;refine bg (gt (aZ (fT (ae rfl) ao)) (λ_=>(aZ (fT (ae rfl) ao)))) (λh=>?_) (λ_=>?_)
 .rw[UD]at h;exact NU ⟨NS h.1,NS h.2⟩ n0
 refine jt λq hq=>?_;have sm:ak H (upd H q (.lst [])):=(ak.refl H).upd hq;have O1:=O.same sm;refine aU (v:=oI (if sK wi hi hs sq ax up 1 then some (oS wi sq ax up 1)else none)) (lN (p:=p) (ae rfl) O1.no (aa (ae rfl) (aa (ae rfl) (aa (ae rfl) aq))) (λQ q=>⟨p,wi,hi,hs,sq,ax,up,rfl,O1,?_⟩)) ?_
 .have e:=ww (hi:=hi) (hs:=hs) (s:=sq) (ax:=ax) (up:=up) (k:=0) w1 (by simp;exact m0) (by simp;exact m1);rw[zt w1]at e;rw[e];exact q
 refine⟨λm σ' H'=>∃i:Nat,m=8 - i/\i<=8/\(∀j<i,sK wi hi hs sq ax up (j+1))/\σ'=[oR p,oJ sq,oJ ax,oJ up,oR q,some (oI (if sK wi hi hs sq ax up (i+1)then some (oS wi sq ax up (i+1))else none))]/\H' q=some (.lst ((eV wi sq ax up i).map V.int))/\ak H H',
  ⟨8,0,rfl,by omega,λj hj=>by omega,rfl,ah,sm⟩,?_⟩
 rintro m _ H1 ⟨i,rfl,hi8,hok,rfl,hl,hs1⟩
 by_cases hk:sK wi hi hs sq ax up (i+1)
 .rw[NR hk];have hlt:=Aq w8 O.h8 w1 s0 s1 n0 hk;refine(aZ (mR (ae rfl) ao)) _ (iI ⟨_,λ_ _ h=>h,?_⟩);refine Ht (ae rfl) (ae rfl) hl (by rw[RT,jP,Oc];omega) ?_;have s2:ak H (upd H1 q (.lst ((eV wi sq ax up i).map V.int++[.int (oS wi sq ax up (i+1))]))):=hs1.put hq;have O2:=O.same s2;refine iV (v:=oI (if sK wi hi hs sq ax up (i+1+1)then some (oS wi sq ax up (i+1+1))else none)) (lN (p:=p) (ae rfl) O2.no (aa (ae rfl) (aa (ae rfl) (aa (ae rfl) aq))) (λQ q=>⟨p,wi,hi,hs,oS wi sq ax up (i+1),ax,up,rfl,O2,?_⟩)) ?_
  .rw[ww w1 hk.1 hk.2.1];exact q
  .refine⟨8 - (i+1),by omega,i+1,rfl,by omega,λj hj=>?_,rfl,?_,s2⟩
   .by_cases e:j=i
    .subst e;exact hk
    .exact hok j (by omega)
   .rw[ah,xJ,Sc];rfl
 .rw[NQ hk];refine(aZ (mQ (ae rfl) ao)) _ (iJ ?_);dsimp only;exact aM (ae rfl) (k i q H1 ⟨hok,hk⟩ hi8 hq hl hs1)
theorem uP{f:VB}{fd:Oa}(F:cF K "kind_of" "kind_of" gK f fd)(T:Txt mg aS aA aE aW):aY P w K mg np cK 1 f fd ["sign"] uk:=by
 refine F.ok1 uv λcdv A xc s H vs Q E hr h=>?_;obtain⟨c,rfl,hc,q⟩:=h;have hu:=bF hr;refine⟨_,(aj (aB (de (aL K hu (cv 0) (fj (az (kg T.EMPTY) (az (kg T.HOLE) pan)))) hV (kP PySem.F.slot_str_lower PySem.F.type_str_lower Au (cv 0))))),?_⟩;show cg _ _ [oT (one c)] H;simp only[cg,Jq];refine GT (ae rfl) vv qF (λH' s=>?_);have k:=q H' s;unfold lf at k
 by_cases h:c=46\/c=35
 .rw[C0 h];rw[NR h]at k;exact iI (qW ao k)
 .rw[NP h];rw[NQ h]at k;exact iJ (qW (GY (ae rfl) hc) k)
theorem uN{f:VB}{fd:Oa}(F:cF K "side_of" "side_of" gH f fd)(T:Txt mg aS aA aE aW):aY P w K mg np cK 1 f fd ["sign"] lX:=by
 refine F.ok1 uu λcdv A xc s H vs Q E hr h=>?_;obtain⟨c,rfl,hc,q⟩:=h;have hu:=bF hr;refine⟨_,(af (aR (aL K hu (cv 0) (fj (az (kg T.EMPTY) (az (kg T.HOLE) pan)))) (aj (aB hV)) aF)
  (aj (aB (de (bG (kP PySem.F.slot_str_isupper PySem.F.type_str_isupper Il (cv 0))) ag ag)))),?_⟩
 show bj _ _ _ [oT (one c)] H;unfold bB at q;refine cr (λb H'=>b=decide (c=46\/c=35)/\ak H H') (λQ q=>GT (ae rfl) vv qF (λH' s=>q _ _ ⟨rfl,s⟩)) (λH1 h=>?_) (λH1 h=>?_)
 .have k:=q H1 h.2;rw[NR (NS h.1.symm)]at k;exact aM ao k
 .have k:=q H1 h.2;rw[NQ (NT h.1.symm)]at k;refine aM (mT (aZ (Mg (ae rfl) hc)) (λ_=>ao) (λ_=>ao)) ?_
  by_cases g:65<=c/\c<=90
  .rw[C0 g];rw[NR g]at k;exact k
  .rw[NP g];rw[NQ g]at k;exact k
end
section
variable{P:N5}{w:N9}{K:Frag}{mg:NX}{np:Oe}{aS aA aE aW:VB}
theorem Cq{f:VB}{fd:Oa}(F:cF K "slid" "slid" mj f fd)(T:Txt mg aS aA aE aW)(C:CRs P w K mg np):aY P w K mg np cK 2 f fd ["row","side","aim","path"] (zv K):=by
 refine F.ok1 lH λcdv A xc s H vs Q E hr h=>?_;obtain⟨row,aim,sd,p,path,rfl,hp,R,hg,h8,k⟩:=h;have hu:=bF hr;have rl:=R.len;refine⟨_,(af (av 4 lH.nd (bz pan))
  (af (gw Oy rfl (wE K (cv 3)) (bC 5 lH.nd) (af (av 6 lH.nd (aC C.side_of hr (az (bI K (cv 0) (cv 5)) pan)))
  (af (aR (aL K hu (cv 6) hV) (af (aR (PW.pt (gv (aL K hu (cv 6) (cv 1)) (fE (aL K hu (cv 2) bq)))) (aj (fF (jD (cv 4) (fj (az (cv 5) (az (cv 5) pan)))))) aF)
  (aj Ac)) aF)
  (aj (aR (aL K hu (cv 2) bq) (aj (fF (jD (cv 4) (fj (az (cv 5) (az (kg T.NOTHING) pan)))))) aF)))))
  (aj (aB (cv 4))))),?_⟩
 show bj _ _ _ [oT row,oJ sd,oT aim,oR p,none,none,none] H;refine jt λq hq=>?_;have sm:ak H (upd H q (.lst [])):=(ak.refl H).upd hq;refine cQ (λσ' H'=>(∃o5 o6,σ'=[oT row,oJ sd,oT aim,oR p,oR q,o5,o6])/\cI H H' q (dY row sd aim path)/\ak H H') (λK' hK=>?_) ?_
 .refine j2 (λv H'=>v=.ref p/\H'=upd H q (.lst [])) (λQ z=>ae rfl _ (z _ _ ⟨rfl,rfl⟩)) ?_;rintro _ _ ⟨rfl,rfl⟩;refine⟨p,path.map V.int,rfl,sm.seq hp,λi σ' H'=>∃(l:List (Int×Int)),(∃o5 o6,σ'=[oT row,oJ sd,oT aim,oR p,oR q,o5,o6])/\cI H H' q l/\l.length<=i/\l++dY row sd aim (path.drop i)=dY row sd aim path/\ak H H',⟨[],⟨_,_,rfl⟩,cI.nil,TZ _,rfl,sm⟩,?_,?_,?_⟩
  .rintro i σ' H' _ ⟨_,_,_,_,_,s1⟩;exact s1.seq hp
  .rintro i x _ H1 hx ⟨l,⟨o5,o6,rfl⟩,⟨ps,p1,p2,p3⟩,ll,el,s1⟩;have hi:i<path.length:=by
    have:=(Sd.mp hx).1
    rwa[RT]at this
   obtain rfl:x=.int path[i]:=by rw[RX,RU hi]at hx;exact(NV hx).symm
   have hd:path.drop i=path[i]::path.drop (i+1):=Ti hi;obtain⟨g0,g1⟩:=hg _ (Se hi);generalize path[i]=g at hd g0 g1;obtain⟨at1,at2⟩:=R.at g0 g1;rw[hd,l7]at el;show bj _ _ _ [oT row,oJ sd,oT aim,oR p,oR q,oJ g,o6] H1;refine bJ (λv H'=>v=sdV row g/\ak H1 H') (λQ z=>(aa (cf (ae rfl) (ae rfl) (by rw[Oc];omega) at1) aq) _ ⟨_,rfl,at2,λH2 s2=>z _ _ ⟨rfl,s2⟩⟩) ?_;rintro _ H2 ⟨rfl,s2⟩;have p2':=s2 _ _ p2;have p3':∀p∈ps,H p.2=none/\H2 p.2=some (.tup (p.1.map V.int)):=λp h=>⟨(p3 p h).1,s2 _ _ (p3 p h).2⟩;have s3:=s1.trans s2;have lz:(ps.map λz=>V.ref z.2).length=l.length:=by have:=NW List.length p1;rw[RT,RT]at this;rw[RT,this]
   by_cases hn:sdV row g=.non
   .rw[NR hn]at el;refine bg (b:=false) ?_ (λz=>nomatch z) λ_=>?_
    .rw[hn];exact aZ (mQ (ae rfl) ao)
    .refine lD (aZ (iN (ae rfl) ao)) (λh=>?_) (λh=>?_)
     .have ha:¬aim="hit":=λz=>by rw[z]at h;simp at h
      rw[NQ ha]at el;refine xg (ae rfl) ⟨_,p2'⟩ (lQ (ae rfl) (ao (x:=.int (-1))) λt ht=>?_);have nt:q≠t:=λz=>by rw[<-z,p2']at ht;cases ht
      refine⟨_,by rw[au nt];exact p2',by rw[lz,Oc];omega,l++[(g, -1)],⟨_,_,rfl⟩,cI.add p1 p2' p3' s3 ht,by rw[R9];show l.length+1<=_;omega,by rw[SM];exact el,?_⟩;exact(s3.upd ht).put hq
     .have ha:aim="hit":=by simpa using h
      rw[NR ha]at el;exact⟨l,⟨_,_,rfl⟩,⟨ps,p1,p2',p3'⟩,by omega,el,s3⟩
   .rw[NQ hn]at el;obtain⟨v,hv⟩:∃v,sdV row g=.int v:=by
     unfold sdV bB at hn ⊢;split
     .rename_i z;rw[NR z]at hn;exact NU rfl hn
     .exact⟨_,rfl⟩
    rw[hv]at el ⊢;refine bg (b:=true) (aZ (mR (ae rfl) ao)) (λ_=>?_) (λz=>nomatch z);refine bg (gt (aZ (jk (ae rfl) (ae rfl))) (λ_=>(aZ (iN (ae rfl) ao)))) (λh=>?_) (λh=>?_)
    .rw[UD]at h;have h1:¬v=sd:=λz=>by have:=h.1;rw[z]at this;simp at this
     have h2:¬aim="go":=λz=>by have:=h.2;rw[z]at this;simp at this
     rw[NR ⟨λz=>h1 (by injection z),h2⟩]at el;refine xg (ae rfl) ⟨_,p2'⟩ (lQ (ae rfl) (ae rfl) λt ht=>?_);have nt:q≠t:=λz=>by rw[<-z,p2']at ht;cases ht
     refine⟨_,by rw[au nt];exact p2',by rw[lz,Oc];omega,hK _ _ ⟨⟨_,_,rfl⟩,?_,(s3.upd ht).put hq⟩⟩;rw[<-el];exact cI.add p1 p2' p3' s3 ht
    .have h3:¬(¬v=sd/\¬aim="go"):=λz=>by simp[z.1,z.2]at h
     rw[NQ (λz=>h3 ⟨λw=>z.1 (by rw[w]),z.2⟩),Sw]at el;refine hK _ _ ⟨⟨_,_,rfl⟩,?_,s3⟩;rw[<-el];exact⟨ps,p1,p2',p3'⟩
  .rintro σ' H' ⟨l,o,hP,_,el,s1⟩;rw[RT,List.drop_length]at el;refine hK _ _ ⟨o,?_,s1⟩;rw[<-el];simpa[dY]using hP
 .rintro _ H1 ⟨⟨o5,o6,rfl⟩,hP,s1⟩;exact aM (ae rfl) (k q H1 hq hP s1)
theorem x8{f:VB}{fd:Oa}(F:cF K "jumped" "jumped" iC f fd)(T:Txt mg aS aA aE aW)(C:CRs P w K mg np):aY P w K mg np cK 2 f fd ["row","side","path"] (zB K):=by
 refine F.ok1 xF λcdv A xc s H vs Q E hr h=>?_;obtain⟨row,sd,p,path,rfl,hp,R,hg,hsd,k⟩:=h;have hu:=bF hr;have rl:=R.len;refine⟨_,(af (aR (PW.pt (dZ (aL K hu (kB (gB K) bP T.len (az (cv 2) pan)) ag) (dZ (aL K hu (aC C.side_of hr (az (bI K (cv 0) (bI K (cv 2) ag)) pan)) (am ag (cv 1))) (cW (aL K hu (aC C.side_of hr (az (bI K (cv 0) (bI K (cv 2) ag)) pan)) hV))))) (aj (aB (bz pan))) aF)
  (aj (aB (bz (az (fj (az (bI K (cv 2) ag) (az (bI K (cv 2) ag) pan))) pan))))),?_⟩
 show bj _ _ _ [oT row,oJ sd,oR p] H;refine cr (λb H'=>ak H H'/\(b=true->jY row sd path=[])/\(b=false->∃g b' r,path=g::b'::r/\jY row sd path=[(b',g)])) (λQ z=>?_) (λH' ⟨s1,e,_⟩=>?_) (λH' ⟨s1,_,e⟩=>?_)
 .refine Hm (b:=decide (((path.map V.int).length:Int)<2)) (aZ (wR (cX (ae rfl) (.inl hp)) ao)) (λh=>z _ _ ⟨ak.refl H,λ_=>?_,λw=>nomatch w⟩) (λh=>?_)
  .have:=NS h;rw[RT]at this
   match path,this with
   | [],_=>rfl
   | [_],_=>rfl
   |_::_::_,w=>simp at w;omega
  .have hl:=NT h;rw[RT]at hl;obtain⟨g,b,r,rfl⟩:∃g b r,path=g::b::r:=by
    match path,hl with
    | [],w=>simp at w
    | [_],w=>simp at w
    |g::b::r,_=>exact⟨g,b,r,rfl⟩
   obtain⟨g0,g1⟩:=hg g (by simp);obtain⟨b0,b1⟩:=hg b (by simp);obtain⟨x1,x2⟩:=R.at g0 g1;obtain⟨y1,y2⟩:=R.at b0 b1;refine zk (wU (aa (cf (ae rfl) (aT (x:=.int g) (ae rfl) ao (.inl hp) (bw (j:=0) rfl)) (by rw[Oc];omega) x1) aq) ⟨_,rfl,x2,λH2 s2=>qW (eC ao (ae rfl)) ?_⟩);rw[we];show if(!decide (sdV row g=.int (1 - sd)))=true then _ else _
   by_cases h1:sdV row g=.int (1 - sd)
   .rw[C0 h1];refine iJ (wU (aa (cf (ae rfl) (aT (x:=.int b) (ae rfl) ao (.inl (s2.seq hp)) (bw (j:=1) rfl)) (by rw[Oc];omega) y1) aq) ⟨_,rfl,y2,λH3 s3=>qW ao ?_⟩);rw[um];show Q (!decide (sdV row b=.non)) H3;refine z _ _ ⟨s2.trans s3,λh2=>?_,λh2=>⟨g,b,r,rfl,?_⟩⟩
    .show(if _ then _ else _)=_;rw[NQ (λw=>by rw[C0 w.2]at h2;cases h2)]
    .show(if _ then _ else _)=_;rw[NR ⟨h1,by simpa using h2⟩]
   .rw[NP h1];refine iI (z _ _ ⟨s2,λ_=>?_,λw=>nomatch w⟩);show(if _ then _ else _)=_;rw[NQ (λw=>h1 w.1)]
 .refine⟨TZ _,λq hq=>k q _ (s1.free hq) ?_ (s1.upd hq)⟩;rw[e rfl];exact⟨[],rfl,ah,λ_ z=>nomatch z⟩
 .obtain⟨g,b,r,rfl,e⟩:=e rfl;have hp2:=s1.seq hp;refine sP (lQ (x:=.int b) (y:=.int g) (aT (ae rfl) ao (.inl hp2) (bw (j:=1) rfl)) (aT (ae rfl) ao (.inl hp2) (bw (j:=0) rfl)) λt ht=>⟨by show 1<=v1;decide,λq hq=>?_⟩);have hq1:H' q=none:=by
   by_cases w:q=t
   .rw[w];exact ht
   .rw[au w]at hq;exact hq
  have nt:t≠q:=λw=>by rw[w,ah]at hq;cases hq
  refine k q _ (s1.free hq1) ?_ ((s1.upd ht).upd hq);rw[e];refine⟨[([b,g],t)],rfl,ah,λp hp=>?_⟩;rw[R4.mp hp];exact⟨s1.free ht,by rw[au nt,ah];rfl⟩
theorem uV{f cB:VB}{fd:Oa}(F:cF K "by_rule" "by_rule" gS f fd)(T:Txt mg aS aA aE aW)(C:CRb P w K mg np cB):aY P w K mg np cK 4 f fd ["board","row","square","rule"] (rD K cB):=by
 refine F.ok1 jv λcdv A xc s H vs Q E hr h=>?_;obtain⟨b,r,row,sq,sd,wi,hi,hs,u,rfl,B,hT,R,rl,s0,s1,hsd,sd2,n0,k⟩:=h;have hu:=bF hr;have r64:=R.len;obtain⟨x1,x2⟩:=R.at s0 (by omega);refine⟨_,(af (av 4 jv.nd (aC C.side_of hr (az (bI K (cv 1) (cv 2)) pan)))
  (af (av 5 jv.nd (aC C.ray hr (az (cv 0) (az (cv 2) (az (bI K (cv 3) ag) (az (de (aL K hu (cv 4) ag) (bI K (cv 3) ag) (qK (bI K (cv 3) ag))) pan))))))
  (af (aR (aL K hu (bI K (cv 3) ag) bq) (aj (aB (aC C.jumped hr (az (cv 1) (az (cv 4) (az (cv 5) pan)))))) aF)
  (aj (aB (aC C.slid hr (az (cv 1) (az (cv 4) (az (bI K (cv 3) ag) (az (de (aL K hu (bI K (cv 3) ag) bq) (CF K (cv 5) gk (eJ ag)) (cv 5)) pan)))))))))),?_⟩
 show bj _ _ _ [oR b,oT row,oJ sq,oR r,none,none] H;refine bJ (λv H'=>v=sdV row sq/\ak H H') (λQ z=>(aa (cf (ae rfl) (ae rfl) (by rw[Oc];omega) x1) aq) _ ⟨_,rfl,x2,λH2 s2=>z _ _ ⟨rfl,s2⟩⟩) ?_;rintro _ H1 ⟨rfl,q1⟩;rw[hsd];have T1:∀{H'},ak H H'->cJ K H' r u.vs:=λz=>ak.tupY z hT;have dy0:¬(u.ax=0/\u.dy sd=0):=λz=>n0 ⟨z.1,by have:=z.2;unfold aJ.dy at this;split at this<;>omega⟩;refine bJ (λv H'=>∃n q,v=.ref q/\j9 wi hi hs sq u.ax (u.dy sd) n/\n<=8/\H' q=some (.lst ((eV wi sq u.ax (u.dy sd) n).map V.int))/\ak H1 H')
  (λQ z=>(aa (ae rfl) (aa (ae rfl) (aa (aT (x:=.int u.ax) (ae rfl) ao (.inr (T1 q1)) rfl) (aa (x:=.int (u.dy sd)) (λQ' z'=>?_) aq)))) _ ⟨b,wi,hi,hs,sq,u.ax,u.dy sd,rfl,B.same q1,s0,s1,dy0,λn q H' a1 a2 _ a4 a5=>z _ _ ⟨n,q,rfl,a1,a2,a4,a5⟩⟩) ?_
 .refine Gr (b:=decide (sd=0)) (aZ (fT (ae rfl) ao)) (λh=>?_) (λh=>?_)
  .have h:=NS h;rw[show u.dy sd=u.up by unfold aJ.dy;rw[NR h]]at z';exact aT (x:=.int u.up) (ae rfl) ao (.inr (T1 q1)) rfl _ z'
  .have h:=NT h;rw[show u.dy sd= -u.up by unfold aJ.dy;rw[NQ h]]at z';exact vq (aT (x:=.int u.up) (ae rfl) ao (.inr (T1 q1)) rfl) _ z'
 rintro _ H2 ⟨n,q,rfl,ry,n8,hq,q2⟩;have q3:=q1.trans q2;have inr:∀g∈eV wi sq u.ax (u.dy sd) n,0<=g/\g<(row.length:Int):=λg hg=>by obtain⟨a,b,_⟩:=uD B.w1 ry g hg;omega
 have free:∀{p:VB},H2 p=none->H p=none:=λ{p} h=>q3.free h;refine bg (b:=decide (u.so="jump")) (aZ (fS (aT (x:=.str u.so) (ae rfl) ao (.inr (T1 q3)) rfl) ao)) (λh=>?_) (λh=>?_)
 .have h:=NS h;refine GE ((aa (ae rfl) (aa (ae rfl) (aa (ae rfl) aq))) _ ⟨row,sd,q,_,rfl,.inl (.inl hq),R,inr,sd2,λt H' t1 t2 t3=>k n t H' ry n8 (free t1) ?_ (q3.trans t3)⟩);unfold tM;rw[NR h];exact t2.from q3
 .have h:=NT h;refine GE ((ae rfl) _ ((ae rfl) _ ((aT (x:=.str u.ai) (ae rfl) ao (.inr (T1 q3)) rfl) _ ?_)));refine Gr (b:=decide (u.so="leap")) (aZ (fS (aT (x:=.str u.so) (ae rfl) ao (.inr (T1 q3)) rfl) ao)) (λh2=>?_) (λh2=>?_)
  .have h2:=NS h2;refine l4 (lo:=none) (hi:=some 1) (ae rfl) n4 (k5 ao) (.inl (.inl hq)) λp hp=>?_;have q4:ak H (upd H2 p (.lst (fu ((eV wi sq u.ax (u.dy sd) n).map V.int) none (some 1)))):=q3.upd hp;have ec:fu ((eV wi sq u.ax (u.dy sd) n).map V.int) none (some 1)=((eV wi sq u.ax (u.dy sd) n).take 1).map V.int:=by exact Mm _
   refine⟨row,u.ai,sd,p,(eV wi sq u.ax (u.dy sd) n).take 1,rfl,.inl (.inl (by rw[ec];exact ah)),R,λg hg=>inr g (SY hg),by rw[Si];omega,λt H' t1 t2 t3=>k n t H' ry n8 (q4.free t1) ?_ (q4.trans t3)⟩;unfold tM;rw[NQ h,NR h2];exact t2.from q4
  .have h2:=NT h2;refine(ae rfl) _ ⟨row,u.ai,sd,q,_,rfl,.inl (.inl hq),R,inr,by rw[jP];exact n8,λt H' t1 t2 t3=>k n t H' ry n8 (free t1) ?_ (q3.trans t3)⟩;unfold tM;rw[NQ h,NQ h2];exact t2.from q3
end
section
variable{P:N5}{w:N9}{K:Frag}{mg:NX}{np:Oe}{aS aA aE aW:VB}
theorem kI{f cG:VB}{fd:Oa}(F:cF K "rules_of" "Game.rules_of" bV f fd)(T:Txt mg aS aA aE aW)(D:vS K cG):aY P w K mg np cK 1 f fd ["self","kind"] (nR cG):=by
 refine F.ok1 kC λcdv A xc s H vs Q E hr h=>?_;obtain⟨g,b,kd,ks,ts,es,st,us,rfl,G,R,h24,k⟩:=h;have hu:=bF hr;obtain⟨rq,fl,hrq⟩:=G.rules D;refine⟨_,(aj (aB (fz (ck (N:=["rule","kind"]) (src:=[none,some 1]) (al bV) ["self","kind"]) (wE K (cC K (cv 0))) (λ_ _ _=>(bi (i:=0) ["rule","kind"])) (λ_ _ _=>(jR (aL K hu (bI K (cv 0) ag) (cv 1)))) (λ_ _ _=>(cv 0))))),?_⟩;show tComp _ _ _ _ _ [oR g,oT kd] H Q;refine fH (d:=rq) (xs:=cj us) (rest:=[oT kd]) (bb (ae rfl) fl) (aN.of hrq) (by rw[RT,Oc];omega) rfl (MJ us kd) (λv=>v) (λx hx=>?_) (λx hx _=>ae rfl) (λd hd=>?_)
 .obtain⟨z,hz,rfl⟩:=RW.mp hx;rw[AH R hz];exact aZ (fS (aT (x:=.str z.1.kd) (ae rfl) ao (.inr (.inl (.inl (R z hz)))) rfl) (ae rfl))
 .rw[vh R,List.map_id'']
  .exact k d _ hd ah ((ak.refl H).upd hd)
  .exact λ_=>rfl
theorem Ap{f cB cG:VB}{fd:Oa}(F:cF K "goals" "goals" jN f fd)(T:Txt mg aS aA aE aW)(D:vS K cG)(C:CRg P w K mg np cB cG):aY P w K mg np cK 5 f fd ["game","row","square"] (oX K cB cG):=by
 refine F.ok1 mf λcdv A xc s H vs Q E hr h=>?_;obtain⟨g,b,row,kd,sq,sd,wi,hi,hs,ks,ts,es,st,us,rfl,G,B,U,u12,un0,R,rl,s0,s1,hsd,sd2,hkd,few,k⟩:=h;have hu:=bF hr;have r64:=R.len;obtain⟨x1,x2⟩:=R.at s0 (by omega);have ol:(ofKind us kd).length<=12:=T0 (SK _ _) u12;have osub:∀z∈ofKind us kd,z∈us:=λz hz=>(Ss.mp hz).1;refine⟨_,(af (av 3 mf.nd (bz pan))
  (af (gw Oy rfl (wE K (oo C.Game_rules_of hr (cv 0) (az (aC C.kind_of hr (az (bI K (cv 1) (cv 2)) pan)) pan))) (bC 4 mf.nd) (aj (fF (Bn (cv 3) (aC C.by_rule hr (az (cC K (cv 0)) (az (cv 1) (az (cv 2) (az (cv 4) pan)))))))))
  (aj (aB (kB (Ip P w hr) kT T.sorted (az (yZ (LX P w K hr) qS T.set (az (cv 3) pan)) pan)))))),?_⟩
 show bj _ _ _ [oR g,oT row,oJ sq,none,none] H;refine jt λq hq=>?_;have sm:ak H (upd H q (.lst [])):=(ak.refl H).upd hq;refine cQ (λσ' H'=>(∃o,σ'=[oR g,oT row,oJ sq,oR q,o])/\(∃l,aO wi hi hs row sq sd (ofKind us kd) l/\cI H H' q l)/\ak H H') (λK' hK=>?_) ?_
 .refine j2 (λv H'=>∃d,v=.ref d/\H' d=some (.lst (cj (ofKind us kd)))/\d≠q/\ak (upd H q (.lst [])) H') (λQ z=>?_) ?_
  .refine(show Ev (eF 0) _ _ (.ref g)from ae rfl) _ ⟨(G.same sm).no,Mx ((aa (cf (ae rfl) (ae rfl) (by rw[Oc];omega) x1) aq) _ ⟨_,rfl,x2,λH2 s2=>?_⟩)⟩;rw[hkd];refine⟨g,b,kd,ks,ts,es,st,us,rfl,(G.same sm).same s2,(U.same sm).same s2,by omega,λd H' d1 d2 d3=>z _ _ ⟨d,rfl,d2,λe=>?_,s2.trans d3⟩⟩;rw[e,s2 _ _ ah]at d1;cases d1
  .rintro _ H1 ⟨d,rfl,hd,ndq,s1'⟩;refine⟨d,cj (ofKind us kd),rfl,aN.of hd,λi σ' H'=>(∃o,σ'=[oR g,oT row,oJ sq,oR q,o])/\(∃l,aO wi hi hs row sq sd ((ofKind us kd).take i) l/\cI H H' q l)/\ak H H'/\H' d=some (.lst (cj (ofKind us kd))),⟨⟨_,rfl⟩,⟨[],.nil,[],rfl,s1' _ _ ah,λ_ z=>nomatch z⟩,sm.trans s1',hd⟩,?_,?_,?_⟩
   .rintro i σ' H' _ ⟨_,_,_,h⟩;exact aN.of h
   .rintro i x _ H2 hx ⟨⟨o,rfl⟩,⟨l,hl,ps,p1,p2,p3⟩,s2,hd2⟩;have hi':i<(ofKind us kd).length:=by
     have:=(Sd.mp hx).1
     rwa[RT]at this
    obtain rfl:x=.ref (ofKind us kd)[i].2:=by rw[RX,RU hi']at hx;exact(NV hx).symm
    have tk:(ofKind us kd).take (i+1)=(ofKind us kd).take i++[(ofKind us kd)[i]]:=by rw[Tx hi']
    have hz:=osub _ (Se hi');generalize(ofKind us kd)[i]=zz at tk hz;have ll:=hl.len;rw[Si]at ll;show jf _ _ [oR g,oT row,oJ sq,oR q,oR zz.2] H2;refine GW (ae rfl) p2 ((aa (bb (ae rfl) ((G.same s2).board D)) (aa (ae rfl) (aa (ae rfl) (aa (ae rfl) aq)))) _ ⟨b,zz.2,row,sq,sd,wi,hi,hs,zz.1,rfl,B.same s2,.inl (.inl ((U.same s2) zz hz)),R,rl,s0,s1,hsd,sd2,un0 zz hz,λn t H3 ry n8 ht hP s3=>?_⟩);obtain⟨ps2,g1,g2,g3⟩:=hP;have lr:iS wi hi hs row sq sd zz.1 (tM row sd zz.1.so zz.1.ai (eV wi sq zz.1.ax (zz.1.dy sd) n)):=⟨n,ry,n8,rfl⟩;have lr8:=lr.len;have z1:=NW List.length p1;have z2:=NW List.length g1;rw[RT,RT]at z1 z2;refine⟨t,_,_,rfl,s3 _ _ p2,g2,by rw[RT,RT,Oc];omega,⟨_,rfl⟩,⟨_,?_,cI.cat p1 (s3 _ _ p2) (λp hp=>⟨(p3 p hp).1,s3 _ _ (p3 p hp).2⟩) s2 g1 g3⟩,(s2.trans s3).put hq,?_⟩
    .rw[tk];exact aO.add lr hl
    .rw[au ndq];exact s3 _ _ hd2
   .rintro σ' H' ⟨o,⟨l,hl,hP⟩,s2,_⟩;rw[RT,SX]at hl;exact hK _ _ ⟨o,⟨l,hl,hP⟩,s2⟩
 .rintro _ H1 ⟨⟨o,rfl⟩,⟨l,hl,ps,p1,p2,p3⟩,s2⟩;have ll:=hl.len;have z1:=NW List.length p1;rw[RT,RT]at z1;refine ul ((ae rfl) _ (uo (aN.of p2) (λp hp=>⟨?_,(p3 p hp).2⟩) (by omega) (λL nd mem=>?_) λps' q' H' sub mem pw hq' s3 hq2=>?_))
  .have:p.1∈l.map pk:=by rw[<-p1];exact RW.mpr ⟨p,hp,rfl⟩
   obtain⟨x,_,e⟩:=RW.mp this;rw[<-e];exact λz=>nomatch z
  .obtain⟨m,rfl,hm⟩:=Hh (l:=l) λk hk=>by rw[<-p1];exact(mem k).mp hk
   rw[RT];refine few l hl m ?_ hm;rw[SL,Sv]at nd;exact nd.imp λz e=>z (by rw[e])
  .obtain⟨l',e,hm⟩:=Hh (l:=l) (L:=ps'.map (·.1)) λk hk=>by rw[<-p1];exact(mem k).mp hk
   refine k l l' q' H' hl ⟨λx=>⟨hm x,λhx=>?_⟩,?_⟩ (s2.free hq') ⟨ps',e,hq2,λp hp=>⟨(p3 p (sub p hp)).1,s3 _ _ (p3 p (sub p hp)).2⟩⟩ (s2.trans s3)
   .have:pk x∈ps'.map (·.1):=(mem _).mpr (by rw[p1];exact RW.mpr ⟨x,hx,rfl⟩);rw[e]at this;obtain⟨y,hy,ey⟩:=RW.mp this;exact HN ey▸hy
   .have z:(ps'.map (·.1)).Pairwise λx y=>eW x y=true:=Sv.mpr pw;rw[e]at z;exact Sv.mp z
end
section
variable{P:N5}{w:N9}{K:Frag}{mg:NX}{np:Oe}{aS aA aE aW:VB}
theorem lw{f:VB}{fd:Oa}(F:cF K "_law_cell_at" "_law_cell_at" cN f fd)(T:Txt mg aS aA aE aW):aY P w K mg np cK 1 f fd ["_law_script","_law_k"] (jI K):=by
 refine F.ok1 li λcdv A xc s H vs Q E hr h=>?_;obtain⟨a,ns,k,rfl,hS,k0,q⟩:=h;have hu:=bF hr;refine⟨_,(af (aR (aL K hu (cv 1) (kB (gB K) bP T.len (az (cv 0) pan))) (aj (aB (bI K (cv 0) (cv 1)))) aF)
  (aj (aB ag))),?_⟩
 show bj _ _ _ [oR a,oJ k] H;unfold cellAt at q;refine bg (aZ (wR (ae rfl) (cX (ae rfl) (.inl hS)))) (λh=>?_) (λh=>?_)
 .have h:=NS h;rw[RT]at h;have hlt:k.toNat<ns.length:=by omega
  have e:(ns.map V.int)[k.toNat]? =some (.int (ns.getD k.toNat 0)):=by rw[RX,RY,RU hlt];rfl
  have e2:=bw e;have ei:((k.toNat:Nat):Int)=k:=by omega
  rw[ei]at e2;exact aM (aT (ae rfl) (ae rfl) (.inl hS) e2) q
 .have h:=NT h;rw[RT]at h;rw[RY,Sn (by omega)]at q;exact aM ao q
theorem nE{f:VB}{fd:Oa}(F:cF K "_law_mixed" "_law_mixed" dG f fd)(T:Txt mg aS aA aE aW):aY P w K mg np cK 1 f fd ["_law_cell","_law_k"] oV:=by refine F.ok1 ny λcdv A xc s H vs Q E hr h=>?_;obtain⟨c,k,rfl,q⟩:=h;refine⟨_,(aj (aB (am (am (am (am (cv 0) (am ag (cv 1))) ag) ag) ag))),?_⟩;show cg _ _ [oJ c,oJ k] H;exact aM (a7 (eE (bK (bK (ae rfl) (eE ao (ae rfl) (.inl ⟨by decide,by decide⟩))) ao) ao (.inr ⟨by decide,by decide⟩)) ao (by decide)) q
theorem nF{f:VB}{fd:Oa}(F:cF K "_law_kinds" "_law_kinds" cT f fd)(T:Txt mg aS aA aE aW):aY P w K mg np cK 1 f fd ["_law_cell"] rz:=by
 refine F.ok1 gu λcdv A xc s H vs Q E hr h=>?_;obtain⟨c,rfl,k⟩:=h;have hu:=bF hr;refine⟨_,(af (av 1 gu.nd bq)
  (af (av 2 gu.nd (bI K (bz (cU rfl)) (am (am (cv 0) ag) ag)))
  (aj (aB (fz (ck (N:=["_law_k","_law_letters","_law_cell","_law_step"]) (src:=[none,some 1,some 0,some 2]) (al cT) ["_law_cell","_law_letters","_law_step"]) (AE T.range (az (bI K (bz (cU rfl)) (am (cv 0) ag)) pan)) (λ_ _ _=>(bi (i:=0) ["_law_k","_law_letters","_law_cell","_law_step"])) (λ_ _ _=>bL) (λ_ _ _=>(bI K (cv 1) (am (am (am (cv 2) ag) (am (cv 3) (cv 0))) ag)))))))),?_⟩
 show bj _ _ _ [oJ c,none,none] H;refine aU ao ?_;refine bJ (λv H'=>∃st:Int,v=.int st/\st∈([1,3,5,7,9,11]:List Int)/\ak H H') (λQ q=>?_) ?_
 .obtain⟨n,e,hn⟩:=ms (ns:=[1,3,5,7,9,11]) (i:=c / 208 % 6) (by omega) (by show _<(6:Int);omega);exact lc jm (by decide) (λH'=>(a7 (bO (ae rfl) ao ⟨by decide,by decide⟩) ao (by decide))) e (λH' s=>q _ _ ⟨n,rfl,hn,s⟩)
 rintro _ H1 ⟨st,rfl,hst,s1⟩;obtain⟨n,e,hn⟩:=ms (ns:=[1,2,2,3,3,1,6,4]) (i:=c % 8) (by omega) (by show _<(8:Int);omega);have hn6:1<=n/\n<=6:=by simp only[RV,Sb,or_false]at hn;omega
 show cg _ _ [oJ c,oT ("abcdefghijklmnopqrstuvwxyz"),oJ st] H1;refine yG (n:=n) (rest:=[oT ("abcdefghijklmnopqrstuvwxyz"),oJ c,oJ st]) (λQ q=>wm jm (by decide) (λH'=>(a7 (ae rfl) ao (by decide))) e q) (by omega) (by rw[Oc];omega) (by omega) rfl (λ_=>true)
  (λx=>match x with| .int i=>strV (97+((c / 8+st*i) % 26).toNat)|_=>.non) (λi H' s hi=>cP) (λi H' s hi _=>?_) (λH' d s hd=>?_)
 .have hlt:0<=0+(i:Int)/\0+(i:Int)<6:=by omega
  exact cf (ae rfl) (a7 (bK (bO (ae rfl) ao ⟨by decide,by decide⟩) (eE (ae rfl) (ae rfl) (.inr ⟨by omega,by omega⟩))) ao (by decide)) (by decide) (Jj (by omega) (by omega))
 .have e2:(((List.range n.toNat).map λ(i:Nat)=>V.int (0+(i:Int))).filter λ_=>true).map (λx=>match x with| .int i=>strV (97+((c / 8+st*i) % 26).toNat)|_=>.non)=(jz (c / 8) st n.toNat).map strV:=by rw[Sm.mpr (λ_ _=>rfl),R5];unfold jz;rw[R5];refine Sq λi _=>?_;show strV (97+((c / 8+st*(0+(i:Int))) % 26).toNat)=strV (97+((c / 8+st*(i:Int)) % 26).toNat);rw[Uo]
  rw[e2];have hl:(jz (c / 8) st n.toNat).length=n.toNat:=by unfold jz;simp
  exact k d _ _ ((s1.trans s).free hd) ah vg (yj (by omega) hst) (by omega) (by omega) ((s1.trans s).upd hd)
theorem nG{f:VB}{fd:Oa}(F:cF K "_law_board" "_law_board" dH f fd)(T:Txt mg aS aA aE aW)(C:LG1 P w K mg np):aY P w K mg np cK 2 f fd ["_law_script"] (rA K):=by
 refine F.ok1 bx λcdv A xc s H vs Q E hr h=>?_;obtain⟨a,ns,rfl,hS,k⟩:=h;have hu:=bF hr;refine⟨_,(af (av 1 bx.nd (aC C._law_cell_at hr (az (cv 0) (az ag pan))))
  (af (av 2 bx.nd (am ag (am (cv 1) ag)))
  (af (av 3 bx.nd (am ag (am (am (cv 1) ag) ag)))
  (af (aR (aL K hu (am (am (cv 1) ag) ag) ag) (af (av 2 bx.nd (am ag (am (am (cv 1) ag) ag)))
  (aj (av 3 bx.nd (am ag (am (am (cv 1) ag) ag))))) aF)
  (af (av 1 bx.nd (aC C._law_cell_at hr (az (cv 0) (az ag pan))))
  (af (av 4 bx.nd (bz pan))
  (af (gw Oy rfl (AE T.range (az (bI K (bz (cU rfl)) (am (cv 1) ag)) pan)) (bC 5 bx.nd) (af (av 6 bx.nd (am (aC C._law_mixed hr (az (am (cv 1) ag) (az (cv 5) pan))) (am (cv 2) (cv 3))))
  (aj (aR (PW.pt (gv (aL K hu (cv 6) (cv 4)) (fE (aL K hu (am (kB (gB K) bP T.len (az (cv 4) pan)) ag) (am (cv 2) (cv 3)))))) (aj (fF (jD (cv 4) (cv 6)))) aF))))
  (aj (aB (fj (az (cv 2) (az (cv 3) (az (cv 4) pan))))))))))))),?_⟩
 show bj _ _ _ [oR a,none,none,none,none,none,none] H;refine aU (aH (aa (ae rfl) (aa ao aq)) (λQ q=>⟨a,ns,0,rfl,hS,by decide,q⟩)) ?_;generalize cellAt ns 0=c;refine aU (bK ao (a7 (ae rfl) ao (by decide))) ?_;refine aU (bK ao (a7 (bO (ae rfl) ao ⟨by decide,by decide⟩) ao (by decide))) ?_;refine cQ (λσ' H'=>∃wi hi:Int,1<=wi/\wi<=8/\1<=hi/\hi<=8/\σ'=[oR a,oJ c,oJ wi,oJ hi,none,none,none]/\H'=H) (λK' hK=>?_) ?_
 .refine lD (aZ (fT (a7 (bO (ae rfl) ao ⟨by decide,by decide⟩) ao (by decide)) ao)) (λ_=>?_) (λ_=>hK _ _ ⟨_,_,by omega,by omega,by omega,by omega,rfl,rfl⟩);refine aU (bK ao (a7 (bO (ae rfl) ao ⟨by decide,by decide⟩) ao (by decide))) ?_;exact iV (bK ao (a7 (bO (ae rfl) ao ⟨by decide,by decide⟩) ao (by decide))) (hK _ _ ⟨_,_,by omega,by omega,by omega,by omega,rfl,rfl⟩)
 rintro _ H1 ⟨wi,hi,w1,w8,h1,h8,rfl,rfl⟩;have m1:wi*hi<=8*8:=Uq w8 h8 (by omega) (by omega);have m0:1*1<=wi*hi:=Uq w1 h1 (by omega) (by omega);refine aU (aH (aa (ae rfl) (aa ao aq)) (λQ q=>⟨a,ns,1,rfl,hS,by decide,q⟩)) ?_;generalize cellAt ns 1=c1;refine jt λq1 hq1=>?_;have sm:ak H1 (upd H1 q1 (.lst [])):=(ak.refl H1).upd hq1;obtain⟨n,e,hn⟩:=ms (ns:=[0,0,1,2]) (i:=c1 % 4) (by omega) (by show _<(4:Int);omega);have hn2:0<=n/\n<=2:=by simp only[RV,Sb,or_false]at hn;omega
 refine cQ (λσ' H'=>∃hs:List Int,(∃o5 o6,σ'=[oR a,oJ c1,oJ wi,oJ hi,oR q1,o5,o6])/\H' q1=some (.lst (hs.map V.int))/\(∀h∈hs,0<=h/\h<wi*hi)/\hs.Nodup/\(hs.length:Int)<wi*hi/\hs.length<=2/\ak H1 H') (λK' hK=>?_) ?_
 .refine kN n (λQ q=>wm jm (by decide) (λH'=>(a7 (ae rfl) ao (by decide))) e q) (by omega) (by omega)
   (λi σ' H'=>∃hs:List Int,(∃o5 o6,σ'=[oR a,oJ c1,oJ wi,oJ hi,oR q1,o5,o6])/\H' q1=some (.lst (hs.map V.int))/\(∀h∈hs,0<=h/\h<wi*hi)/\hs.Nodup/\(hs.length:Int)<wi*hi/\hs.length<=i/\ak H1 H')
   (λH' s=>⟨[],⟨_,_,rfl⟩,s _ _ ah,(λh hh=>by cases hh),Tw,by show(0:Int)<_;omega,TX _,sm.trans s⟩) ?_ (λσ' H' h=>?_)
  .rintro i _ H3 hi' ⟨hs,⟨o5,o6,rfl⟩,h3,gd,nd,hl,hl2,s3⟩;show bj _ _ _ [oR a,oJ c1,oJ wi,oJ hi,oR q1,oJ (0+(i:Int)),o6] H3;generalize 0+(i:Int)=j;refine aU (a7 (aH (aa (bO (ae rfl) ao ⟨by decide,by decide⟩) (aa (ae rfl) aq)) (λQ q=>⟨_,_,rfl,q⟩)) (eE (ae rfl) (ae rfl) (.inl ⟨by omega,by omega⟩)) (by omega)) ?_;generalize hsq:mixed (c1 / 4) j % (wi*hi)=sq;have sq0:0<=sq:=hsq▸Uk _ (by omega);have sq1:sq<wi*hi:=hsq▸Ul _ (by omega);refine lD (gt (aZ (qE (ae rfl) (ae rfl) (.inl (aN.of h3)))) (λ_=>(aZ (wR (bK (cX (ae rfl) (.inl (aN.of h3))) ao) (eE (ae rfl) (ae rfl) (.inl ⟨by omega,by omega⟩)))))) (λh=>?_) (λ_=>⟨hs,⟨_,_,rfl⟩,h3,gd,nd,hl,by omega,s3⟩);rw[UD]at h;have hni:¬sq∈hs:=λz=>by have h1:=h.1;rw[C0 z]at h1;cases h1
   have hl':=NS h.2;rw[RT]at hl';refine BV (ae rfl) (ae rfl) h3 (by rw[RT,Oc];omega) ⟨hs++[sq],⟨_,_,rfl⟩,?_,λh hh=>?_,?_,?_,?_,s3.put hq1⟩
   .rw[ah,Sc];rfl
   .rcases Sa.mp hh with z|z
    .exact gd h z
    .rw[R4.mp z];exact⟨sq0,sq1⟩
   .rw[S6];refine⟨nd,by simp,λx hx y hy e=>?_⟩;rw[R4.mp hy]at e;exact hni (e▸hx)
   .rw[R9];show((hs.length+1:Nat):Int)<_;omega
   .rw[R9];show hs.length+1<=_;omega
  .obtain⟨hs,o,h3,gd,nd,hl,hl2,s3⟩:=h;exact hK _ _ ⟨hs,o,h3,gd,nd,hl,by omega,s3⟩
 rintro _ H3 ⟨hs,⟨o5,o6,rfl⟩,h3,gd,nd,hl,hl2,s3⟩;show cg _ _ [oR a,oJ c1,oJ wi,oJ hi,oR q1,o5,o6] H3;refine zj (ae rfl) (ae rfl) (ae rfl) (λt ht=>?_);exact k t q1 wi hi hs _ w1 w8 h1 h8 ah (by rw[au (aw h3 ht)];exact h3) gd nd hl hl2 hq1 (s3.free ht) (s3.upd ht)
end
section
variable{P:N5}{w:N9}{K:Frag}{mg:NX}{np:Oe}{aS aA aE aW:VB}
theorem qo{f:VB}{fd:Oa}(F:cF K "_law_rule" "_law_rule" eS f fd)(T:Txt mg aS aA aE aW):aY P w K mg np cK 1 f fd ["_law_cell","_law_kinds_here"] v8:=by
 refine F.ok1 bE λcdv A xc s H vs Q E hr h=>?_;obtain⟨c,d,ks,rfl,hk,q⟩:=h;have hu:=bF hr;have hpos:(0:Int)<((ks.map strV).length:Int):=by rw[RT];have:=hk.l1;omega
 have h6:((ks.map strV).length:Int)<=6:=by rw[RT];have:=hk.l6;omega
 refine⟨_,(af (av 2 bE.nd (am (cv 0) (kB (gB K) bP T.len (az (cv 1) pan))))
  (af (av 3 bE.nd (bI K (bz (cU rfl)) (am (cv 2) ag)))
  (af (av 4 bE.nd (bI K (bz (cU rfl)) (am (am (cv 2) ag) ag)))
  (af (av 5 bE.nd ag)
  (af (aR (aL K hu (cv 3) bq) (aj (av 4 bE.nd bq)) aF)
  (af (aR (aL K hu (cv 3) bq) (aj (av 5 bE.nd (bI K (bz (cU rfl)) (am (am (cv 2) ag) ag)))) aF)
  (af (av 6 bE.nd (am (am (am (cv 2) ag) (am (am ag (cv 5)) ag)) (cv 5)))
  (af (av 7 bE.nd (am (am (am (cv 2) ag) (am (am ag (cv 5)) ag)) (cv 5)))
  (af (aR (PW.pt (gv (aL K hu (cv 6) ag) (fE (aL K hu (cv 7) ag)))) (aj (av 7 bE.nd ag)) aF)
  (aj (aB (fj (az (bI K (cv 1) (am (cv 0) (kB (gB K) bP T.len (az (cv 1) pan)))) (az (cv 3) (az (cv 4) (az (cv 6) (az (cv 7) pan))))))))))))))))),?_⟩
 show bj _ _ _ [oJ c,oR d,none,none,none,none,none,none] H;refine aU (bO (ae rfl) (cX (ae rfl) (.inl (aN.of hk.at_))) ⟨by omega,by omega⟩) ?_;generalize c / ((ks.map strV).length:Int)=m;refine bJ (λv H'=>∃so:Str,v=.str so/\so∈sortsL/\ak H H') (λQ q=>?_) ?_
 .obtain⟨n,e,hn⟩:=wt (ss:=sortsL) (i:=m % 3) (by omega) (by show _<(3:Int);omega);exact lc jm (by decide) (λH'=>(a7 (ae rfl) ao (by decide))) e (λH' s=>q _ _ ⟨n,rfl,hn,s⟩)
 rintro _ H1 ⟨so,rfl,hso,s1⟩;refine bJ (λv H'=>∃ai:Str,v=.str ai/\ai∈aimsL/\ak H1 H') (λQ q=>?_) ?_
 .obtain⟨n,e,hn⟩:=wt (ss:=aimsL) (i:=m / 3 % 3) (by omega) (by show _<(3:Int);omega);exact lc jm (by decide) (λH'=>(a7 (bO (ae rfl) ao ⟨by decide,by decide⟩) ao (by decide))) e (λH' s=>q _ _ ⟨n,rfl,hn,s⟩)
 rintro _ H2 ⟨ai,rfl,hai,s2⟩;refine aU ao ?_;show bj _ _ _ [oJ c,oR d,oJ m,oT so,oT ai,oJ 1,none,none] H2;refine gf (λσ' H'=>H'=H2/\∃ai:Str,σ'=[oJ c,oR d,oJ m,oT so,oT ai,oJ 1,none,none]/\ai∈aimsL/\(so="jump"->ai="hit")) ?_ (λgo=>?_)
 rotate_left
 .exact bg (aZ (fS (ae rfl) ao)) (λh=>iV ao (go _ _ ⟨rfl,"hit",rfl,by decide,λ_=>rfl⟩)) (λh=>go _ _ ⟨rfl,ai,rfl,hai,λz=>NU z (NT h)⟩)
 rintro _ H2 ⟨rfl,ai,rfl,hai,hjh⟩;refine gf (λσ' H'=>ak H2 H'/\∃fr:Int,σ'=[oJ c,oR d,oJ m,oT so,oT ai,oJ fr,none,none]/\1<=fr/\fr<=(if so="leap"then 3 else 1)) ?_ (λgo=>?_)
 rotate_left
 .refine bg (aZ (fS (ae rfl) ao)) (λh=>?_) (λh=>go _ _ ⟨ak.refl _,1,rfl,by decide,by split<;>omega⟩);obtain⟨n,e,hn⟩:=ms (ns:=[1,2,3]) (i:=m / 9 % 3) (by omega) (by show _<(3:Int);omega);have hn6:1<=n/\n<=3:=by simp only[RV,Sb,or_false]at hn;omega
  exact na (lc jm (by decide) (λH'=>(a7 (bO (ae rfl) ao ⟨by decide,by decide⟩) ao (by decide))) e (λH' s=>go _ _ ⟨s,n,rfl,hn6.1,by rw[NR (NS h)];exact hn6.2⟩))
 rintro _ H3 ⟨s3,fr,rfl,f0,f1⟩;have fr3:fr<=3:=by split at f1<;>omega
 refine aU (eC (a7 (bO (ae rfl) ao ⟨by decide,by decide⟩) (bK (eE ao (ae rfl) (.inl ⟨by decide,by decide⟩)) ao) (by omega)) (ae rfl)) ?_;refine aU (eC (a7 (bO (ae rfl) ao ⟨by decide,by decide⟩) (bK (eE ao (ae rfl) (.inl ⟨by decide,by decide⟩)) ao) (by omega)) (ae rfl)) ?_;have a0:=Uk (m / 27) (by omega:2*fr+1≠0);have a1:=Ul (m / 27) (by omega:0<2*fr+1);have b0:=Uk (m / 189) (by omega:2*fr+1≠0);have b1:=Ul (m / 189) (by omega:0<2*fr+1);have hax: -fr<=m / 27 % (2*fr+1) - fr/\m / 27 % (2*fr+1) - fr<=fr:=by omega
 have hup: -fr<=m / 189 % (2*fr+1) - fr/\m / 189 % (2*fr+1) - fr<=fr:=by omega
 generalize m / 27 % (2*fr+1) - fr=ax at hax;generalize m / 189 % (2*fr+1) - fr=up at hup;show bj _ _ _ [oJ c,oR d,oJ m,oT so,oT ai,oJ fr,oJ ax,oJ up] H3;refine gf (λσ' H'=>H'=H3/\∃up:Int,σ'=[oJ c,oR d,oJ m,oT so,oT ai,oJ fr,oJ ax,oJ up]/\-fr<=up/\up<=fr/\¬(ax=0/\up=0)) ?_ (λgo=>?_)
 rotate_left
 .refine bg (gt (aZ (fT (ae rfl) ao)) (λ_=>aZ (fT (ae rfl) ao))) (λh=>iV ao (go _ _ ⟨rfl,1,rfl,by omega,by omega,by omega⟩)) (λh=>go _ _ ⟨rfl,up,rfl,hup.1,hup.2,λz=>by simp[z.1,z.2]at h⟩)
 rintro _ H3 ⟨rfl,up,rfl,u0,u1,n0⟩;have s03:=(s1.trans s2).trans s3;have hk3:=hk.same s03;obtain⟨k,hkm,ek⟩:=hk3.pick c;refine tupY (fU (aT (ae rfl) (a7 (ae rfl) (cX (ae rfl) (.inl (aN.of hk3.at_))) hpos) (.inl (aN.of hk3.at_)) ek) (fU (ae rfl) (fU (ae rfl) (fU (ae rfl) (fU (ae rfl) (Ar ⟨by show 5<=v1;decide,λp hp=>?_⟩))))));exact q p ⟨one k,so,ai,ax,up⟩ _ ⟨⟨k,hkm,rfl⟩,hso,hai,hjh,⟨by show -(if so="leap"then 3 else 1)<=ax;omega,Int.le_trans hax.2 f1⟩,⟨by show -(if so="leap"then 3 else 1)<=up;omega,Int.le_trans u1 f1⟩,n0⟩ (s03.free hp) ah (s03.upd hp)
theorem nB{f:VB}{fd:Oa}(F:cF K "_law_turns" "_law_turns" cS f fd)(T:Txt mg aS aA aE aW):aY P w K mg np cK 1 f fd ["_law_cell","_law_kinds_here"] rp:=by
 refine F.ok1 eI λcdv A xc s H vs Q E hr h=>?_;obtain⟨c,d,ks,rfl,hk,q⟩:=h;have hu:=bF hr;have hl1:=hk.l1;have hl6:=hk.l6;refine⟨_,(af (av 2 eI.nd (kB (gB K) bP T.len (az (cv 1) pan)))
  (af (aR (PW.pt (dZ (aL K hu (am (cv 0) ag) ag) (cW (aL K hu (cv 2) ag)))) (aj (aB (bz pan))) aF)
  (af (av 3 eI.nd (bI K (cv 1) (am (am (cv 0) ag) (cv 2))))
  (af (lJ (i:=4) rfl (ck (N:=["_law_k","_law_other","_law_kinds_here","_law_many","_law_cell"]) (src:=[none,some 3,some 1,some 2,some 0]) (al cS) ["_law_cell","_law_kinds_here","_law_many","_law_other","_law_turns_here"]) (AE T.range (az (am (cv 2) ag) pan)) (λ_ _ _=>(bi (i:=0) ["_law_k","_law_other","_law_kinds_here","_law_many","_law_cell"])) (λ_ _ _=>bL) (λ_ _ _=>(fj (az (bI K (cv 2) (am (am (am (am (cv 4) ag) ag) (cv 0)) (cv 3))) (az (cv 1) pan)))) eI.nd rfl (Or.inl rfl) rfl (Or.inl rfl))
  (aj (aB (CF K (cv 4) gk (eJ (am ag (am (am (cv 0) ag) ag)))))))))),?_⟩
 show bj _ _ _ [oJ c,oR d,none,none,none] H;refine aU (cX (ae rfl) (.inl (aN.of hk.at_))) ?_;rw[RT];refine bg (fI (aZ (jk (a7 (ae rfl) ao (by decide)) ao)) (λ_=>(aZ (wR (ae rfl) ao)))) (λh=>?_) (λh=>?_)
 .refine⟨TZ _,λp hp=>q p [] _ ⟨TZ _,λ_ z=>(nomatch z),Tw,λ_ z=>(nomatch z)⟩ (λ_ z=>(nomatch z)) hp ah ((ak.refl H).upd hp)⟩
 .have hm:2<=ks.length:=by rw[UN]at h;have:=NT h.2;omega
  have at_:∀i:Int,0<=i->i<ks.length->jn (ks.map strV) i=some (strV (ks.getD i.toNat 0))/\ks.getD i.toNat 0∈ks:=λi h0 h1=>by
   have hi:i.toNat<ks.length:=by omega
   have e:ks[i.toNat]? =some (ks.getD i.toNat 0):=by rw[RY,RU hi];rfl
   have z:=bw (xs:=ks.map strV) (j:=i.toNat) (v:=strV (ks.getD i.toNat 0)) (by rw[RX,e];rfl);rw[Ux h0]at z;exact⟨z,Sl e⟩
  have inj:∀i j:Int,0<=i->i<ks.length->0<=j->j<ks.length->ks.getD i.toNat 0=ks.getD j.toNat 0->i=j:=λi j a b c' d' e=>by
   have hi:i.toNat<ks.length:=by omega
   have hj:j.toNat<ks.length:=by omega
   rw[RY,RY,RU hi,RU hj]at e;have:=(Tc hk.nd).mp (by simpa using e);omega
  have o0:=Uk (c / 3) (by omega:(ks.length:Int)≠0);have o1:=Ul (c / 3) (by omega:(0:Int)<ks.length);obtain⟨eo,mo⟩:=at_ _ o0 o1;refine aU (v:=strV (ks.getD (c / 3 % (ks.length:Int)).toNat 0)) (aT (ae rfl) (a7 (bO (ae rfl) ao ⟨by decide,by decide⟩) (ae rfl) (by omega)) (.inl (aN.of hk.at_)) eo) ?_;generalize hi0:c / 3 % (ks.length:Int)=i0 at o0 o1 eo mo;refine bJ (λv H'=>∃(p:VB)(zs:List ((Str×Str)×VB)),v=.ref p/\H' p=some (.lst (bp zs))/\gc H' zs/\zs.length=ks.length - 1/\(∀(i:Nat) z,zs[i]? =some z->z.1=(one (ks.getD ((c / 3+1+(i:Int)) % (ks.length:Int)).toNat 0),one (ks.getD i0.toNat 0)))/\ak H H') (λQ z=>?_) ?_
  .refine yF (n:=(ks.length:Int) - 1) (λQ' z'=>(aa (eC (ae rfl) ao) aq) _ (z' _ (ak.refl _))) (by omega) (by omega) rfl
    (λi H' v=>∃a,v=.ref a/\H' a=some (.tup [.str (one (ks.getD ((c / 3+1+(i:Int)) % (ks.length:Int)).toNat 0)),.str (one (ks.getD i0.toNat 0))])) (λi H1 H2 v ⟨a,e1,e2⟩ s=>⟨a,e1,s _ _ e2⟩) (λi H' hi s Q2 z2=>?_) (λp H' ys s hp hl hy=>?_)
   .have j0:=Uk (c / 3+1+(i:Int)) (by omega:(ks.length:Int)≠0);have j1:=Ul (c / 3+1+(i:Int)) (by omega:(0:Int)<ks.length);refine lQ (x:=strV (ks.getD ((c / 3+1+(i:Int)) % (ks.length:Int)).toNat 0)) (y:=strV (ks.getD i0.toNat 0)) (aT (ae rfl) (a7 (bK (bK (bO (ae rfl) ao ⟨by decide,by decide⟩) ao) (ae rfl)) (ae rfl) (by omega)) (.inl (aN.of (hk.same s).at_)) ?_) (ae rfl) λa ha=>z2 _ _ ⟨a,rfl,ah⟩ ((ak.refl _).upd ha);rw[Uo];exact(at_ _ j0 j1).1
   .obtain⟨zs,rfl,h1,h2,h3⟩:=wp (λi=>(one (ks.getD ((c / 3+1+(i:Int)) % (ks.length:Int)).toNat 0),one (ks.getD i0.toNat 0))) ys 0 λi y hi=>by rw[T8];exact hy i y hi
    refine z _ _ ⟨p,zs,rfl,ah,h1.same ((ak.refl _).upd hp),by rw[h2,hl];omega,λi z hz=>by have:=h3 i z hz;rwa[T8]at this,s.upd hp⟩
  rintro _ H1 ⟨p,zs,rfl,hp,hz,zl,za,s1⟩;have kk:∃n:Nat,1+c / 18 % 2=(n:Int)/\1<=n/\n<=2:=⟨(1+c / 18 % 2).toNat,by omega,by omega,by omega⟩;obtain⟨n,en,n1,n2⟩:=kk;refine l4 (lo:=none) (hi:=some (n:Int)) (ae rfl) n4 (k5 ?_) (.inl (.inl hp)) λt ht=>?_
  .rw[<-en];exact(bK ao (a7 (bO (ae rfl) ao ⟨by decide,by decide⟩) ao (by decide)))
  have ec:fu (bp zs) none (some (n:Int))=bp (zs.take n):=by unfold fu;rw[HT.sIx_none,HT.sIx_nat,SV,Uf];show List.take (min n (List.map (λz=>V.ref z.2) zs).length) (List.map (λz=>V.ref z.2) zs)=List.map (λz=>V.ref z.2) (List.take n zs);rw[Ta];exact List.take_eq_take_iff.mpr (by omega)
  rw[ec];have s2:ak H (upd H1 t (.lst (bp (zs.take n)))):=s1.upd ht;have val:∀(i:Nat) z,(zs.take n)[i]? =some z->i<n/\i<ks.length - 1/\z.1=(one (ks.getD ((c / 3+1+(i:Int)) % (ks.length:Int)).toNat 0),one (ks.getD i0.toNat 0)):=λi z h=>by have hi:=(Sd.mp h).1;rw[Si]at hi;rw[Te (by omega)]at h;exact⟨by omega,by omega,za i z h⟩
  have ixr:∀i:Nat,i<ks.length - 1->¬(c / 3+1+(i:Int)) % (ks.length:Int)=i0:=λi hi e=>by rw[<-hi0]at e;have e2:=UB.mp e;rw[show c / 3+1+(i:Int) - c / 3=1+i by omega,Uv (by omega) (by omega)]at e2;omega
  refine q t (zs.take n) _ ⟨by rw[Si];omega,λz h=>?_,?_,λz h y h' e=>?_⟩ (λz h=>((ak.refl H1).upd ht) _ _ (hz z (SY h))) (s1.free ht) ah s2
  .obtain⟨i,hi⟩:=SZ h;obtain⟨_,_,e⟩:=val i z hi;rw[e];exact⟨⟨_,(at_ _ (Uk _ (by omega)) (Ul _ (by omega))).2,rfl⟩,_,mo,rfl⟩
  .rw[SL,Sv,S9];intro i j hi hj hij e;obtain⟨a1,a2,a3⟩:=val i _ (RU hi);obtain⟨b1,b2,b3⟩:=val j _ (RU hj);rw[a3,b3]at e;have e:=inj _ _ (Uk _ (by omega)) (Ul _ (by omega)) (Uk _ (by omega)) (Ul _ (by omega)) (jS e);have e2:=UB.mp e.symm;rw[show c / 3+1+(j:Int) - (c / 3+1+(i:Int))=(j:Int) - i by omega,Uv (by omega) (by omega)]at e2;omega
  .obtain⟨i,hi⟩:=SZ h;obtain⟨j,hj⟩:=SZ h';obtain⟨_,_,a3⟩:=val i z hi;obtain⟨_,b2,b3⟩:=val j y hj;rw[a3,b3]at e;exact ixr j b2 (inj _ _ o0 o1 (Uk _ (by omega)) (Ul _ (by omega)) (jS e)).symm
end
section
variable{P:N5}{w:N9}{K:Frag}{mg:NX}{np:Oe}{aS aA aE aW:VB}
theorem qr{f cB cG:VB}{fd:Oa}(F:cF K "_law_game" "_law_game" eT f fd)(T:Txt mg aS aA aE aW)(C:LGg P w K mg np cB cG):aY P w K mg np cK 8 f fd ["_law_script"] (v9 K cB cG):=by
 refine F.ok1 a9 λcdv A xc s H vs Q E hr h=>?_;obtain⟨a,ns,rfl,hS,k⟩:=h;have hu:=bF hr;refine⟨_,(af (uI (aC C._law_board hr (az (cv 0) pan)) (Js K (n:=3) (bY (bC 1 a9.nd) (bY (bC 2 a9.nd) (bY (bC 3 a9.nd) i6)))))
  (af (av 4 a9.nd (aC C._law_kinds hr (az (aC C._law_cell_at hr (az (cv 0) (az ag pan))) pan)))
  (af (av 5 a9.nd (aC C._law_cell_at hr (az (cv 0) (az ag pan))))
  (af (av 6 a9.nd (bz pan))
  (af (gw Oy rfl (AE T.range (az (bI K (bz (cU rfl)) (am (cv 5) ag)) pan)) (bC 7 a9.nd) (aj (fF (jD (cv 6) (aC C._law_rule hr (az (aC C._law_mixed hr (az (am (aC C._law_cell_at hr (az (cv 0) (az (am ag (am (cv 7) ag)) pan))) (cv 5)) (az (cv 7) pan))) (az (cv 4) pan)))))))
  (af (av 8 a9.nd (aC C._law_turns hr (az (aC C._law_cell_at hr (az (cv 0) (az ag pan))) (az (cv 4) pan))))
  (af (av 5 a9.nd (aC C._law_cell_at hr (az (cv 0) (az ag pan))))
  (af (av 9 a9.nd (bz pan))
  (af (gw Oy rfl (AE T.range (az (bI K (bz (cU rfl)) (am (cv 5) ag)) pan)) (bC 7 a9.nd) (af (av 10 a9.nd (aC C._law_mixed hr (az (cv 5) (az (cv 7) pan))))
  (aj (fF (jD (cv 9) (fj (az (bI K (bz (az bq (az bq pan))) (am (cv 10) ag)) (az (bI K (cv 4) (am (am (cv 10) ag) (kB (gB K) bP T.len (az (cv 4) pan)))) pan))))))))
  (af (av 11 a9.nd (bI K (bz (cU rfl)) (am (am (cv 5) ag) ag)))
  (aj (aB (GO C.Game hr (az (GO C.Board hr (az (cv 1) (az (cv 2) (az (cv 3) pan)))) (az (cv 4) (az (cv 6) (az (cv 8) (az (cv 9) (az (cv 11) pan))))))))))))))))))),?_⟩
 show bj _ _ _ [oR a,none,none,none,none,none,none,none,none,none,none,none] H;refine cQ (λσ' H'=>∃(wi hi:Int)(d:VB)(hs:List Int),σ'=[oR a,oJ wi,oJ hi,oR d,none,none,none,none,none,none,none,none]/\1<=wi/\wi<=8/\1<=hi/\hi<=8/\H' d=some (.lst (hs.map V.int))/\(∀h∈hs,0<=h/\h<wi*hi)/\hs.Nodup/\(hs.length:Int)<wi*hi/\hs.length<=2/\ak H H') (λK' hK=>?_) ?_
 .refine Jd (aa (ae rfl) aq) ⟨a,ns,rfl,hS,λt d wi hi hs H' w1 w8 h1 h8 et ed gd nd ln l2 nq nt s=>?_⟩;exact L7 et (hK _ _ ⟨wi,hi,d,hs,rfl,w1,w8,h1,h8,ed,gd,nd,ln,l2,s⟩)
 rintro _ H1 ⟨wi,hi,d,hs,rfl,w1,w8,h1,h8,ed,gd,nd,ln,l2,s1⟩;have hS1:=s1.seq hS;refine bJ (λv H'=>∃(kq:VB)(ks:List Nat),v=.ref kq/\jo H' kq ks/\ak H1 H') (λQ q=>?_) ?_
 .exact bR (aa (aH (aa (ae rfl) (aa ao aq)) (λQ q=>⟨a,ns,2,rfl,hS1,by decide,q⟩)) aq) ⟨_,rfl,λkq ks H' z1 z2 z3 z4 z5 z6 z7=>q _ _ ⟨kq,ks,rfl,⟨z2,z3,z5,z6,z4⟩,z7⟩⟩
 rintro _ H2 ⟨kq,ks,rfl,ek,s2⟩;have hS2:=s2.seq hS1;refine aU (aH (aa (ae rfl) (aa ao aq)) (λQ q=>⟨a,ns,3,rfl,hS2,by decide,q⟩)) ?_;generalize cellAt ns 3=c3;refine jt λrq hrq=>?_;have sr:ak H2 (upd H2 rq (.lst [])):=(ak.refl H2).upd hrq;obtain⟨n,e,hn⟩:=ms (ns:=[4,5,6,3,8,2,12,0]) (i:=c3 % 8) (by omega) (by show _<(8:Int);omega);have hn2:0<=n/\n<=12:=by simp only[RV,Sb,or_false]at hn;omega
 refine cQ (λσ' H'=>∃us:List (aJ×VB),(∃o7,σ'=[oR a,oJ wi,oJ hi,oR d,oR kq,oJ c3,oR rq,o7,none,none,none,none])/\H' rq=some (.lst (cj us))/\dS H' us/\(∀z∈us,kb ks z.1)/\us.length<=12/\ak H2 H') (λK' hK=>?_) ?_
 .refine kN n (λQ q=>wm jm (by decide) (λH'=>(a7 (ae rfl) ao (by decide))) e q) (by omega) (by omega)
   (λi σ' H'=>∃us:List (aJ×VB),(∃o7,σ'=[oR a,oJ wi,oJ hi,oR d,oR kq,oJ c3,oR rq,o7,none,none,none,none])/\H' rq=some (.lst (cj us))/\dS H' us/\(∀z∈us,kb ks z.1)/\us.length=i/\ak H2 H')
   (λH' s=>⟨[],⟨_,rfl⟩,s _ _ ah,λ_ z=>(nomatch z),λ_ z=>(nomatch z),rfl,sr.trans s⟩) ?_ (λσ' H' h=>?_)
  .rintro i _ H3 hi' ⟨us,⟨o7,rfl⟩,h3,hR,hg,hl,s3⟩;show jf _ _ [oR a,oJ wi,oJ hi,oR d,oR kq,oJ c3,oR rq,oJ (0+(i:Int)),none,none,none,none] H3;rw[Uo];have hS3:=s3.seq hS2;refine xg (ae rfl) ⟨_,h3⟩ (bR (aa (aH (aa (bK (aH (aa (ae rfl) (aa (bK ao (a7 (ae rfl) ao (by decide))) aq)) (λQ q=>⟨a,ns,4+(i:Int) % 4,rfl,hS3,by omega,q⟩)) (ae rfl)) (aa (ae rfl) aq)) (λQ q=>⟨_,_,rfl,q⟩)) (aa (ae rfl) aq)) ⟨_,kq,ks,rfl,ek.same s3,λt u H4 g1 g2 g3 g4=>⟨_,g4 _ _ h3,by rw[RT,hl,Oc];omega,us++[(u,t)],⟨_,rfl⟩,?_,?_,λz hz=>?_,by rw[R9,hl];rfl,(s3.trans g4).put hrq⟩⟩)
   .rw[ah,show cj (us++[(u,t)])=cj us++[V.ref t]from Sc ..]
   .exact(hR.add g4 g3).put (g4 _ _ h3)
   .rcases Sa.mp hz with w|w
    .exact hg z w
    .rw[R4.mp w];exact g1
  .obtain⟨us,o,x1,x2,x3,x4,x5⟩:=h;exact hK _ _ ⟨us,o,x1,x2,x3,by omega,x5⟩
 rintro _ H3 ⟨us,⟨o7,rfl⟩,h3,hR,hg,hl,s3⟩;have hS3:=s3.seq hS2;refine bJ (λv H'=>∃(tq:VB)(ts:List ((Str×Str)×VB)),v=.ref tq/\oP ks ts/\gc H' ts/\H' tq=some (.lst (bp ts))/\ak H3 H') (λQ q=>?_) ?_
 .exact bR (aa (aH (aa (ae rfl) (aa ao aq)) (λQ q=>⟨a,ns,8,rfl,hS3,by decide,q⟩)) (aa (ae rfl) aq)) ⟨_,kq,ks,rfl,ek.same s3,λtq ts H' g1 g2 g3 g4 g5=>q _ _ ⟨tq,ts,rfl,g1,g2,g4,g5⟩⟩
 rintro _ H4 ⟨tq,ts,rfl,tg,tp,et,s4⟩;have hS4:=s4.seq hS3;refine aU (aH (aa (ae rfl) (aa ao aq)) (λQ q=>⟨a,ns,9,rfl,hS4,by decide,q⟩)) ?_;generalize cellAt ns 9=c9;refine jt λeq heq=>?_;have se:ak H4 (upd H4 eq (.lst [])):=(ak.refl H4).upd heq;obtain⟨n2,e2,hn3⟩:=ms (ns:=[0,1,2,3,0,6]) (i:=c9 % 6) (by omega) (by show _<(6:Int);omega);have hn4:0<=n2/\n2<=6:=by simp only[RV,Sb,or_false]at hn3;omega
 have hpos:(0:Int)<((ks.map strV).length:Int):=by rw[RT];have:=ek.l1;omega
 refine cQ (λσ' H'=>∃es:List ((Str×Str)×VB),(∃o7 o10,σ'=[oR a,oJ wi,oJ hi,oR d,oR kq,oJ c9,oR rq,o7,oR tq,oR eq,o10,none])/\H' eq=some (.lst (bp es))/\gc H' es/\(∀z∈es,z.1.1∈ik/\∃b∈ks,z.1.2=one b)/\es.length<=6/\ak H4 H') (λK' hK=>?_) ?_
 .refine kN n2 (λQ q=>wm jm (by decide) (λH'=>(a7 (ae rfl) ao (by decide))) e2 q) (by omega) (by omega)
   (λi σ' H'=>∃es:List ((Str×Str)×VB),(∃o7 o10,σ'=[oR a,oJ wi,oJ hi,oR d,oR kq,oJ c9,oR rq,o7,oR tq,oR eq,o10,none])/\H' eq=some (.lst (bp es))/\gc H' es/\(∀z∈es,z.1.1∈ik/\∃b∈ks,z.1.2=one b)/\es.length=i/\ak H4 H')
   (λH' s=>⟨[],⟨_,_,rfl⟩,s _ _ ah,λ_ z=>(nomatch z),λ_ z=>(nomatch z),rfl,se.trans s⟩) ?_ (λσ' H' h=>?_)
  .rintro i _ H5 hi' ⟨es,⟨o7',o10,rfl⟩,h5,hP,hg5,hl5,s5⟩;show bj _ _ _ [oR a,oJ wi,oJ hi,oR d,oR kq,oJ c9,oR rq,oJ (0+(i:Int)),oR tq,oR eq,o10,none] H5;refine aU (aH (aa (ae rfl) (aa (ae rfl) aq)) (λQ q=>⟨_,_,rfl,q⟩)) ?_;generalize mixed c9 (0+(i:Int))=mm;obtain⟨en,ee,he⟩:=wt (ss:=ik) (i:=mm % 2) (by omega) (by show _<(2:Int);omega);have ek5:∀{H'},ak H5 H'->jo H' kq ks:=λz=>ek.same (((s3.trans s4).trans s5).trans z);obtain⟨kc,kcm,kce⟩:=(ek5 (ak.refl _)).pick (mm / 2);refine xg (ae rfl) ⟨_,h5⟩ (tupY (gr (lc jm (by decide) (λH'=>(a7 (ae rfl) ao (by decide))) ee (λH6 s6=>fU (aT (ae rfl) (a7 (bO (ae rfl) ao ⟨by decide,by decide⟩) (cX (ae rfl) (.inl (aN.of (ek5 s6).at_))) hpos) (.inl (aN.of (ek5 s6).at_)) kce) (Ar ⟨by show 2<=v1;decide,λt ht=>?_⟩)))));have h56:=s6 _ _ h5;have s67:=s6.upd (o:=.tup [.str en,strV kc]) ht;refine⟨_,s67 _ _ h5,by rw[RT,hl5,Oc];omega,es++[((en,one kc),t)],⟨_,_,rfl⟩,?_,(hP.add s67 ah).put (s67 _ _ h5),λz hz=>?_,by rw[R9,hl5];rfl,(s5.trans s67).put heq⟩
   .rw[ah,show bp (es++[((en,one kc),t)])=bp es++[V.ref t]from Sc ..]
   .rcases Sa.mp hz with w|w
    .exact hg5 z w
    .rw[R4.mp w];exact⟨he,kc,kcm,rfl⟩
  .obtain⟨es,o,x1,x2,x3,x4,x5⟩:=h;exact hK _ _ ⟨es,o,x1,x2,x3,by omega,x5⟩
 rintro _ H5 ⟨es,⟨o7',o10,rfl⟩,h5,hP,hg5,hl5,s5⟩;refine bJ (λv H'=>∃st:Str,v=.str st/\st∈iu/\ak H5 H') (λQ q=>?_) ?_
 .obtain⟨n,e,hn⟩:=wt (ss:=iu) (i:=c9 / 6 % 3) (by omega) (by show _<(3:Int);omega);exact lc jm (by decide) (λH'=>(a7 (bO (ae rfl) ao ⟨by decide,by decide⟩) ao (by decide))) e (λH' s=>q _ _ ⟨n,rfl,hn,s⟩)
 rintro _ H6 ⟨st,rfl,hst,s6⟩;have s26:ak H2 H6:=((s3.trans s4).trans s5).trans s6;have ed6:=(s2.trans s26) _ _ ed;refine Li (GJ (gr (GJ (fU (ae rfl) (fU (ae rfl) (fU (ae rfl) (Ar λx dx nx ndx ne=>?_)))))));refine⟨x,d,dx,wi,hi,hs,rfl,ah,by rw[au (aw ed6 nx),au (aw ed6 ndx)];exact ed6,w1,w8,h1,h8,gd,nd,ln,λhs' H7 pm O sb=>⟨rfl,?_⟩⟩;have s7:ak H6 H7:=oj (ak.refl H6) nx ndx sb;refine fU (ae rfl) (fU (ae rfl) (fU (ae rfl) (fU (ae rfl) (fU (ae rfl) (Ar λg gx ng ngx nne=>?_)))));have sF:ak H7 (upd (upd H7 gx (.own g)) g (.ins cG gx [])):=((ak.refl H7).upd ngx).upd (by rw[au (Ne.symm nne)];exact ng);have ekF:=ek.same ((s26.trans s7).trans sF);have q3:=(((s4.trans s5).trans s6).trans s7).trans sF;have q4:=((s5.trans s6).trans s7).trans sF;have q5:=(s6.trans s7).trans sF;have mm:(ks.map one).map V.str=ks.map strV:=by rw[R5];rfl
 have tln:∀z∈ts,z.1.1.length<=1000/\z.1.2.length<=1000:=λz hz=>by obtain⟨⟨a,_,e1⟩,b,_,e2⟩:=tg.kd z hz;rw[e1,e2];exact⟨iG a,iG b⟩
 have eln:∀z∈es,z.1.1.length<=1000/\z.1.2.length<=1000:=λz hz=>by obtain⟨e1,b,_,e2⟩:=hg5 z hz;rw[e2];exact⟨IN e1,iG b⟩
 refine⟨g,x,kq,rq,tq,eq,gx,ks.map one,cj us,bp ts,bp es,st,rfl,ah,by rw[mm];exact ekF.at_,q3 _ _ h3,q4 _ _ et,q5 _ _ h5,Iw ekF,HD (q3 _ _ h3) (hR.same q3) hg,Ad (q4 _ _ et) (tp.same q4) tln,Ad (q5 _ _ h5) (hP.same q5) eln,
  yk ekF.at_ ek.ltr ek.nd ek.l1 ek.l6,xH (q3 _ _ h3) (hR.same q3) hg (by omega),xr (q4 _ _ et) (tp.same q4) tg,n6 (q5 _ _ h5) (hP.same q5) (λz hz=>⟨(hg5 z hz).1,?_⟩) hl5,hst,(by decide:∀s∈iu,s.length<=1000) st hst,λH8 G sb'=>⟨rfl,?_⟩⟩
 .obtain⟨b,hb,e2⟩:=(hg5 z hz).2;exact RW.mpr ⟨b,hb,e2.symm⟩
 .rw[mm]at G;have s8:ak H7 H8:=oj (ak.refl H7) ng ngx sb';have t3:=(((s4.trans s5).trans s6).trans s7).trans s8;have t4:=((s5.trans s6).trans s7).trans s8;have t5:=(s6.trans s7).trans s8;exact k g x kq wi hi hs' ks us ts es st H8 ⟨G,O.same s8,ek.ltr,ek.l1,ek.l6,ek.nd,hR.same t3,hl,hg,tp.same t4,tg,hP.same t5,hl5,hg5,hst⟩ (by rw[pm.length_eq];exact l2) (by rw[pm.length_eq];exact ln) (((s1.trans s2).trans s3).trans t3)
end
theorem GI{xs:List V}{i:Int}(h0:0<=i)(h1:i<xs.length):∃v,jn xs i=some v/\v∈xs:=by obtain⟨v,e1,e2⟩:=Bv (xs:=xs) h0 h1;exact⟨v,e1,Sl e2⟩
def zy(K:Frag)(cB cG:VB):Sp:=λvs H Q _=>∃(a g b:VB)(ns:List Int)(st:Int)(wi hi:Int)(hs:List Int)(ks:List Nat)(rs ts es:List V)(sw:Str),vs=[.ref a,.ref g,.int st]/\aN K H a (ns.map V.int)/\0<=st/\st<=100/\fY cG H g b (ks.map strV) rs ts es sw/\cb K cB H b wi hi hs/\(∀k∈ks,jF k)/\1<=ks.length/\ks.length<=6/\(hs.length:Int)<wi*hi/\
 ∀(z:Str)(H':Hp),z.length=(wi*hi).toNat->(∀(s c:Nat),z.cps.toList[s]? =some c->fW ks c (if(s:Int)∈hs then 35 else 46)=true)->ak H H'->Q (.str z) H'
theorem Ix{K:Frag}{H:Hp}{Q:VK}{d:VB}{cs:List Nat}(h:H d=some (.lst (cs.map strV)))(hl:cs.length<=1000)(q:Q (.str ⟨cs.toArray⟩) H):oz K (.str "") [.ref d] H Q:=by
 rw[uG];refine⟨cs.map one,aN.of (by rw[R5];exact h),?_,?_⟩
 .rw[R5];have es:∀l:List Nat,(l.map ((λx:Str=>x.length)∘one)).sum=l.length:=λl=>by
   induction l with
   |nil=>rfl
   |cons a r ih=>rw[Sk,List.sum_cons,ih,Sf];show 1+r.length=_;omega
  have ez:("":Str).length=0:=by decide+kernel
  have hz:v1=v1:=rfl;rw[es,ez];show cs.length+(cs.map one).length*0<=16777216;omega
 .rw[ow];exact q
theorem oF(F:List Int)(lo hi:Option Int):∃ss:List Int,fu (F.map V.int) lo hi=ss.map V.int/\(∀s∈ss,s∈F)/\ss.length<=F.length:=by
 refine⟨(F.drop (HT.sIx (F.map V.int).length 0 lo)).take (HT.sIx (F.map V.int).length (F.map V.int).length hi - HT.sIx (F.map V.int).length 0 lo),?_,λs hs=>TL (SY hs),?_⟩
 .unfold fu;rw[Ta,List.map_drop]
 .rw[Si,SI];omega
def gI(F:List Int)(x:V):Int:=F.getD (match x with| .int i=>(i % (F.length:Int)).toNat|_=>0) 0
theorem L9{F:List Int}(h:0<F.length)(x:V):gI F x∈F:=by
 have key:∀j,j<F.length->F.getD j 0∈F:=λj hj=>by rw[RY,RU hj];exact Se _
 unfold gI;cases x with
 |int i=>
  have h0:=Uk i (by omega:(F.length:Int)≠0);have h1:=Ul i (by omega:(0:Int)<F.length);refine key _ ?_;dsimp only;omega
 |_=>exact key _ h
theorem Ma{F:List Int}(h:0<F.length)(i:Int):jn (F.map V.int) (i % ((F.map V.int).length:Int))=some (.int (gI F (.int i))):=by
 rw[RT];have h0:=Uk i (by omega:(F.length:Int)≠0);have h1:=Ul i (by omega:(0:Int)<F.length);obtain⟨v,e1,e2⟩:=Bv (xs:=F.map V.int) h0 (by rw[RT];exact h1);rw[e1];rw[RX]at e2;unfold gI;dsimp only;rw[RY];cases e:F[(i % (F.length:Int)).toNat]? with
 |none=>rw[e]at e2;cases e2
 |some z=>rw[e]at e2;exact e2.symm
def bareL(n:Nat)(hs:List Int):List Nat:=(List.range n).map λ(s:Nat)=>if(s:Int)∈hs then 35 else 46
def GD(hs:List Int):V->V
 | .int i=>strV (if i∈hs then 35 else 46)
 |_=>.non
section
variable{P:N5}{w:N9}{K:Frag}{mg:NX}{np:Oe}{aS aA aE aW:VB}
theorem sJ{f cB cG:VB}{fd:Oa}(F:cF K "_law_row" "_law_row" cw f fd)(T:Txt mg aS aA aE aW)(B:iT K cB)(D:vS K cG)(C:LG1 P w K mg np):aY P w K mg np cK 2 f fd ["_law_script","_law_game_here","_law_start"] (zy K cB cG):=by
 refine F.ok1 bu λcdv A xc s H vs Q E hr h=>?_;obtain⟨a,g,b,ns,st,wi,hi,hs,ks,rs,ts,es,sw,rfl,hS,st0,st1,G,O,hlt,k1,k6,ln,q⟩:=h;have hu:=bF hr;refine⟨_,(af (av 3 bu.nd (am (cC K (cC K (cv 1))) (cC K (cC K (cv 1)))))
  (af (av 4 bu.nd (fz (ck (N:=["_law_square","_law_game_here"]) (src:=[none,some 1]) (al cw) ["_law_script","_law_game_here","_law_start","_law_size","_law_free","_law_signs","_law_cell","_law_cells","_law_spots","_law_k","_law_square","_law_more","_law_kind"]) (AE T.range (az (cv 3) pan)) (λ_ _ _=>(bi (i:=0) ["_law_square","_law_game_here"])) (λ_ _ _=>(jR (aL K hu (cv 0) (cC K (cC K (cv 1)))))) (λ_ _ _=>(cv 0))))
  (af (lJ (i:=5) rfl (ck (N:=["_law_square","_law_game_here"]) (src:=[none,some 1]) (al cw) ["_law_script","_law_game_here","_law_start","_law_size","_law_free","_law_signs","_law_cell","_law_cells","_law_spots","_law_k","_law_square","_law_more","_law_kind"]) (AE T.range (az (cv 3) pan)) (λ_ _ _=>(bi (i:=0) ["_law_square","_law_game_here"])) (λ_ _ _=>bL) (λ_ _ _=>(bI K bq (yZ oG vL T.int (az (jA K hu (cv 0) (cC K (cC K (cv 1)))) pan)))) bu.nd rfl (Or.inl rfl) rfl (Or.inl rfl))
  (af (av 6 bu.nd (aC C._law_cell_at hr (az (cv 0) (az (cv 2) pan))))
  (af (lJ (i:=7) rfl (ck (N:=["_law_k","_law_script","_law_start"]) (src:=[none,some 0,some 2]) (al cw) ["_law_script","_law_game_here","_law_start","_law_size","_law_free","_law_signs","_law_cell","_law_cells","_law_spots","_law_k","_law_square","_law_more","_law_kind"]) (AE T.range (az ag pan)) (λ_ _ _=>(bi (i:=0) ["_law_k","_law_script","_law_start"])) (λ_ _ _=>bL) (λ_ _ _=>(aC C._law_mixed hr (az (aC C._law_cell_at hr (az (cv 1) (az (am (am (cv 2) ag) (cv 0)) pan))) (az (cv 0) pan)))) bu.nd rfl (Or.inl rfl) rfl (Or.inl rfl))
  (af (lJ (i:=8) rfl (ck (N:=["_law_more","_law_free"]) (src:=[none,some 4]) (al cw) ["_law_script","_law_game_here","_law_start","_law_size","_law_free","_law_signs","_law_cell","_law_cells","_law_spots","_law_k","_law_square","_law_more","_law_kind"]) (wE K (CF K (cv 7) gk (eJ (am ag (am (cv 6) ag))))) (λ_ _ _=>(bi (i:=0) ["_law_more","_law_free"])) (λ_ _ _=>bL) (λ_ _ _=>(bI K (cv 1) (am (cv 0) (kB (gB K) bP T.len (az (cv 1) pan))))) bu.nd rfl (Or.inl rfl) rfl (Or.inl rfl))
  (af (aR (aL K hu (am (am (cv 6) ag) ag) ag) (aj (av 8 bu.nd (CF K (cv 4) gk (eJ ag)))) aF)
  (af (aR (aL K hu (am (am (cv 6) ag) ag) ag) (aj (av 8 bu.nd (bz pan))) aF)
  (af (gw Oy rfl (AF K T.enumerate (cv 8)) (Js K (n:=2) (bY (bC 9 bu.nd) (bY (bC 10 bu.nd) i6))) (af (av 11 bu.nd (am (bI K (cv 7) (am (cv 9) ag)) (am ag (am (cv 9) ag))))
  (af (av 12 bu.nd (bI K (cC K (cv 1)) (am (am (cv 11) ag) (kB (gB K) bP T.len (az (cC K (cv 1)) pan)))))
  (aj (uI (bI K (bz (az (kP PySem.F.slot_str_upper PySem.F.type_str_upper uY (cv 12)) (az (cv 12) pan))) (am (am (cv 11) ag) ag)) (HR (cv 5) (cv 10) zH))))))
  (aj (aB (ksm PySem.F.slot_str_join PySem.F.type_str_join (GP K) bq (az (cv 5) pan))))))))))))),?_⟩
 show bj _ _ _ [oR a,oR g,oJ st,none,none,none,none,none,none,none,none,none,none] H;have mm:=O.many;have w1:=O.w1;have w8:=O.w8;have fb:∀(H':Hp)(σ:St)(j:Nat),σ[j]? =some (some (V.ref g))->ak H H'->Ev (IX K (eF j) "board") σ H' (.ref b):=λH' σ j h s=>bb (ae h) ((G.same s).board D);refine aU (eE (bb (fb H _ 1 rfl (ak.refl H)) (O.wide B)) (bb (fb H _ 1 rfl (ak.refl H)) (O.high B)) (.inl ⟨by omega,by omega⟩)) ?_;obtain⟨hq,fh,eh⟩:=O.holes B;refine bJ (λv H'=>∃fq,v=.ref fq/\H' fq=some (.lst ((fA wi hi hs).map V.int))/\ak H H') (λQ q=>?_) ?_
 .refine iP (n:=wi*hi) (rest:=[oR g]) (aa (ae rfl) aq) (by omega) (by rw[Oc];omega) (by omega) rfl (AY hs) (λv=>v) (λi hi=>?_) (λi hi _=>ae rfl) (λq' hq'=>?_)
  .exact aZ (qE (ae rfl) (bb (fb H _ 1 rfl (ak.refl H)) fh) (.inl (aN.of eh)))
  .rw[vp];exact q _ _ ⟨q',rfl,ah,(ak.refl H).upd hq'⟩
 rintro _ H1 ⟨fq,rfl,ef,s1⟩;obtain⟨hq1,fh1,eh1⟩:=(O.same s1).holes B;refine bJ (λv H'=>∃sq,v=.ref sq/\H1 sq=none/\H' sq=some (.lst ((bareL (wi*hi).toNat hs).map strV))/\ak H1 H') (λQ q=>?_) ?_
 .refine iP (n:=wi*hi) (rest:=[oR g]) (aa (ae rfl) aq) (by omega) (by rw[Oc];omega) (by omega) rfl (λ_=>true) (GD hs) (λi hi=>cP) (λi hi' _=>?_) (λq' hq'=>?_)
  .have e:strV (if decide (0+(i:Int)∈hs)=true then 35 else 46)=GD hs (.int (0+(i:Int))):=by
    show _=strV (if 0+(i:Int)∈hs then 35 else 46)
    by_cases m:0+(i:Int)∈hs
    .rw[NR m,NR (C0 m)]
    .rw[NQ m,NP m];rfl
   rw[<-e];exact cf ao (wS (Mh (ae rfl) (bb (fb H1 _ 1 rfl s1) fh1) (.inl (aN.of eh1)))) (by decide) (Ml _)
  .refine q _ _ ⟨q',rfl,hq',?_,(ak.refl H1).upd hq'⟩;rw[ah,Sm.mpr (λ_ _=>rfl),R5];unfold bareL;rw[R5];congr 2;refine Sq λi _=>?_;show strV (if 0+(i:Int)∈hs then 35 else 46)=strV (if(i:Int)∈hs then 35 else 46);rw[Uo]
 rintro _ H2 ⟨sq,rfl,sqn,esq,s2⟩;have s02:=s1.trans s2;refine aU (aH (sp:=jI K) (aa (ae rfl) (aa (ae rfl) aq)) (λQ q=>⟨a,ns,st,rfl,s02.seq hS,st0,q⟩)) ?_;generalize cellAt ns st=c;refine bJ (λv H'=>∃(cq:VB)(cs:List Int),v=.ref cq/\H' cq=some (.lst (cs.map V.int))/\cs.length=6/\ak H2 H') (λQ q=>?_) ?_
 .refine iP (n:=6) (rest:=[oR a,oJ st]) (aa ao aq) (by omega) (by decide) (by decide) rfl (λ_=>true) (λx=>match x with| .int i=>.int (mixed (cellAt ns (st+1+i)) i)|_=>.non) (λi hi=>cP) (λi hi' _=>?_) (λq' hq'=>?_)
  .exact aH (sp:=oV) (aa (aH (sp:=jI K) (aa (ae rfl) (aa (bK (bK (ae rfl) ao) (ae rfl)) aq)) (λQ q=>⟨a,ns,_,rfl,s02.seq hS,by omega,q⟩)) (aa (ae rfl) aq)) (λQ q=>⟨_,_,rfl,q⟩)
  .refine q _ _ ⟨q',(List.range 6).map λ(i:Nat)=>mixed (cellAt ns (st+1+(0+(i:Int)))) (0+(i:Int)),rfl,?_,by rw[RT,Sx],(ak.refl H2).upd hq'⟩;rw[ah,Sm.mpr (λ_ _=>rfl),R5,R5];rfl
 rintro _ H3 ⟨cq,cs,rfl,ecs,l6,s3⟩;have s03:=s02.trans s3;have esq3:=s3 _ _ esq;have ef3:=(s2.trans s3) _ _ ef;have fpos:=yx ln;show bj _ _ _ [oR a,oR g,oJ st,oJ (wi*hi),oR fq,oR sq,oJ c,oR cq,none,none,none,none,none] H3;have flen:(fA wi hi hs).length<=64:=by unfold fA;have:=SK (λi=> !decide (i∈hs)) ((List.range (wi*hi).toNat).map λ(i:Nat)=>(i:Int));rw[RT,Sx]at this;omega
 have nsq:∀p,H3 p=none->p≠sq:=λp hp e=>by rw[e,esq3]at hp;cases hp
 refine bJ (λv H'=>∃(pq:VB)(ss:List Int),v=.ref pq/\H' pq=some (.lst (ss.map V.int))/\pq≠sq/\(∀s∈ss,s∈fA wi hi hs)/\ss.length<=64/\ak H3 H') (λQ q=>?_) ?_
 .refine l4 (lo:=none) (hi:=some (1+c % 6)) (ae rfl) (λQ q=>q) (λQ q=>qW (bK ao (a7 (ae rfl) ao (by decide))) q) (aN.of ecs) (λp hp=>?_);have s4:=(ak.refl H3).upd (o:=.lst (fu (cs.map V.int) none (some (1+c % 6)))) hp;have cl:(fu (cs.map V.int) none (some (1+c % 6))).length<=6:=by have:=lg (cs.map V.int) none (some (1+c % 6));rw[RT]at this;omega
  have ef4:aN K _ fq ((fA wi hi hs).map V.int):=aN.of (s4 _ _ ef3);refine fH (tl:=tC (.ref p)) (d:=p) (xs:=fu (cs.map V.int) none (some (1+c % 6))) (rest:=[oR fq]) ao (aN.of ah) (by rw[Oc];omega) rfl (λ_=>true) (λx=>.int (gI (fA wi hi hs) x)) (λx hx=>cP) (λx hx _=>?_) (λp2 hp2=>?_)
  .obtain⟨i,_,rfl⟩:=RW.mp (Bi hx);exact aT (ae rfl) (a7 (ae rfl) (cX (ae rfl) (.inl ef4)) (by rw[RT];omega)) (.inl ef4) (Ma fpos i)
  .refine q _ _ ⟨p2,(fu (cs.map V.int) none (some (1+c % 6))).map (gI (fA wi hi hs)),rfl,?_,nsq _ (s4.free hp2),λs hs'=>?_,by rw[RT];omega,s4.upd hp2⟩
   .rw[ah,Sm.mpr (λ_ _=>rfl),R5];rfl
   .obtain⟨x,_,rfl⟩:=RW.mp hs';exact L9 fpos x
 rintro _ H4 ⟨pq,ss,rfl,epq,npq,hss,lss,s4⟩;show bj _ _ _ [oR a,oR g,oJ st,oJ (wi*hi),oR fq,oR sq,oJ c,oR cq,oR pq,none,none,none,none] H4;have ef4:=s4 _ _ ef3;refine gf (λσ' H'=>∃(pq:VB)(ss:List Int),σ'=[oR a,oR g,oJ st,oJ (wi*hi),oR fq,oR sq,oJ c,oR cq,oR pq,none,none,none,none]/\H' pq=some (.lst (ss.map V.int))/\pq≠sq/\(∀s∈ss,s∈fA wi hi hs)/\ss.length<=64/\ak H3 H') ?_ (λgo=>?_)
 rotate_left
 .refine bg (aZ (fT (a7 (bO (ae rfl) ao ⟨by decide,by decide⟩) ao (by decide)) ao)) (λ_=>?_) (λ_=>go _ _ ⟨pq,ss,rfl,epq,npq,hss,lss,s4⟩);obtain⟨ss2,e2,h2,l2⟩:=oF (fA wi hi hs) none (some 12);exact na (l4 (lo:=none) (hi:=some 12) (ae rfl) (λQ q=>q) (λQ q=>qW ao q) (aN.of ef4) (λp hp=>go _ _ ⟨p,ss2,rfl,by rw[ah,e2],nsq _ (s4.free hp),h2,by omega,s4.upd hp⟩))
 rintro _ H4 ⟨pq,ss,rfl,epq,npq,hss,lss,s4⟩;refine gf (λσ' H'=>∃(pq:VB)(ss:List Int),σ'=[oR a,oR g,oJ st,oJ (wi*hi),oR fq,oR sq,oJ c,oR cq,oR pq,none,none,none,none]/\H' pq=some (.lst (ss.map V.int))/\pq≠sq/\(∀s∈ss,s∈fA wi hi hs)/\ss.length<=64/\ak H3 H') ?_ (λgo=>?_)
 rotate_left
 .refine bg (aZ (fT (a7 (bO (ae rfl) ao ⟨by decide,by decide⟩) ao (by decide)) ao)) (λ_=>?_) (λ_=>go _ _ ⟨pq,ss,rfl,epq,npq,hss,lss,s4⟩);exact na (sP (jU ⟨TZ _,λp hp=>go _ _ ⟨p,[],rfl,ah,nsq _ (s4.free hp),λs hs=>(by cases hs),TZ _,s4.upd hp⟩⟩))
 rintro _ H4 ⟨pq,ss,rfl,epq,npq,hss,lss,s4⟩;have esq4:=s4 _ _ esq3;have hsn:H sq=none:=s1.free sqn;have s04:=s03.trans s4;have back:∀H',SameBut sq H4 H'->ak H H':=λH' sb d o e=>sb d o (s04 d o e) (λz=>by rw[z,hsn]at e;cases e);have ncq:cq≠sq:=λz=>by
  have h1:H3 sq=some (.lst (cs.map V.int)):=z▸ecs;rw[esq3]at h1;have h2:(bareL (wi*hi).toNat hs).map strV=cs.map V.int:=by injection h1 with h1;injection h1
  cases cs with
  |nil=>simp at l6
  |cons x r=>
   cases hb:bareL (wi*hi).toNat hs with
   |nil=>rw[hb]at h2;cases h2
   |cons y r2=>rw[hb]at h2;injection h2 with h2 _;cases h2
 refine cQ (λσ' H'=>∃(zs:List Nat)(o9 o10 o11 o12:Option V),σ'=[oR a,oR g,oJ st,oJ (wi*hi),oR fq,oR sq,oJ c,oR cq,oR pq,o9,o10,o11,o12]/\H' sq=some (.lst (zs.map strV))/\zs.length=(wi*hi).toNat/\(∀(s c:Nat),zs[s]? =some c->fW ks c (if(s:Int)∈hs then 35 else 46)=true)/\SameBut sq H4 H') (λK' hK=>?_) ?_
 .refine sZ (λq' H'=>q'=pq/\H'=H4) (λQ q=>qW (v:=.ref pq) (ae rfl) (q _ _ ⟨rfl,rfl⟩)) ?_;rintro q' H' ⟨rfl,rfl⟩;refine⟨ss.map V.int,aN.of epq,λi σ' H''=>∃(zs:List Nat)(o9 o10 o11 o12:Option V),σ'=[oR a,oR g,oJ st,oJ (wi*hi),oR fq,oR sq,oJ c,oR cq,oR q',o9,o10,o11,o12]/\H'' sq=some (.lst (zs.map strV))/\zs.length=(wi*hi).toNat/\(∀(s c:Nat),zs[s]? =some c->fW ks c (if(s:Int)∈hs then 35 else 46)=true)/\SameBut sq H' H'',
   ⟨bareL (wi*hi).toNat hs,_,_,_,_,rfl,esq4,?_,?_,SameBut.refl _⟩,?_,?_,?_⟩
  .unfold bareL;rw[RT,Sx]
  .intro s c' h;unfold bareL at h;rw[RX]at h;cases hr:(List.range (wi*hi).toNat)[s]? with
   |none=>rw[hr]at h;cases h
   |some s'=>
    rw[hr]at h;have e1:s'=s:=by have:=Sd.mp hr;obtain⟨h1,h2⟩:=this;rw[TU]at h2;exact h2.symm
    subst e1;have h:(if(s':Int)∈hs then 35 else 46)=c':=by injection h
    rw[<-h];unfold fW
    by_cases m:(s':Int)∈hs
    .rw[NR m];rfl
    .rw[NQ m,NQ (by decide)];exact C0 (.inl rfl)
  .rintro i σ' H'' ⟨_,_,_,_,_,_,_,_,_,sb⟩;exact aN.of (sb _ _ epq npq)
  .rintro i x _ H5 t hx ⟨zs,o9,o10,o11,o12,rfl,e5,lz,gz,sb⟩ nt;obtain⟨z,hz,rfl⟩:=RW.mp (Sl hx);refine GU ah ?_;obtain⟨z0,z1,z2⟩:=AZ (hss z hz);have s6:=(ak.refl H5).upd (o:=.tup [.int (i:Int),.int z]) nt;generalize upd H5 t (HO.tup [V.int (i:Int),V.int z])=H6 at s6;have sb6:SameBut sq H' H6:=sb.trans s6.but;have ecs6:aN K H6 cq (cs.map V.int):=aN.of (sb6 _ _ (s4 _ _ ecs) ncq);have s06:=back H6 sb6;have e6:=s6 _ _ e5;show bj _ _ _ [oR a,oR g,oJ st,oJ (wi*hi),oR fq,oR sq,oJ c,oR cq,oR q',oJ (i:Int),oJ z,o11,o12] H6;obtain⟨n1,en1,_⟩:=ms (ns:=cs) (i:=(i:Int) % 6) (by omega) (by omega);refine aU (bK (aT (ae rfl) (a7 (ae rfl) ao (by decide)) (.inl ecs6) en1) (eE ao (bO (ae rfl) ao ⟨by decide,by decide⟩) (.inl ⟨by decide,by decide⟩))) ?_;generalize n1+4099*((i:Int) / 6)=more;obtain⟨kq,fk,ek⟩:=(G.same s06).kinds D;have kpos:(0:Int)<((ks.map strV).length:Int):=by rw[RT];omega
   obtain⟨kv,ekv,mkv⟩:=GI (xs:=ks.map strV) (i:=more / 64 % ((ks.map strV).length:Int)) (Uk _ (by omega)) (Ul _ kpos);obtain⟨k,hk,rfl⟩:=RW.mp mkv;refine aU (aT (bb (ae rfl) fk) (a7 (bO (ae rfl) ao ⟨by decide,by decide⟩) (cX (bb (ae rfl) fk) (.inl (aN.of ek))) kpos) (.inl (aN.of ek)) ekv) ?_;show tAsg _ _ _ [some (.ref a),some (.ref g),some (.int st),some (.int (wi*hi)),some (.ref fq),some (.ref sq),some (.int c),some (.ref cq),some (.ref q'),some (.int (i:Int)),some (.int z),some (.int more),some (strV k)] H6;obtain⟨v,ev,mv⟩:=GI (xs:=[strV (k - 32),strV k]) (i:=more / 512 % 2) (by omega) (by show _<(2:Int);omega);refine LB (l:=sq) (i:=z) (P:=λv H'=>ak H6 H'/\∃c,v=strV c/\(c∈ks\/c∈ks.map (· - 32))) (λQ q=>lc (aa (A4 (ae rfl) (hlt k hk)) (aa (ae rfl) aq)) (by show 2<=1000;decide) (λH'=>(a7 (bO (ae rfl) ao ⟨by decide,by decide⟩) ao (by decide))) ev (λH' s=>q _ _ ⟨s,?_⟩)) (λu H7 h=>?_)
   .simp only[RV,Sb,or_false]at mv
    rcases mv with rfl|rfl
    .exact⟨_,rfl,.inr (RW.mpr ⟨k,hk,rfl⟩)⟩
    .exact⟨_,rfl,.inl hk⟩
   .obtain⟨s7,c',rfl,hc'⟩:=h;refine⟨ae rfl,ae rfl,zs.map strV,s7 _ _ e6,z0,by rw[RT];omega,zs.set z.toNat c',_,_,_,_,rfl,?_,by rw[Sy];exact lz,λs c2 h2=>?_,(sb6.trans s7.but).self⟩
    .rw[ah,List.map_set]
    .by_cases hs2:s=z.toNat
     .subst hs2;rw[S0 (by omega)]at h2;cases h2;rw[NQ (by rw[Ux z0];exact z2)];unfold fW;rw[NQ (by decide)];exact C0 (.inr hc')
     .rw[S3 (λe=>hs2 e.symm)]at h2;exact gz s c2 h2
  .rintro σ' H'' h;exact hK _ _ h
 rintro _ H5 ⟨zs,o9,o10,o11,o12,rfl,e5,lz,gz,sb⟩;show cg _ _ [oR a,oR g,oJ st,oJ (wi*hi),oR fq,oR sq,oJ c,oR cq,oR pq,o9,o10,o11,o12] H5;refine GA ao (qW (ae rfl) (Ix e5 (by omega) (q _ _ ?_ (λs c' h=>gz s c' h) (back _ sb))));show zs.toArray.size=_;rw[RZ];exact lz
end
section
variable{P:N5}{w:N9}{K:Frag}{mg:NX}{np:Oe}{aS aA aE aW:VB}
theorem qm{f:VB}{fd:Oa}(F:cF K "_law_side" "_law_side" eQ f fd)(T:Txt mg aS aA aE aW):aY P w K mg np cK 1 f fd ["_law_sign"] lG:=by
 refine F.ok1 pD λcdv A xc s H vs Q E hr h=>?_;obtain⟨c,rfl,hc,k⟩:=h;have hu:=bF hr;refine⟨_,(af (aR (PW.pt (dZ (aL K hu (cv 0) bq) (cW (aL K hu (cv 0) bq)))) (aj (aB hV)) aF)
  (aj (aB (yZ oG vL T.int (az (jA K hu (cv 0) bq) pan))))),?_⟩
 show bj _ _ _ [oT (one c)] H;have e1:(one c=".")<->c=46:=⟨λz=>jS (b:=46) (z.trans (by decide+kernel)),λz=>by rw[z];decide+kernel⟩;have e2:(one c="#")<->c=35:=⟨λz=>jS (b:=35) (z.trans (by decide+kernel)),λz=>by rw[z];decide+kernel⟩;unfold bB at k;refine bg (fI (aZ (fS (ae rfl) ao)) (λ_=>(aZ (fS (ae rfl) ao)))) (λh=>?_) (λh=>?_)
 .refine aM ao ?_;rw[NR]at k
  .exact k
  .rw[UI]at h;exact h.imp (λz=>e1.mp (NS z)) (λz=>e2.mp (NS z))
 .rw[UN]at h;have n1:¬c=46:=λz=>NT h.1 (e1.mpr z);have n2:¬c=35:=λz=>NT h.2 (e2.mpr z);rw[NQ (by omega)]at k;refine aM (wS (IL (ae rfl) ao)) ?_;have:(if decide (c∈("abcdefghijklmnopqrstuvwxyz":Str).cps.toList)=true then(1:Int)else 0)=if 65<=c/\c<=90 then 0 else 1:=by
   unfold Sg at hc
   by_cases z:jF c
   .rw[NR (C0 (xh.mpr z)),NQ (by unfold jF at z;omega)]
   .rw[NQ (by rw[NP (λw=>z (xh.mp w))];decide),NR (by unfold jF at z;omega)]
  rw[this];exact k
end
section
variable{P:N5}{w:N9}{K:Frag}{mg:NX}{np:Oe}{aS aA aE aW:VB}
theorem uM{f:VB}{fd:Oa}(F:cF K "sign_of" "sign_of" gG f fd)(T:Txt mg aS aA aE aW):aY P w K mg np cK 1 f fd ["kind","side"] oU:=by
 refine F.ok1 ut λcdv A xc s H vs Q E hr h=>?_;obtain⟨c,sd,rfl,hc,q⟩:=h;have hu:=bF hr;refine⟨_,(aj (aB (de (aL K hu (cv 1) ag) (kP PySem.F.slot_str_upper PySem.F.type_str_upper uY (cv 0)) (cv 0)))),?_⟩;show cg _ _ [oT (one c),oJ sd] H;refine aM (mT (aZ (fT (ae rfl) ao)) (λ_=>A4 (ae rfl) hc) (λ_=>ae rfl)) ?_
 by_cases h:sd=0
 .rw[C0 h];rw[NR h]at q;exact q
 .rw[NP h];rw[NQ h]at q;exact q
theorem nz{f:VB}{fd:Oa}(F:cF K "squares_of" "squares_of" cR f fd)(T:Txt mg aS aA aE aW)(C:CP1 P w K mg np):aY P w K mg np cK 2 f fd ["row","side"] nQ:=by
 refine F.ok1 nv λcdv A xc s H vs Q E hr h=>?_;obtain⟨row,sd,rfl,hz,ha,q⟩:=h;have hu:=bF hr;refine⟨_,(aj (aB (fz (ck (N:=["square","sign","side"]) (src:=[none,none,some 1]) (al cR) ["row","side"]) (AF K T.enumerate (cv 0)) (λ_ _ _=>(Js K (n:=2) (bY (bi (i:=0) ["square","sign","side"]) (bY (bi (i:=1) ["square","sign","side"]) i6)))) (λ_ _ _=>(jR (aL K hu (aC C.side_of hr (az (cv 1) pan)) (cv 2)))) (λ_ _ _=>(cv 0))))),?_⟩;show tComp _ _ _ _ _ [oT row,oJ sd] H Q;refine Bk (z:=row) (rest:=[oJ sd]) (ae rfl) (by omega) rfl (λi c=>decide (bB c=.int sd)) (λi c=>.int (i:Int)) (λi c H' hc s R r=>?_) (λi c H' hc hp s=>ae rfl) (λH' d s hd=>?_)
 .refine wU (aa (ae rfl) aq) ⟨c,rfl,ha c (Sl hc),λH2 s2=>qW (v:=.int sd) (ae rfl) ?_⟩;rw[wf];exact r H2 s2
 .have e:C1 row.cps.toList (λi c=>decide (bB c=.int sd)) (λi c=>.int (i:Int)) row.length=(sqsOf row sd).map V.int:=by unfold C1 sqsOf;rw[R5];rfl
  rw[e];exact q d _ (s.free hd) ah (s.upd hd)
theorem Ao{f cB cG:VB}{fd:Oa}(F:cF K "moves" "moves" iY f fd)(T:Txt mg aS aA aE aW)(C:CMv P w K mg np cB cG):aY P w K mg np cK 6 f fd ["game","place"] (lF K cB cG):=by
 refine F.ok1 jK λcdv A xc s H vs Q E hr h=>?_;obtain⟨g,b,kq,p,row,sd,wi,hi,hs,ks,us,ts,es,st,rfl,G,hp,R,rl,k⟩:=h;have hu:=bF hr;have r64:=R.len;refine⟨_,(af (av 2 jK.nd (bI K (cv 1) ag))
  (af (av 3 jK.nd (bz pan))
  (af (gw Oy rfl (wE K (aC C.squares_of hr (az (cv 2) (az (bI K (cv 1) ag) pan)))) (bC 4 jK.nd) (aj (fF (Bn (cv 3) (fz (ck (N:=["pair","start"]) (src:=[none,some 4]) (al iY) ["game","place","row","found","start"]) (wE K (aC C.goals hr (az (cv 0) (az (cv 2) (az (cv 4) pan))))) (λ_ _ _=>(bi (i:=0) ["pair","start"])) (λ_ _ _=>bL) (λ_ _ _=>(fj (az (cv 1) (az (bI K (cv 0) ag) (az (bI K (cv 0) ag) pan))))))))))
  (aj (aB (cv 3)))))),?_⟩
 show bj _ _ _ [oR g,oR p,none,none,none] H;refine aU (aT (x:=.str row) (ae rfl) ao (.inr hp) rfl) ?_;refine jt λq hq=>?_;have sm:ak H (upd H q (.lst [])):=(ak.refl H).upd hq;show bj _ _ _ [oR g,oR p,oT row,oR q,none] _;refine cQ (λσ' H'=>(∃o,σ'=[oR g,oR p,oT row,oR q,o])/\(∃m,ke wi hi hs row us sd (sqsOf row sd) m/\m.length<=4096/\xi H H' q m)/\ak H H') (λK' hK=>?_) ?_
 .refine j2 (λv H'=>∃d,v=.ref d/\H' d=some (.lst ((sqsOf row sd).map V.int))/\d≠q/\ak (upd H q (.lst [])) H') (λQ z=>?_) ?_
  .refine bR (aa (ae rfl) (aa (aT (x:=.int sd) (ae rfl) ao (.inr (sm.tupY hp)) rfl) aq)) ⟨row,sd,rfl,by omega,R.asc,λd H' d1 d2 d3=>z _ _ ⟨d,rfl,d2,λe=>?_,d3⟩⟩;rw[e,ah]at d1;cases d1
  .rintro _ H1 ⟨d,rfl,hd,ndq,s1'⟩;refine⟨d,(sqsOf row sd).map V.int,rfl,aN.of hd,λi σ' H'=>(∃o,σ'=[oR g,oR p,oT row,oR q,o])/\(∃m,ke wi hi hs row us sd ((sqsOf row sd).take i) m/\m.length<=64*i/\xi H H' q m)/\ak H H'/\H' d=some (.lst ((sqsOf row sd).map V.int)),⟨⟨_,rfl⟩,⟨[],.nil,TZ _,[],rfl,s1' _ _ ah,λ_ z=>nomatch z⟩,sm.trans s1',hd⟩,?_,?_,?_⟩
   .rintro i σ' H' _ ⟨_,_,_,h⟩;exact aN.of h
   .rintro i x _ H2 hx ⟨⟨o,rfl⟩,⟨m,hm,ml,ps,p1,p2,p3⟩,s2,hd2⟩;have hi':i<(sqsOf row sd).length:=by
     have:=(Sd.mp hx).1
     rwa[RT]at this
    obtain rfl:x=.int (sqsOf row sd)[i]:=by rw[RX,RU hi']at hx;exact(NV hx).symm
    have tk:(sqsOf row sd).take (i+1)=(sqsOf row sd).take i++[(sqsOf row sd)[i]]:=by rw[Tx hi']
    obtain⟨z0,z1,z2⟩:=iW (Se hi');have i64:i<64:=T2 hi' (T0 nP r64);generalize(sqsOf row sd)[i]=sq at tk z0 z1 z2;show jf _ _ [oR g,oR p,oT row,oR q,oJ sq] H2;refine GW (ae rfl) p2 (C4 (aa (ae rfl) (aa (ae rfl) (aa (ae rfl) aq))) (CN (G.same s2) R rl z0 z1 z2 λl' t H3 hg l64 ht hP s3=>?_).1);obtain⟨ps2,g1,g2,g3⟩:=hP;refine⟨t,rfl,⟨_,aN.of g2⟩,BK s3 g1 g2 (λp hp=>(g3 p hp).2) l64 rfl (λa x y H' Q' ha q'=>zj (ae rfl) (aT (x:=.int x) (ae rfl) ao (.inr (cJ.of ha)) rfl) (aT (x:=.int y) (ae rfl) ao (.inr (cJ.of ha)) rfl) q') (λd' H4 ps3 s4 hd' e1 e2=>?_)⟩;have sF:ak H2 (upd H4 d' (.lst (kRefs ps3))):=(s3.trans s4).upd hd';have y1:=NW List.length p1;have y2:=NW List.length e1;rw[RT]at y1;rw[RT,RT]at y2;refine⟨d',_,_,rfl,sF _ _ p2,ah,by rw[RT,RT,Oc];omega,⟨_,rfl⟩,⟨_,?_,?_,BO p1 (λxs w=>by rw[sF _ _ p2]at w;cases w) (λp hp=>⟨(p3 p hp).1,sF _ _ (p3 p hp).2⟩) s2 e1 (λp hp=>⟨(e2 p hp).1,?_⟩)⟩,(s2.trans sF).put hq,?_⟩
    .rw[tk];exact ke.add hg hm
    .rw[R9,RT];omega
    .rw[au (aw (e2 p hp).2 hd')];exact(e2 p hp).2
    .rw[au ndq];exact sF _ _ hd2
   .rintro σ' H' ⟨o,⟨m,hm,ml,hT⟩,s2,_⟩;rw[RT,SX]at hm;rw[RT]at ml;have:=nP (row:=row) (sd:=sd);exact hK _ _ ⟨o,⟨m,hm,by omega,hT⟩,s2⟩
 .rintro _ H1 ⟨⟨o,rfl⟩,⟨m,hm,ml,hT⟩,s2⟩;exact aM (ae rfl) (k m q H1 hm ml hq hT s2)
end
section
variable{P:N5}{w:N9}{K:Frag}{mg:NX}{np:Oe}{aS aA aE aW:VB}
theorem lu{f:VB}{fd:Oa}(F:cF K "number_text" "number_text" c7 f fd)(T:Txt mg aS aA aE aW):aY P w K mg np cK 1 f fd ["number"] vY:=by
 refine F.ok1 dD λcdv A xc s H vs Q E hr h=>?_;obtain⟨n,rfl,h0,h1,k⟩:=h;have hu:=bF hr;refine⟨_,(af (aR (aL K hu (cv 0) ag) nZ aF)
  (af (av 1 dD.nd (am ag ag))
  (af (av 2 dD.nd (bz pan))
  (af (av 3 dD.nd (cv 0))
  (af (sy Oy (aL K hu (cv 3) (cv 1)) nZ)
  (af (fF (jD (cv 2) (G3 yJ qR T.str (pa_cons (cv 3) pan))))
  (aj (aB (kjr K T.reversed bq (cv 2)))))))))),?_⟩
 show bj _ _ _ [oJ n,none,none,none] H
 walk_at "rd"
 rw[NP (by omega:¬n<0)];refine iJ ⟨⟨by decide,by decide,by decide⟩,?_⟩;simp only[uf,cL];refine⟨TZ _,λp hp=>?_⟩;refine⟨λm σ' H'=>m=0/\σ'=[oJ n,oJ (10 ^ (60:Int).toNat),oR p,oJ n]/\H'=upd H p (.lst []),⟨0,rfl,rfl,rfl⟩,?_⟩;rintro m σ' H' ⟨rfl,rfl,rfl⟩
 walk_at "rd"
 have hlt:¬((10:Int) ^ (60:Int).toNat<=n):=by
  have e:(10:Int) ^ (60:Int).toNat=10 ^ 60:=by decide
  rw[e];omega
 rw[NP hlt];simp only[UE,if_false];simp only[Bs,eF,Tz,TB,ah];refine⟨⟨_,rfl⟩,?_⟩;have hlog:n.natAbs.log2<1920:=by
  have hz:n.natAbs<2 ^ 200:=by
   have:(10:Nat) ^ 60<2 ^ 200:=by decide
   omega
  by_cases hz0:n.natAbs=0
  .rw[hz0];decide
  .have:=(Nat.log2_lt hz0).mpr hz;omega
 refine⟨hlog,[],ah,by decide,?_⟩;refine⟨[OG (toString n)],aN.of ah,?_,?_⟩
 .have:=PyProof.Rows.toString_length_le h0 (by decide) h1;show(OG (toString n)).length+0+1*0<=16777216;omega
 .show Q (.str (OG (toString n))) _;refine k _ ?_;rw[BN];exact(ak.refl H).upd hp
structure CSq(P:N5)(w:N9)(K:Frag)(mg:NX)(np:Oe):Prop where
 number_text:cy P w K mg np "number_text" ["number"] 1 vY
 column_of:cy P w K mg np "column_of" ["wide","square"] 1 wd
 row_of:cy P w K mg np "row_of" ["wide","square"] 1 rh
theorem mx{f:VB}{fd:Oa}(F:cF K "square_text" "square_text" cZ f fd)(T:Txt mg aS aA aE aW)(C:CSq P w K mg np):aY P w K mg np cK 2 f fd ["wide","square"] re:=by
 refine F.ok1 l9 λcdv A xc s H vs Q E hr h=>?_;obtain⟨wi,sq,rfl,w1,w8,s0,s8,q⟩:=h;have hu:=bF hr;have m0:=Uk sq (by omega:wi≠0);have m1:=Ul sq (by omega:0<wi);have d0:0<=sq / wi:=Us s0 (by omega);have big:(10:Int)<10 ^ 60:=by decide
 refine⟨_,(aj (aB (am (bI K (kg T.COLUMNS) (aC C.column_of hr (az (cv 0) (az (cv 1) pan)))) (aC C.number_text hr (az (am (aC C.row_of hr (az (cv 0) (az (cv 1) pan))) ag) pan))))),?_⟩;show cg _ _ [oJ wi,oJ sq] H;refine fc (lh ((cf (z:="abcdefghijklmnopqrstuvwxyz") ao (aH (sp:=wd) (x:=.int (sq % wi)) (aa (ae rfl) (aa (ae rfl) aq)) (λQ qq=>⟨wi,sq,rfl,by omega,qq⟩)) (by decide+kernel) (BA m0 (by omega))) _ (bR (aa (bK (aH (sp:=rh) (x:=.int (sq / wi)) (aa (ae rfl) (aa (ae rfl) aq)) (λQ qq=>⟨wi,sq,rfl,by omega,by omega,qq⟩)) ao) aq) ⟨_,rfl,by omega,by omega,λH' s'=>?_⟩)));rw[An d0 s8];refine⟨by show 1+1<=v1;decide,?_⟩;rw[Dj];exact q H' s'
structure CMt(P:N5)(w:N9)(K:Frag)(mg:NX)(np:Oe):Prop where
 square_text:cy P w K mg np "square_text" ["wide","square"] 2 re
theorem qe{f cB cG:VB}{fd:Oa}(F:cF K "move_text" "move_text" eM f fd)(T:Txt mg aS aA aE aW)(B:iT K cB)(D:vS K cG)(C:CMt P w K mg np):aY P w K mg np cK 3 f fd ["game","move"] (lY K cB cG):=by
 refine F.ok1 fC λcdv A xc s H vs Q E hr h=>?_;obtain⟨g,b,mv,wi,hi,hs,ks,rs,ts,es,st,s,gl,t,rfl,G,O,em,s0,s1,g0,g1,t01,k⟩:=h;have hu:=bF hr;have w1:=O.w1;have w8:=O.w8;have h8:=O.h8;refine⟨_,(af (av 2 fC.nd (cC K (cC K (cv 0))))
  (af (av 3 fC.nd (aC C.square_text hr (az (cv 2) (az (bI K (cv 1) ag) pan))))
  (af (av 4 fC.nd (aC C.square_text hr (az (cv 2) (az (bI K (cv 1) ag) pan))))
  (af (aR (aL K hu (bI K (cv 1) ag) (kg T.NOTHING)) (aj (aB (am (am (cv 3) bq) (cv 4)))) aF)
  (af (aR (aL K hu (bI K (cv 1) ag) (bI K (cv 1) ag)) (aj (aB (am (am (cv 3) bq) (cv 4)))) aF)
  (aj (aB (am (am (am (am (cv 3) bq) (aC C.square_text hr (az (cv 2) (az (bI K (cv 1) ag) pan)))) bq) (cv 4))))))))),?_⟩
 show bj _ _ _ [oR g,oR mv,none,none,none] H;have lx:("x":Str).length=1:=by decide+kernel
 have ld:("-":Str).length=1:=by decide+kernel
 have i0:∀(σ:St)(H':Hp),σ[1]? =some (some (V.ref mv))->ak H H'->Ev (tK K (eF 1) (tC (.int 0))) σ H' (.int s):=λσ H' h s'=>aT (ae h) ao (.inr (cJ.of (s' _ _ em))) rfl;have i1:∀(σ:St)(H':Hp),σ[1]? =some (some (V.ref mv))->ak H H'->Ev (tK K (eF 1) (tC (.int 1))) σ H' (.int gl):=λσ H' h s'=>aT (ae h) ao (.inr (cJ.of (s' _ _ em))) rfl;have i2:∀(σ:St)(H':Hp),σ[1]? =some (some (V.ref mv))->ak H H'->Ev (tK K (eF 1) (tC (.int 2))) σ H' (.int t):=λσ H' h s'=>aT (ae h) ao (.inr (cJ.of (s' _ _ em))) rfl;refine aU (bb (bb (ae rfl) (G.board D)) (O.wide B)) ?_;refine bJ (λv H'=>v=.str (vX wi s)/\ak H H') (λQ q=>bR (aa (ae rfl) (aa (i0 _ _ rfl (ak.refl H)) aq)) ⟨wi,s,rfl,w1,w8,s0,uB w1 h8 s1,λH' s'=>q _ _ ⟨rfl,s'⟩⟩) ?_;rintro _ H1 ⟨rfl,sa⟩;refine bJ (λv H'=>v=.str (vX wi gl)/\ak H1 H') (λQ q=>bR (aa (ae rfl) (aa (i1 _ _ rfl sa) aq)) ⟨wi,gl,rfl,w1,w8,g0,uB w1 h8 g1,λH' s'=>q _ _ ⟨rfl,s'⟩⟩) ?_;rintro _ H2 ⟨rfl,sb⟩;have s2:=sa.trans sb;show bj _ _ _ [oR g,oR mv,oJ wi,oT (vX wi s),oT (vX wi gl)] H2;refine bg (aZ (fT (i2 _ _ rfl s2) ao)) (λh=>?_) (λh=>?_)
 .have e:=NS h;refine aM (ia (ia (ae rfl) ao (by rw[cH,ld];decide)) (ae rfl) (by rw[eX,cH,cH,ld];decide)) ?_;have:=k H2 s2;unfold yY at this
  rwa[NR e]at this
 .have e:=NT h;refine bg (aZ (fT (i2 _ _ rfl s2) (i1 _ _ rfl s2))) (λh=>?_) (λh=>?_)
  .have e2:=NS h;refine aM (ia (ia (ae rfl) ao (by rw[cH,lx];decide)) (ae rfl) (by rw[eX,cH,cH,lx];decide)) ?_;have:=k H2 s2;unfold yY at this
   rwa[NQ e,NR e2]at this
  .have e2:=NT h;have t2:0<=t/\t<wi*hi:=by rcases t01 with z|z;exact NU z e;exact z
   refine fc (lh (lh (lh ((ia (ae rfl) ao (by rw[cH,lx];decide)) _ (bR (aa (ae rfl) (aa (i2 _ _ rfl s2) aq)) ⟨wi,t,rfl,w1,w8,t2.1,uB w1 h8 t2.2,λH3 s3=>⟨?_,ao _ ⟨?_,(show Ev (eF 4) _ _ (.str (vX wi gl))from ae rfl) _ ⟨?_,?_⟩⟩⟩⟩)))))
   .rw[eX,cH,cH,lx];decide
   .rw[eX,eX,cH,cH,lx,ld];decide
   .rw[eX,eX,eX,cH,cH,cH,lx,ld];decide
   .have:=k H3 (s2.trans s3);unfold yY at this
    rwa[NQ e,NQ e2]at this
end
section
variable{P:N5}{w:N9}{K:Frag}{mg:NX}{np:Oe}{aS aA aE aW:VB}
theorem kJ{f cB:VB}{fd:Oa}(F:cF K "far_row" "Board.far_row" cA f fd)(T:Txt mg aS aA aE aW)(B:iT K cB):aY P w K mg np cK 1 f fd ["self","side"] (Gx K cB):=by
 refine F.ok1 kE λcdv A xc s H vs Q E hr h=>?_;obtain⟨p,wi,hi,hs,sd,rfl,O,q⟩:=h;have hu:=bF hr;refine⟨_,(aj (aB (de (aL K hu (cv 1) ag) (am (cC K (cv 0)) ag) ag))),?_⟩;show cg _ _ [oR p,oJ sd] H;refine aM (mT (aZ (fT (ae rfl) ao)) (λ_=>eC (bb (ae rfl) (O.high B)) ao) (λ_=>ao)) ?_;unfold farI at q
 by_cases h:sd=0
 .rw[C0 h];rw[NR h]at q;exact q
 .rw[NP h];rw[NQ h]at q;exact q
theorem Ii{f:VB}{fd:Oa}(F:cF K "put" "put" rM f fd)(T:Txt mg aS aA aE aW):aY P w K mg np cK 1 f fd ["row","square","sign"] Gv:=by
 refine F.ok1 HC λcdv A xc s H vs Q E hr h=>?_;obtain⟨row,sq,c,rfl,s0,hz,q⟩:=h;have hu:=bF hr;have z1:row.length<=v1:=T0 hz (by decide);have l1:=mY row none (some sq);have l2:=mY row (some (sq+1)) none;have l3:(jB row none (some sq)++one c).length=(jB row none (some sq)).length+1:=by rw[dC,dg,R9,<-dC];rfl
 refine⟨_,(aj (aB (am (am (CF K (cv 0) gk (eJ (cv 1))) (cv 2)) (CF K (cv 0) (eJ (am (cv 1) ag)) gk)))),?_⟩;show cg _ _ [oT row,oJ sq,oT (one c)] H;refine aM (ia (ia (GX (ae rfl) n4 (k5 (ae rfl)) z1) (ae rfl) ?_) (GX (ae rfl) (k5 (bK (ae rfl) ao)) n4 z1) ?_) q
 .show _+1<=v1;rw[Oc];omega
 .rw[l3,Oc];omega
theorem mC{f cG:VB}{fd:Oa}(F:cF K "turned" "Game.turned" da f fd)(T:Txt mg aS aA aE aW)(D:vS K cG):aY P w K mg np cK 1 f fd ["self","kind"] (rc cG):=by refine F.ok1 mi λcdv A xc s H vs Q E hr h=>?_;obtain⟨g,b,kd,ks,rs,es,ts,st,rfl,G,hp,h6,k⟩:=h;have hu:=bF hr;obtain⟨qt,ft,ht⟩:=G.turns D;refine⟨_,(aj (aB (GR K (yZ (AG K hr) xf T.dict (az (cC K (cv 0)) pan)) (az (cv 1) (az (cv 1) pan))))),?_⟩;show cg _ _ [oR g,oT kd] H;exact fc (Bf (bb (ae rfl) ft) (aN.of ht) hp (by omega) (λH' s=>aa (ae rfl) (aa (ae rfl) aq)) k)
theorem uW{f cB cG:VB}{fd:Oa}(F:cF K "arrived" "arrived" gT f fd)(T:Txt mg aS aA aE aW)(B:iT K cB)(D:vS K cG)(C:CD1 P w K mg np cB cG):aY P w K mg np cK 2 f fd ["game","sign","side","goal"] (Gy K cB cG):=by
 refine F.ok1 uz λcdv A xc s H vs Q E hr h=>?_;obtain⟨g,b,kq,c,sd,gl,wi,hi,hs,ks,us,ts,es,st,rfl,G,hc,k⟩:=h;have hu:=bF hr;have w1:=G.bd.w1;have w8:=G.bd.w8;obtain⟨lk,c128,cn⟩:=i7 G.ltr hc;refine⟨_,(af (aR (aL K hu (aC C.row_of hr (az (cC K (cC K (cv 0))) (az (cv 3) pan))) (oo C.Board_far_row hr (cC K (cv 0)) (az (cv 2) pan))) (aj (aB (cv 1))) aF)
  (aj (aB (aC C.sign_of hr (az (oo C.Game_turned hr (cv 0) (az (aC C.kind_of hr (az (cv 1) pan)) pan)) (az (cv 2) pan)))))),?_⟩
 show bj _ _ _ [oR g,oT (one c),oJ sd,oJ gl] H;have fb:=G.gm.board D;unfold arrN at k;refine bg (aZ (jk (aH (x:=.int (gl / wi)) (aa (bb (bb (ae rfl) fb) (G.bd.wide B)) (aa (ae rfl) aq)) (λQ q=>⟨wi,gl,rfl,by omega,by omega,q⟩)) (lN (x:=.int (farI hi sd)) (bb (ae rfl) fb) G.bd.no (aa (ae rfl) aq) (λQ q=>⟨b,wi,hi,hs,sd,rfl,G.bd,q⟩)))) (λh=>?_) (λh=>?_)
 .have h:¬gl / wi=farI hi sd:=NT (by rw[<-UG];exact h);rw[NQ h]at k;exact aM (ae rfl) (k _ (ak.refl H))
 .have h:gl / wi=farI hi sd:=NS (by rw[UO]at h;exact h);rw[NR h]at k;obtain⟨c',hc',et⟩:=jG G.tg lk;rw[et]at k;have ek:lf c=.str (one (PyProof.Rows.lo1 c)):=by unfold lf;rw[NQ cn]
  refine fc (qQ (gr (CC (ae rfl) G.gm.no (gr (bR (aa (ae rfl) aq) ⟨c,rfl,c128,λH1 s1=>?_⟩)))));rw[ek];refine jU ⟨g,b,one (PyProof.Rows.lo1 c),ks.map strV,cj us,bp es,ts,st,rfl,(G.same s1).gm,(G.same s1).tt,G.tg.len,λH2 s2=>?_⟩;rw[et];exact jC (ae rfl) (jU ⟨c',sd,rfl,G.ltr c' hc',k _ (s1.trans s2)⟩)
theorem ya{f cB cG:VB}{fd:Oa}(F:cF K "behind" "behind" iD f fd)(T:Txt mg aS aA aE aW)(C:CD2 P w K mg np cB cG):aY P w K mg np cK 3 f fd ["game","place","move"] (rE K cB cG):=by
 refine F.ok1 dj λcdv A xc s H vs Q E hr h=>?_;obtain⟨g,b,kq,p,mv,row,sd,s,gl,t,wi,hi,hs,ks,us,ts,es,st,rfl,G,hp,hm,R,s0,s1,hsd,g0,g1,ht,k⟩:=h;have hu:=bF hr;have mm:=G.bd.many;have rl:=R.len;have RG:=R.g G.ltr mm.2;have r64:=RG.len;obtain⟨x1,x2⟩:=RG.toRowS.at s0 s1;have cc:row.cps.toList.getD s.toNat 0∈ks\/row.cps.toList.getD s.toNat 0∈ks.map (· - 32):=by
  have hlt:s.toNat<row.cps.toList.length:=by have:row.length=row.cps.toList.length:=rfl;omega
  have e:row.cps.toList[s.toNat]? =some (row.cps.toList.getD s.toNat 0):=by rw[RY,RU hlt];rfl
  have n:=R.at_ _ _ e;have hsd:bB (row.cps.toList.getD s.toNat 0)=.int sd:=hsd
  rcases fV n with⟨_,h⟩|⟨_,h|h⟩
  .rw[h]at hsd;cases hsd
  .rw[h]at hsd;cases hsd
  .exact h
 refine⟨_,(af (av 3 dj.nd (bI K (cv 1) ag))
  (af (av 4 dj.nd (bI K (cv 2) ag))
  (af (av 5 dj.nd (bI K (cv 2) ag))
  (af (av 6 dj.nd (bI K (cv 2) ag))
  (af (av 7 dj.nd (aC C.arrived hr (az (cv 0) (az (bI K (bI K (cv 1) ag) (cv 4)) (az (cv 3) (az (cv 5) pan))))))
  (af (av 8 dj.nd (aC C.put hr (az (bI K (cv 1) ag) (az (cv 4) (az (kg T.EMPTY) pan)))))
  (af (aR (aL K hu (cv 6) (kg T.NOTHING)) (aj (av 8 dj.nd (aC C.put hr (az (cv 8) (az (cv 6) (az (kg T.EMPTY) pan)))))) aF)
  (aj (aB (fj (az (aC C.put hr (az (cv 8) (az (cv 5) (az (cv 7) pan)))) (az (am ag (cv 3)) pan)))))))))))),?_⟩
 show bj _ _ _ [oR g,oR p,oR mv,none,none,none,none,none,none] H;refine aU (aT (x:=.int sd) (ae rfl) ao (.inr hp) rfl) ?_;refine aU (aT (x:=.int s) (ae rfl) ao (.inr hm) rfl) ?_;refine aU (aT (x:=.int gl) (ae rfl) ao (.inr hm) rfl) ?_;refine aU (aT (x:=.int t) (ae rfl) ao (.inr hm) rfl) ?_;refine bJ (λv H'=>v=.str (one (arrN ts wi hi (row.cps.toList.getD s.toNat 0) sd gl))/\ak H H') (λQ q=>?_) ?_
 .exact bR (aa (ae rfl) (aa (cf (aT (x:=.str row) (ae rfl) ao (.inr hp) rfl) (ae rfl) (by rw[Oc];omega) x1) (aa (ae rfl) (aa (ae rfl) aq)))) ⟨g,b,kq,_,sd,gl,wi,hi,hs,ks,us,ts,es,st,rfl,G,cc,λH' s=>q _ _ ⟨rfl,s⟩⟩
 rintro _ H1 ⟨rfl,s1'⟩;refine aU (aH (x:=.str (fg row s (one 46))) (aa (aT (x:=.str row) (ae rfl) ao (.inr (s1'.tupY hp)) rfl) (aa (ae rfl) (aa (A5 ao) aq))) (λQ q=>⟨row,s,46,rfl,s0,by omega,q⟩)) ?_;have l1:=gU (c:=46) s0 s1;refine gf (λσ' H'=>H'=H1/\σ'=[oR g,oR p,oR mv,oJ sd,oJ s,oJ gl,oJ t,oT (one (arrN ts wi hi (row.cps.toList.getD s.toNat 0) sd gl)),oT (if t= -1 then fg row s (one 46)else fg (fg row s (one 46)) t (one 46))]) ?_ (λgo=>?_)
 rotate_left
 .refine bg (aZ (jk (ae rfl) ao)) (λh=>?_) (λh=>?_)
  .have h:¬t= -1:=NT (by rw[<-UG];exact h);refine iV (aH (x:=.str (fg (fg row s (one 46)) t (one 46))) (aa (ae rfl) (aa (ae rfl) (aa (A5 ao) aq))) (λQ q=>⟨_,t,46,rfl,by omega,by rw[l1];omega,q⟩)) ?_;refine go [oR g,oR p,oR mv,oJ sd,oJ s,oJ gl,oJ t,oT (one (arrN ts wi hi (row.cps.toList.getD s.toNat 0) sd gl)),oT (fg (fg row s (one 46)) t (one 46))] H1 ⟨rfl,?_⟩;rw[NQ h]
  .have h:t= -1:=NS (by rw[UO]at h;exact h);refine go [oR g,oR p,oR mv,oJ sd,oJ s,oJ gl,oJ t,oT (one (arrN ts wi hi (row.cps.toList.getD s.toNat 0) sd gl)),oT (fg row s (one 46))] H1 ⟨rfl,?_⟩;rw[NR h]
 rintro _ _ ⟨rfl,rfl⟩;have l2:(if t= -1 then fg row s (one 46)else fg (fg row s (one 46)) t (one 46)).length=row.length:=by
  split
  .exact l1
  .rw[gU (by omega) (by rw[l1];omega),l1]
 refine fc (lQ (aH (x:=.str (dU ts wi hi row sd s gl t)) (aa (ae rfl) (aa (ae rfl) (aa (ae rfl) aq))) (λQ q=>⟨_,gl,_,rfl,g0,by rw[l2];omega,q⟩)) (eC ao (ae rfl)) λq hq=>k q _ (s1'.free hq) ah (s1'.upd hq))
structure CDn(P:N5)(w:N9)(K:Frag)(mg:NX)(np:Oe)(cB cG:VB):Prop where
 moves:cy P w K mg np "moves" ["game","place"] 6 (lF K cB cG)
 behind:cy P w K mg np "behind" ["game","place","move"] 3 (rE K cB cG)
theorem Cr{f cB cG:VB}{fd:Oa}(F:cF K "done" "done" mn f fd)(T:Txt mg aS aA aE aW)(C:CDn P w K mg np cB cG):aY P w K mg np cK 7 f fd ["game","place","move"] (zC K cB cG):=by
 refine F.ok1 B1 λcdv A xc s H vs Q E hr h=>?_;obtain⟨g,b,kq,p,mv,row,sd,wi,hi,hs,ks,us,ts,es,st,x,m,rfl,M,hx,k⟩:=h;have hu:=bF hr;have mm:=M.gs.bd.many;have rlen:=M.rk.len;have rl:(row.length:Int)=wi*hi:=by rw[rlen];omega
 refine⟨_,(af (aR (LV K hu (cv 2) (aC C.moves hr (az (cv 0) (az (cv 1) pan)))) (aj dJ) aF)
  (aj (aB (aC C.behind hr (az (cv 0) (az (cv 1) (az (cv 2) pan))))))),?_⟩
 show bj _ _ _ [oR g,oR p,oR mv] H;refine cr (λb H'=>b=false/\ak H H') (λR z=>Hn ((show Ev (eF 2) _ _ (.ref mv)from ae rfl) _ (bR (aa (ae rfl) (aa (ae rfl) aq)) ⟨g,b,kq,p,row,sd,wi,hi,hs,ks,us,ts,es,st,rfl,M.gs,M.pl,M.rk.g M.gs.ltr mm.2,rl,λm' q H' h1 h2 h3 h4 h5=>?_⟩))) (λH' w=>nomatch w.1) (λH1 w=>?_)
 .obtain⟨ps,p1,p2,p3⟩:=h4;have e:=M.mvs.uniq h1;subst e;exact⟨x,ps,h5 _ _ M.tv,aN.of p2,λp hp=>(p3 p hp).2,z _ _ ⟨by rw[p1,C0 hx];rfl,h5⟩⟩
 obtain⟨s,gl,t,rfl,O⟩:=M.mvs.ok M.gs.bd.w1 (λ_ hy=>iW hy) x hx;have M1:=M.same w.2;refine fc (bR (aa (ae rfl) (aa (ae rfl) (aa (ae rfl) aq))) ⟨g,b,kq,p,mv,row,sd,s,gl,t,wi,hi,hs,ks,us,ts,es,st,rfl,M1.gs,M1.pl,cJ.of M1.tv,M.rk,O.s0,O.s1,O.sd,O.g0,by rw[rl];exact O.g1,?_,λq H' h1 h2 h3=>k q H' (w.2.free h1) h2 (w.2.trans h3)⟩)
 rcases O.tk with e|⟨a,b,_⟩
 .exact .inl e
 .exact .inr ⟨a,by rw[rl];exact b⟩
end
section
variable{P:N5}{w:N9}{K:Frag}{mg:NX}{np:Oe}{aS aA aE aW:VB}
theorem qv{f cB:VB}{fd:Oa}(F:cF K "has" "Board.has" eU f fd)(T:Txt mg aS aA aE aW)(B:iT K cB)(C:CA P w K mg np):aY P w K mg np cK 3 f fd ["self","square"] (Gw K cB):=by
 refine F.ok1 pE λcdv A xc s H vs Q E hr h=>?_;obtain⟨p,wi,hi,hs,sq,rfl,O,k⟩:=h;have hu:=bF hr;obtain⟨pf,ff,hf⟩:=O.firm B;have mm:=O.many;have hl:(((firmL wi hi hs).map V.bl).length:Int)=wi*hi:=by rw[RT,A3];omega
 refine⟨_,(aj (aB (dP (aC C.is_among hr (az (cv 1) (az ag (az (am (kB (gB K) bP T.len (az (cC K (cv 0)) pan)) ag) pan)))) (fm (bI K (cC K (cv 0)) (cv 1)))))),?_⟩;show cg _ _ [oR p,oJ sq] H;refine aM (cO (b:= !decide (sq∈hs)) (aH (aa (ae rfl) (aa ao (aa (eC (cX (bb (ae rfl) ff) (.inl (aN.of hf))) ao) aq))) (λQ q=>⟨sq,0,_,rfl,q⟩)) (λh=>?_)) ?_
 .have h:=NS h;rw[hl]at h;exact aT (bb (ae rfl) ff) (ae rfl) (.inl (aN.of hf)) (wQ h.1 (by omega))
 .rw[hl];have e:(decide (0<=sq/\sq<=wi*hi - 1)&& !decide (sq∈hs))=decide (0<=sq/\sq<wi*hi/\¬sq∈hs):=by
   rw[UF];simp only[UD,decide_eq_true_eq,UG,decide_eq_false_iff_not]
   constructor
   .rintro⟨⟨a,b⟩,c⟩;exact⟨a,by omega,c⟩
   .rintro⟨a,b,c⟩;exact⟨⟨a,by omega⟩,c⟩
  show Q (.bl (decide (0<=sq/\sq<=wi*hi - 1)&& !decide (sq∈hs))) H;rw[e];exact k
theorem qg{f cB:VB}{fd:Oa}(F:cF K "empty_row" "empty_row" dk f fd)(T:Txt mg aS aA aE aW)(B:iT K cB)(C:CP2 P w K mg np cB):aY P w K mg np cK 4 f fd ["board"] (wc K cB):=by
 refine F.ok1 pr λcdv A xc s H vs Q E hr h=>?_;obtain⟨p,wi,hi,hs,rfl,O,k⟩:=h;have hu:=bF hr;have mm:=O.many;have fw:=O.wide B;have fh:=O.high B;have w8:=O.w8;have w1:=O.w1;refine⟨_,(aj (aB (ksm PySem.F.slot_str_join PySem.F.type_str_join (GP K) bq (az (fz (ck (N:=["square","board"]) (src:=[none,some 0]) (al dk) ["board"]) (AE T.range (az (am (cC K (cv 0)) (cC K (cv 0))) pan)) (λ_ _ _=>(bi (i:=0) ["square","board"])) (λ_ _ _=>bL) (λ_ _ _=>(de (bG (oo C.Board_has hr (cv 1) (az (cv 0) pan))) (kg T.EMPTY) (kg T.HOLE)))) pan)))),?_⟩;show cg _ _ [oR p] H;refine GA ao ?_;refine iP (n:=wi*hi) (rest:=[oR p]) (aa (eE (bb (ae rfl) fw) (bb (ae rfl) fh) (.inl ⟨by omega,by omega⟩)) aq) (by omega) (by rw[Oc];omega) (by omega) rfl (λ_=>true)
  (λx=>match x with| .int i=>if i∈hs then .str (one 35)else .str (one 46)|_=>.non) (λi hi=>cP) (λi hi' _=>?_) (λd hd=>?_)
 .have e:(if decide (0<=0+(i:Int)/\0+(i:Int)<wi*hi/\¬(0+(i:Int))∈hs)=true then V.str (one 46)else V.str (one 35))=(if 0+(i:Int)∈hs then V.str (one 35)else V.str (one 46)):=by
   by_cases m:0+(i:Int)∈hs
   .rw[NR m,NQ (by rw[decide_eq_true_eq];exact λz=>z.2.2 m)]
   .rw[NQ m,NR (by rw[decide_eq_true_eq];exact⟨by omega,by omega,m⟩)]
  show Ev _ _ _ (if 0+(i:Int)∈hs then V.str (one 35)else V.str (one 46));rw[<-e];exact mT (aZ (lN (p:=p) (ae rfl) O.no (aa (ae rfl) aq) (λQ q=>⟨p,wi,hi,hs,_,rfl,O,q⟩))) (λ_=>vv) (λ_=>qF)
 .have e:(((List.range (wi*hi).toNat).map λ(i:Nat)=>V.int (0+(i:Int))).filter λ_=>true).map (λx=>match x with| .int i=>if i∈hs then V.str (one 35)else V.str (one 46)|_=>.non)=(((List.range (wi*hi).toNat).map λ(s:Nat)=>if(s:Int)∈hs then 35 else 46).map one).map V.str:=by rw[Sm.mpr (λ_ _=>rfl),R5,R5,R5];refine Sq λi _=>?_;show(if 0+(i:Int)∈hs then V.str (one 35)else V.str (one 46))=V.str (one (if(i:Int)∈hs then 35 else 46));rw[Uo];split<;>rfl
  rw[e];show oz K (.str "") [.ref d] _ Q;rw[uG];refine⟨_,aN.of ah,?_,?_⟩
  .rw[R5];have es:∀l:List Nat,(l.map ((λx:Str=>x.length)∘one)).sum=l.length:=λl=>by
    induction l with
    |nil=>rfl
    |cons a r ih=>rw[Sk,List.sum_cons,ih,Sf];show 1+r.length=_;omega
   have ez:("":Str).length=0:=by decide+kernel
   rw[es,ez,RT,Sx];omega
  .rw[ow];exact k _ ((ak.refl H).upd hd)
theorem x9{f cB cG:VB}{fd:Oa}(F:cF K "is_row" "is_row" fO f fd)(T:Txt mg aS aA aE aW)(B:iT K cB)(D:vS K cG)(C:CR1 P w K mg np cB):aY P w K mg np cK 5 f fd ["game","thing"] (uj K cB cG):=by
 refine F.ok1 kA λcdv A xc s H vs Q E hr h=>?_;obtain⟨g,b,v,wi,hi,hs,ks,rs,ts,es,st,rfl,G,O,hl,h6,t,q⟩:=h;have hu:=bF hr;refine⟨_,(af (av 2 kA.nd (aC C.empty_row hr (az (cC K (cv 0)) pan)))
  (af (aR (PW.pt (dZ (bN (bG (GQ .str T.isinstance T.str qR (cv 1)))) (cW (aL K hu (kB (gB K) bP T.len (az (cv 1) pan)) (kB (gB K) bP T.len (az (cv 2) pan)))))) (aj (aB dv)) aF)
  (af (av 3 kA.nd (am (am (bz (az (kg T.EMPTY) pan)) (cC K (cv 0))) (fz (ck (N:=["kind"]) (src:=[none]) (al fO) ["game","thing","bare","signs"]) (wE K (cC K (cv 0))) (λ_ _ _=>(bi (i:=0) ["kind"])) (λ_ _ _=>bL) (λ_ _ _=>(aC C.sign_of hr (az (cv 0) (az ag pan)))))))
  (aj (aB (kB (AI K) m8 T.all (az (fz (ck (N:=["sign","under","signs"]) (src:=[none,none,some 3]) (al fO) ["game","thing","bare","signs"]) (Nv T.zip (az (cv 1) (az (cv 2) pan))) (λ_ _ _=>(Js K (n:=2) (bY (bi (i:=0) ["sign","under","signs"]) (bY (bi (i:=1) ["sign","under","signs"]) i6)))) (λ_ _ _=>bL) (λ_ _ _=>(de (aL K hu (cv 1) (kg T.HOLE)) (jA K hu (cv 0) (kg T.HOLE)) (jA K hu (cv 0) (cv 2))))) pan))))))),?_⟩
 show bj _ _ _ [oR g,some v,none,none] H;have mm:=O.many;refine bJ (λu H'=>u=.str (emptyT wi hi hs)/\ak H H') (λQ q=>bR (aa (bb (ae rfl) (G.board D)) aq) ⟨b,wi,hi,hs,rfl,O,λH' s=>q _ _ ⟨rfl,s⟩⟩) ?_;rintro _ H1 ⟨rfl,s1⟩;have t1:=t.same s1;have hel:(emptyT wi hi hs).length<=64:=by rw[mW];omega
 have hs0:=mS (T:=.str) (te:=eF 1) (σ:=[oR g,some v,oT (emptyT wi hi hs),none]) (ae rfl) t1;rw[ug t1]at hs0;cases v with
 |str z=>
  have hz:z.length<=1000:=t;refine bg (fI (cE (aZ hs0)) (λ_=>aZ (jk (lO (ae rfl) (T0 hz (by decide))) (lO (ae rfl) (T0 hel (by decide)))))) (λh=>?_) (λh=>?_)
  .have hne:¬z.length=(emptyT wi hi hs).length:=λe=>by rw[e]at h;simp at h
   have k:=q H1 s1;have e:rowB wi hi hs ks (.str z)=false:=by unfold rowB;dsimp only;rw[NP hne];rfl
   rw[e]at k;exact aM ao k
  .have heq:z.length=(emptyT wi hi hs).length:=by
    have h:(!decide ((z.length:Int)=(emptyT wi hi hs).length))=false:=h;have:((z.length:Int)=(emptyT wi hi hs).length):=NS (by cases hd:decide ((z.length:Int)=(emptyT wi hi hs).length)with|true=>rfl|false=>rw[hd]at h;cases h)
    omega
   obtain⟨kq,fk,hkq⟩:=(G.same s1).kinds D;refine bJ (λu H'=>∃sq,u=.ref sq/\H' sq=some (.lst (([46]++ks++ks.map (· - 32)).map strV))/\ak H1 H') (λQ q=>?_) ?_
   .refine lh (lh (sP (jC ao (jU ⟨by show 1<=v1;decide,λp hp=>?_⟩))));have s2:=(ak.refl H1).upd (o:=.lst [.str "."]) hp;obtain⟨kq2,fk2,hkq2⟩:=((G.same s1).same s2).kinds D;refine qW (bb (ae rfl) fk2) (qL ah hkq2 (by rw[RT];show 1+ks.length<=1000;omega) (λp2 hp2=>?_));have s3:=s2.upd (o:=.lst ([.str "."]++ks.map strV)) hp2;obtain⟨kq3,fk3,hkq3⟩:=((G.same s1).same s3).kinds D;refine fH (d:=kq3) (xs:=ks.map strV) (rest:=[]) (bb (ae rfl) fk3) (aN.of hkq3) (by rw[RT,Oc];omega) rfl (λ_=>true) upV (λx hx=>cP) (λx hx _=>?_) (λp3 hp3=>?_)
    .obtain⟨k,hk,rfl⟩:=RW.mp hx;exact aH (sp:=oU) (aa (ae rfl) (aa ao aq)) (λQ q=>⟨k,0,rfl,hl k hk,by rw[NR rfl];exact q⟩)
    .refine qL (by rw[au (aw ah hp3),ah]) ah ?_ (λp4 hp4=>q _ _ ⟨p4,rfl,?_,(s3.upd hp3).upd hp4⟩)
     .rw[R9,RT,Sm.mpr (λ_ _=>rfl),RT,RT];show 1+ks.length+ks.length<=1000;omega
     .rw[ah,Sm.mpr (λ_ _=>rfl),R5,Sc,Sc,R5,C2];rfl
   rintro _ H2 ⟨sq,rfl,hsq,s2⟩;show cg _ _ [oR g,oT z,oT (emptyT wi hi hs),oR sq] H2;have hws:∀H',ak H2 H'->aN K H' sq ((([46]++ks++ks.map (· - 32)).map one).map V.str):=λH' s=>by rw[R5];exact aN.of (s _ _ hsq)
   refine yD (rest:=[oR sq]) (aa (ae rfl) (aa (ae rfl) aq)) heq hz rfl (λc e=>.bl (fW ks c e)) (λi c e H' hc he s'=>?_) (λH' dq s' hd=>?_)
   .refine λQ q=>qW (mT (aZ (fS (ae rfl) ao)) (λ_=>fS (ae rfl) ao) (λ_=>vt (ae rfl) (ae rfl) (.inl (hws H' s')))) ?_;unfold fW at q;rw[AO,qI (qc (a:=e) (b:=35)),qI (qc (a:=c) (b:=35))]
    by_cases h35:e=35
    .rw[NR h35]at q;rw[C0 h35];exact q
    .rw[NQ h35]at q;rw[NP h35];rw[qI (p:=one c∈List.map one ([46]++ks++ks.map (· - 32))) (q:=c=46\/c∈ks\/c∈ks.map (· - 32))]
     .exact q
     .constructor
      .intro h;obtain⟨c',h1,h2⟩:=RW.mp h;have e2:=qc.mp h2;subst e2;simpa[or_assoc]using h1
      .intro h;exact RW.mpr ⟨c,by simpa[or_assoc]using h,rfl⟩
   .refine⟨List.zipWith (fW ks) z.cps.toList (emptyT wi hi hs).cps.toList,?_,?_⟩
    .rw[List.map_zipWith];exact aN.of ah
    .have k:=q _ (((s1.trans s2).trans s').upd (o:=.lst (List.zipWith (λc e=>V.bl (fW ks c e)) z.cps.toList (emptyT wi hi hs).cps.toList)) hd);unfold rowB at k;dsimp only at k;rw[C0 heq,UH]at k;exact k
 |_=>
  refine bg (fI (b:=false) (cE (aZ hs0)) (λh=>by cases h)) (λ_=>aM ao (q H1 s1)) (λh=>by cases h)
theorem sG{f cB cG:VB}{fd:Oa}(F:cF K "is_place" "is_place" fP f fd)(T:Txt mg aS aA aE aW)(C:CR2 P w K mg np cB cG):aY P w K mg np cK 6 f fd ["game","thing"] (jH K cB cG):=by
 refine F.ok1 rJ λcdv A xc s H vs Q E hr h=>?_;obtain⟨g,b,v,wi,hi,hs,ks,rs,ts,es,st,rfl,G,O,hl,h6,t,q⟩:=h;have hu:=bF hr;refine⟨_,(aj (aB (dP (aC C.is_tuple_of hr (az (cv 1) (az ag pan))) (dP (aC C.is_row hr (az (cv 0) (az (bI K (cv 1) ag) pan))) (fm (aC C.is_among hr (az (bI K (cv 1) ag) (az ag (az ag pan))))))))),?_⟩;show cg _ _ [oR g,some v] H;refine vO (a:=tupB H v 2) (aH (sp:=iy) (aa (ae rfl) (aa ao aq)) (λQ q=>⟨v,2,rfl,t.thg,q⟩)) (λh=>?_) (λh=>?_)
 .unfold tupB at h;cases e1:tupOf H v with
  |none=>rw[e1]at h;cases h
  |some xs=>
   rw[e1]at h;obtain⟨a,rfl,ha⟩:=fK e1;have h:(xs.length:Int)=2:=NS h;have tx:=t.2 xs (.inl e1)
   match xs,h,e1,ha,tx,q with
   | [x,y],_,e1,ha,tx,q=>
     refine bR (sp:=uj K cB cG) (aa (ae rfl) (aa (aT (ae rfl) ao (.inr (cJ.of ha)) (bw (j:=0) rfl)) aq)) ⟨g,b,x,wi,hi,hs,ks,rs,ts,es,st,rfl,G,O,hl,h6,tx x (by simp),λH' s'=>?_⟩;have k:=q H' s';rw[jw e1]at k;cases hr2:rowB wi hi hs ks x with
     |false=>
      rw[hr2]at k;exact k
     |true=>
      rw[hr2,UH]at k;simp only[dw,if_true];exact bR (sp:=iz) (aa (aT (ae rfl) ao (.inr (cJ.of (s' _ _ ha))) (bw (j:=1) rfl)) (aa ao (aa ao aq))) ⟨y,0,1,rfl,(tx y (by simp)).thg.same s',k⟩
 .have k:=q H (ak.refl H);rw[xR h]at k;exact k
end
section
variable{P:N5}{w:N9}{K:Frag}{mg:NX}{np:Oe}{aS aA aE aW:VB}
structure CMo(P:N5)(w:N9)(K:Frag)(mg:NX)(np:Oe)(cB cG:VB):Prop where
 moves:cy P w K mg np "moves" ["game","place"] 6 (lF K cB cG)
 move_text:cy P w K mg np "move_text" ["game","move"] 3 (lY K cB cG)
theorem uO{f cB cG:VB}{fd:Oa}(F:cF K "move_of" "move_of" gJ f fd)(T:Txt mg aS aA aE aW)(C:CMo P w K mg np cB cG):aY P w K mg np cK 7 f fd ["game","place","text"] (nT K cB cG):=by
 refine F.ok1 ma λcdv A xc s H vs Q E hr h=>?_;obtain⟨g,b,kq,p,row,sd,wi,hi,hs,ks,us,ts,es,st,m,k0,rfl,M,hk0,kQ⟩:=h;have one:∀k∈m,mvK wi k=mvK wi k0->k=k0:=λk hk e=>M.one hk hk0 e;generalize hz:mvK wi k0=z at one;have hu:=bF hr;have mm:=M.gs.bd.many;have rl:(row.length:Int)=wi*hi:=by rw[M.rk.len];omega
 refine⟨_,(af (gw Oy rfl (wE K (aC C.moves hr (az (cv 0) (az (cv 1) pan)))) (bC 3 ma.nd) (aj (aR (aL K hu (aC C.move_text hr (az (cv 0) (az (cv 3) pan))) (cv 2)) (aj (aB (cv 3))) aF)))
  (aj dJ)),?_⟩
 show bj _ _ _ [oR g,oR p,oT z,none] H;refine cQ (λσ' H'=>(∃o3,σ'=[oR g,oR p,oT z,o3])/\(∀k∈m,mvK wi k≠z)/\ak H H') (λK' hK=>?_) ?_
 .refine j2 (λv H'=>∃(q:VB)(ps:List (List Int×VB)),v=.ref q/\ps.map (·.1)=m/\H' q=some (.lst (kRefs ps))/\(∀p∈ps,H' p.2=some (.tup (p.1.map V.int)))/\ak H H') (λQ qq=>bR (aa (ae rfl) (aa (ae rfl) aq)) ⟨g,b,kq,p,row,sd,wi,hi,hs,ks,us,ts,es,st,rfl,M.gs,M.pl,M.rk.g M.gs.ltr mm.2,rl,λm' q H' h1 h2 h3 h4 h5=>?_⟩) ?_
  .obtain⟨ps,p1,p2,p3⟩:=h4;have e:=M.mvs.uniq h1;subst e;exact qq _ _ ⟨q,ps,rfl,p1,p2,λp hp=>(p3 p hp).2,h5⟩
  rintro _ H1 ⟨q,ps,rfl,ep,eq,et,s1⟩;refine⟨q,kRefs ps,rfl,aN.of eq,λi σ' H'=>(∃o3,σ'=[oR g,oR p,oT z,o3])/\(∀k∈m.take i,mvK wi k≠z)/\ak H1 H',⟨⟨_,rfl⟩,(λk hk=>by simp at hk),ak.refl _⟩,λi σ H' _ h=>aN.of (h.2.2 _ _ eq),?_,?_⟩
  .rintro i x _ H2 hx ⟨⟨o3,rfl⟩,hn,s2⟩;unfold kRefs at hx;rw[RX]at hx;cases hp:ps[i]? with
   |none=>rw[hp]at hx;cases hx
   |some y=>
    obtain⟨k,t⟩:=y;rw[hp]at hx;cases hx;have hm:m[i]? =some k:=by rw[<-ep,RX,hp];rfl
    have km:k∈m:=Sl hm;have tk:=s2 _ _ (et _ (Sl hp));obtain⟨s',gl,t',rfl,a1,a2,a3,a4,a5⟩:=M.mv k km;show lS _ _ _ _ [oR g,oR p,oT z,oR t] H2;refine Hs (λb H'=>b=decide (yY wi s' gl t'=z)/\ak H2 H') (λQ qq=>yH (aa (ae rfl) (aa (ae rfl) aq)) ⟨g,b,t,wi,hi,hs,ks.map strV,cj us,bp ts,bp es,st,s',gl,t',rfl,M.gs.gm.same (s1.trans s2),M.gs.bd.same (s1.trans s2),tk,a1,a2,a3,a4,a5,λH' s3=>(show Ev (eF 2) _ _ (.str z)from ae rfl) _ (qq _ _ ⟨rfl,s3⟩)⟩) (λH3 w=>?_) (λH3 w=>?_)
    .have e:=one _ km (NS w.1.symm);have tk':=w.2 _ _ tk;have tk':H3 t=some (.tup ([s',gl,t'].map V.int)):=tk';rw[e]at tk';exact aM (ae rfl) (kQ t _ tk' ((s1.trans s2).trans w.2))
    .refine⟨⟨_,rfl⟩,λk' hk'=>?_,s2.trans w.2⟩;rw[Tr,hm]at hk'
     rcases Sa.mp hk' with hk'|hk'
     .exact hn k' hk'
     .rw[R4.mp hk'];exact NT w.1.symm
  .rintro σ' H2 ⟨o,hn,s2⟩;refine hK _ _ ⟨o,λk hk=>hn k ?_,s1.trans s2⟩;have:(kRefs ps).length=m.length:=by unfold kRefs;rw[<-ep,RT,RT]
   rw[this,SX];exact hk
 rintro _ H1 ⟨⟨o3,rfl⟩,hn,s1⟩;exact NU hz (hn k0 hk0)
end
structure CPc(P:N5)(w:N9)(K:Frag)(mg:NX)(np:Oe):Prop where
 _law_side:cy P w K mg np "_law_side" ["_law_sign"] 1 lG
structure COw(P:N5)(w:N9)(K:Frag)(mg:NX)(np:Oe):Prop where
 _law_pieces:cy P w K mg np "_law_pieces" ["_law_row_here","_law_side_here"] 2 zw
 _law_without:cy P w K mg np "_law_without" ["_law_signs","_law_sign"] 1 Hv
section
variable{P:N5}{w:N9}{K:Frag}{mg:NX}{np:Oe}{aS aA aE aW:VB}
theorem mB{f:VB}{fd:Oa}(F:cF K "_law_pieces" "_law_pieces" cD f fd)(T:Txt mg aS aA aE aW)(C:CPc P w K mg np):aY P w K mg np cK 2 f fd ["_law_row_here","_law_side_here"] zw:=by
 refine F.ok1 mh λcdv A xc s H vs Q E hr h=>?_;obtain⟨row,sd,rfl,l64,sg,f64,k⟩:=h;have hu:=bF hr;refine⟨_,(aj (aB (kB (Io K) kT T.sorted (az (fz (ck (N:=["_law_sign","_law_side_here"]) (src:=[none,some 1]) (al cD) ["_law_row_here","_law_side_here"]) (HP (cv 0)) (λ_ _ _=>(bi (i:=0) ["_law_sign","_law_side_here"])) (λ_ _ _=>(jR (aL K hu (aC C._law_side hr (az (cv 0) pan)) (cv 1)))) (λ_ _ _=>(cv 0))) pan)))),?_⟩;show cg _ _ [oT row,oJ sd] H;refine fc (BY (yE (z:=row) (rest:=[oJ sd]) (ae rfl) (by omega) rfl (nV sd) strV (λc H' hc s R r=>?_) (λc H' hc hp s=>ae rfl) (λH' d s hd=>?_)))
 .refine wU (aa (ae rfl) aq) ⟨c,rfl,sg c hc,qW (v:=.int sd) (ae rfl) ?_⟩;rw[wf];exact r H' (ak.refl _)
 .have s1:=s.upd (o:=.lst ((row.cps.toList.filter (nV sd)).map strV)) hd;exact⟨d,_,rfl,aN.of ah,f64,λcs q h1 h2 hq=>k cs q _ h1 h2 (s1.free hq) ah (s1.upd hq)⟩
theorem lv{f:VB}{fd:Oa}(F:cF K "_law_without" "_law_without" cM f fd)(T:Txt mg aS aA aE aW):aY P w K mg np cK 1 f fd ["_law_signs","_law_sign"] Hv:=by
 refine F.ok1 ig λcdv A xc s H vs Q E hr h=>?_;obtain⟨d,c,cs,rfl,hd,hc,l64,k⟩:=h;have hu:=bF hr;have hj:cs.idxOf c<cs.length:=TV.mpr hc;refine⟨_,(af (av 2 ig.nd (IV (cv 0) (cv 1)))
  (aj (aB (am (CF K (cv 0) gk (eJ (cv 2))) (CF K (cv 0) (eJ (am (cv 2) ag)) gk))))),?_⟩
 show bj _ _ _ [oR d,some (strV c),none] H;refine aU (IJ (ae rfl) (ae rfl) hd hc) ?_;show cg _ _ [oR d,some (strV c),oJ (cs.idxOf c:Nat)] H;refine fc (lh (l4 (ae rfl) n4 (k5 (ae rfl)) (aN.of hd) λp1 h1=>?_));rw[IR];have sa:=(ak.refl H).upd (o:=.lst ((cs.take (cs.idxOf c)).map strV)) h1;refine l4 (ae rfl) (k5 (bK (ae rfl) ao)) n4 (aN.of (sa _ _ hd)) λp2 h2=>?_;rw[show((cs.idxOf c:Nat):Int)+1=((cs.idxOf c+1:Nat):Int)from rfl,Bh _ _ (by omega)];have sb:=(ak.refl _).upd (o:=.lst ((cs.drop (cs.idxOf c+1)).map strV)) h2;refine qL (sb _ _ ah) ah (by rw[RT,RT,Si,SI];omega) λq hq=>?_;rw[<-Sc,A7];exact k q _ ((sa.trans sb).free hq) ah ((sa.trans sb).upd hq)
theorem jT{f cB cG:VB}{fd:Oa}(F:cF K "_law_own_right" "_law_own_right" ci f fd)(T:Txt mg aS aA aE aW)(B:iT K cB)(D:vS K cG)(C:COw P w K mg np):aY P w K mg np cK 3 f fd ["_law_game_here","_law_ahead","_law_behind","_law_place","_law_move"] (zx K cB cG):=by
 refine F.ok1 bW λcdv A xc s H vs Q E hr h=>?_;obtain⟨g,b,kq,p,mv,row,sd,s',gl,t,wi,hi,hs,ks,us,ts,es,st,rfl,S,k⟩:=h;have hu:=bF hr;have G:=S.gs;have sd2:=S.sd2;have w1:=G.bd.w1;have w8:=G.bd.w8;have mm:=G.bd.many;have RG:=S.rk.g G.ltr mm.2;have RB:=S.rkB;have RBG:=RB.g G.ltr mm.2;have rl:=S.rl;have r64:=RG.len;have b64:=RBG.len;have bl:((dU ts wi hi row sd s' gl t).length:Int)=wi*hi:=by rw[RB.len];omega
 have Z:=S.stn;have eB:=S.beh;have ss:∀{H':Hp}{σ:St}{te:TE}{z:Str},Ev te σ H' (.str z)->Ev te σ H' (.str z):=λe=>e;obtain⟨x1,_⟩:=RG.toRowS.at S.ok.s0 S.ok.s1;obtain⟨x2,_⟩:=RBG.toRowS.at S.ok.g0 (by rw[bl];exact S.ok.g1);rw[eB,Z.atg]at x2;rw[<-eB]at x2;have arr:arrN ts wi hi (row.cps.toList.getD s'.toNat 0) sd gl=zF (if gl / wi=farI hi sd then chrV (turnV ts (one (PyProof.Rows.lo1 (row.cps.toList.getD s'.toNat 0))))else PyProof.Rows.lo1 (row.cps.toList.getD s'.toNat 0)) sd:=by
  unfold arrN;split
  .rfl
  .exact(Hz G.ltr S.cc S.ok.sd).symm
 obtain⟨lk,c128,cn⟩:=i7 G.ltr S.cc;obtain⟨FF,o1,o2⟩:=Z.own;rw[<-eB]at o2;have f1:(row.cps.toList.filter (nV sd)).length<64:=qC Z.g1 Z.pg r64;have f2:((dU ts wi hi row sd s' gl t).cps.toList.filter (nV sd)).length<64:=qC (i:=s'.toNat) (by rw[eB,Z.len];exact Z.s1) (by rw[eB,Z.ats];exact Z.p46) b64;generalize hC:row.cps.toList.getD s'.toNat 0=c at*;generalize hA:arrN ts wi hi c sd gl=a at*;refine⟨_,(af (av 5 bW.nd (bI K (bI K (cv 3) ag) (bI K (cv 4) ag)))
  (af (av 6 bW.nd (bI K (cv 2) (bI K (cv 4) ag)))
  (af (aR (aL K hu (aC C._law_without hr (az (aC C._law_pieces hr (az (cv 1) (az (bI K (cv 3) ag) pan))) (az (cv 5) pan))) (aC C._law_without hr (az (aC C._law_pieces hr (az (cv 2) (az (bI K (cv 3) ag) pan))) (az (cv 6) pan)))) (aj (aB dv)) aF)
  (af (av 7 bW.nd (kP PySem.F.slot_str_lower PySem.F.type_str_lower Au (cv 5)))
  (af (aR (aL K hu (am (bI K (cv 4) ag) (cC K (cC K (cv 0)))) (bI K (bz (az (am (cC K (cC K (cv 0))) ag) (az ag pan))) (bI K (cv 3) ag))) (aj (av 7 bW.nd (GR K (yZ (AG K hr) xf T.dict (az (cC K (cv 0)) pan)) (az (cv 7) (az (cv 7) pan))))) aF)
  (aj (aB (jA K hu (cv 6) (bI K (bz (az (kP PySem.F.slot_str_upper PySem.F.type_str_upper uY (cv 7)) (az (cv 7) pan))) (bI K (cv 3) ag)))))))))),?_⟩
 show bj _ _ _ [oR g,oT row,oT (dU ts wi hi row sd s' gl t),oR p,oR mv,none,none,none] H;have p1:∀{H':Hp}{σ:St}{te:TE},ak H H'->Ev te σ H' (.ref p)->Ev (tK K te (tC (.int 1))) σ H' (.int sd):=λs e=>aT (x:=.int sd) e ao (.inr (s.tupY S.pl)) rfl;have m1:∀{H':Hp}{σ:St}{te:TE},ak H H'->Ev te σ H' (.ref mv)->Ev (tK K te (tC (.int 1))) σ H' (.int gl):=λs e=>aT (x:=.int gl) e ao (.inr (cJ.of (s _ _ S.tv))) rfl;refine aU (cf (aT (x:=.str row) (ae rfl) ao (.inr S.pl) rfl) (aT (x:=.int s') (ae rfl) ao (.inr (cJ.of S.tv)) rfl) (by rw[Oc];omega) x1) ?_;refine aU (cf (ae rfl) (m1 (ak.refl H) (ae rfl)) (by rw[Oc];omega) x2) ?_;show bj _ _ _ [oR g,oT row,oT (dU ts wi hi row sd s' gl t),oR p,oR mv,some (strV c),some (strV a),none] H;refine cr (λz H'=>z=false/\ak H H') (λR z=>?_) (λH' w=>nomatch w.1) (λH1 w=>?_)
 .refine kO (qQ (gr (bR (aa (ae rfl) (aa (p1 (ak.refl H) (ae rfl)) aq)) ⟨row,sd,rfl,r64,RG.sg,f1,λc1 q1 H1 a1 a2 a3 a4 a5=>?_⟩)));refine jC (ae rfl) (jU ⟨q1,c,c1,rfl,a4,(a1.trans o1).mem_iff.mpr R6,by have:=a1.length_eq;omega,λq2 H2 b1 b2 b3=>?_⟩);have s2:=a5.trans b3;refine qQ (gr (bR (aa (ae rfl) (aa (p1 s2 (ae rfl)) aq)) ⟨dU ts wi hi row sd s' gl t,sd,rfl,b64,RBG.sg,f2,λc2 q3 H3 d1 d2 d3 d4 d5=>?_⟩));refine jC (ae rfl) (jU ⟨q3,a,c2,rfl,d4,(d1.trans o2).mem_iff.mpr R6,by have:=d1.length_eq;omega,λq4 H4 e1 e2 e3=>?_⟩);exact⟨true,wV ((d5.trans e3) _ _ b2) e2 (lV ((qG (a1.trans o1)).trans (qG (d1.trans o2)).symm) (vw a2) (vw d2)),z _ _ ⟨rfl,(s2.trans d5).trans e3⟩⟩
 have s1:=w.2;have G1:=G.same s1;refine aU (GY (ae rfl) c128) ?_;obtain⟨kc,hkc,ekc⟩:∃kc∈ks,(if gl / wi=farI hi sd then chrV (turnV ts (one (PyProof.Rows.lo1 c)))else PyProof.Rows.lo1 c)=kc:=by
  split
  .obtain⟨c',hc',et⟩:=jG G.tg lk;exact⟨c',hc',by rw[et];rfl⟩
  .exact⟨_,lk,rfl⟩
 rw[ekc]at arr;refine gf (λσ' H'=>ak H H'/\σ'=[oR g,oT row,oT (dU ts wi hi row sd s' gl t),oR p,oR mv,some (strV c),some (strV a),oT (one kc)]) ?_ (λgo=>?_)
 rotate_left
 .show bj _ _ _ [oR g,oT row,oT (dU ts wi hi row sd s' gl t),oR p,oR mv,some (strV c),some (strV a),oT (one (PyProof.Rows.lo1 c))] H1;refine cr (λz H'=>z=decide (gl / wi=farI hi sd)/\ak H1 H') (λR' z=>kO ((bO (m1 s1 (ae rfl)) (bb (bb (ae rfl) (G1.gm.board D)) (G1.bd.wide B)) ⟨by omega,by omega⟩) _ (AA (vs:=[.int (hi - 1),.int 0]) (i:=sd) (v:=.int (farI hi sd)) (aa (eC (bb (bb (ae rfl) (G1.gm.board D)) (G1.bd.high B)) ao) (aa ao aq)) (by show 2<=1000;decide) (λH' s'=>p1 (s1.trans s') (ae rfl)) ?_ (λH' s'=>z _ _ ⟨rfl,s'⟩)))) (λH' h=>?_) (λH' h=>?_)
  .unfold farI
   rcases sd2 with rfl|rfl<;>rfl
  .rw[NR (NS h.1.symm)]at ekc;obtain⟨qt,ft,hqt⟩:=(G1.same h.2).gm.turns D;refine na (Bf (bb (ae rfl) ft) (aN.of hqt) (G1.same h.2).tt (by have:=G.tg.len;omega) (λH2 s2=>aa (ae rfl) (aa (ae rfl) aq)) (λH2 s2=>?_));obtain⟨c',hc',et⟩:=jG G.tg lk;rw[et]at ekc ⊢;refine go [oR g,oT row,oT (dU ts wi hi row sd s' gl t),oR p,oR mv,some (strV c),some (strV a),oT (one c')] H2 ⟨(s1.trans h.2).trans s2,?_⟩;have:c'=kc:=ekc;rw[this]
  .rw[NQ (NT h.1.symm)]at ekc;refine go [oR g,oT row,oT (dU ts wi hi row sd s' gl t),oR p,oR mv,some (strV c),some (strV a),oT (one (PyProof.Rows.lo1 c))] H' ⟨s1.trans h.2,?_⟩;rw[ekc]
 rintro _ H2 ⟨sh,rfl⟩;refine fc (IT ((show Ev (eF 6) _ _ (.str (one a))from ae rfl) _ (AA (vs:=[.str (one (kc - 32)),.str (one kc)]) (i:=sd) (v:=strV (zF kc sd)) (aa (A4 (ae rfl) (G.ltr kc hkc)) (aa (ae rfl) aq)) (by show 2<=1000;decide) (λH' s'=>p1 (sh.trans s') (ae rfl)) ?_ (λH' s'=>?_))))
 .unfold zF
  rcases sd2 with rfl|rfl<;>rfl
 .show Q (.bl (decide (one a=one (zF kc sd)))) H';rw[arr,C0 rfl];exact k _ (sh.trans s')
end
structure CSt(P:N5)(w:N9)(K:Frag)(mg:NX)(np:Oe)(cB cG:VB):Prop where
 is_place:cy P w K mg np "is_place" ["game","thing"] 6 (jH K cB cG)
 _law_side:cy P w K mg np "_law_side" ["_law_sign"] 1 lG
 _law_pieces:cy P w K mg np "_law_pieces" ["_law_row_here","_law_side_here"] 2 zw
 _law_without:cy P w K mg np "_law_without" ["_law_signs","_law_sign"] 1 Hv
 _law_own_right:cy P w K mg np "_law_own_right" ["_law_game_here","_law_ahead","_law_behind","_law_place","_law_move"] 3 (zx K cB cG)
theorem wX:one 46=".":=by decide+kernel
theorem Me{σ:St}{H:Hp}{te:TE}{b b':Bool}(h:Ev te σ H (.bl b))(e:b=b'):Ev te σ H (.bl b'):=e▸h
section
variable{P:N5}{w:N9}{K:Frag}{mg:NX}{np:Oe}{aS aA aE aW:VB}
theorem jy{f cB cG:VB}{fd:Oa}(F:cF K "_law_step_right" "_law_step_right" bX f fd)(T:Txt mg aS aA aE aW)(C:CSt P w K mg np cB cG):aY P w K mg np cK 7 f fd ["_law_game_here","_law_place","_law_move","_law_behind"] (vZ K cB cG):=by
 refine F.ok1 ba λcdv A xc s H vs Q E hr h=>?_;obtain⟨g,b,kq,p,mv,bh,row,sd,s',gl,t,wi,hi,hs,ks,us,ts,es,st,rfl,S,eb,k⟩:=h;have hu:=bF hr;have G:=S.gs;have sd2:=S.sd2;have mm:=G.bd.many;have RG:=S.rk.g G.ltr mm.2;have RB:=S.rkB;have RBG:=RB.g G.ltr mm.2;have rl:=S.rl;have r64:=RG.len;have b64:=RBG.len;have bl:((dU ts wi hi row sd s' gl t).length:Int)=wi*hi:=by rw[RB.len];omega
 have Z:=S.stn;have eB:=S.beh;have s0:=S.ok.s0;have s1:=S.ok.s1;have g0:=S.ok.g0;have g1:gl<row.length:=by rw[rl];exact S.ok.g1
 have ll:row.length=row.cps.toList.length:=rfl;have tk:t= -1\/(0<=t/\t<row.length):=S.ok.tk.imp id λz=>⟨z.1,by rw[rl];exact z.2.1⟩;have zr:row.length<=v1:=by rw[Oc];omega
 have zb:(dU ts wi hi row sd s' gl t).length<=v1:=by rw[Oc];omega
 have atR:∀i:Int,0<=i->i<row.length->jn row.cps.toList i=some (row.cps.toList.getD i.toNat 0):=λi h0 h1=>(RG.toRowS.at h0 h1).1;have atB:∀i:Int,0<=i->i<row.length->jn (dU ts wi hi row sd s' gl t).cps.toList i=some ((im row.cps.toList s'.toNat gl.toNat (tO t) (arrN ts wi hi (row.cps.toList.getD s'.toNat 0) sd gl)).getD i.toNat 0):=λi h0 h1=>by rw[<-eB];exact(RBG.toRowS.at h0 (by rw[bl,<-rl];exact h1)).1
 have sgR:∀i:Int,0<=i->i<row.length->Sg (row.cps.toList.getD i.toNat 0):=λi h0 h1=>RG.sg _ (by
  rw[RY,RU (by omega)];exact Se _)
 have sgA:Sg (arrN ts wi hi (row.cps.toList.getD s'.toNat 0) sd gl):=by rw[<-Z.atg,<-eB];refine RBG.sg _ ?_;rw[RY,RU (by rw[eB,Z.len];exact Z.g1)];exact Se _
 have aS:=S.arr;have f1:(row.cps.toList.filter (nV (1 - sd))).length<64:=qC Z.s1 Z.qs r64;have f2:((dU ts wi hi row sd s' gl t).cps.toList.filter (nV (1 - sd))).length<64:=qC (i:=s'.toNat) (by rw[eB,Z.len];exact Z.s1) (by rw[eB,Z.ats];exact Z.q46) b64;have othS:∀(o:Option Nat)(n:Nat),o=some n->yU (nV sd) (nV (1 - sd)) row.cps.toList s'.toNat gl.toNat o (arrN ts wi hi (row.cps.toList.getD s'.toNat 0) sd gl)->(row.cps.toList.filter (nV (1 - sd))).Perm (row.cps.toList.getD n 0::(im row.cps.toList s'.toNat gl.toNat (some n) (arrN ts wi hi (row.cps.toList.getD s'.toNat 0) sd gl)).filter (nV (1 - sd))):=by rintro _ n rfl Z;exact Z.oth
 have othN:∀(o:Option Nat),o=none->yU (nV sd) (nV (1 - sd)) row.cps.toList s'.toNat gl.toNat o (arrN ts wi hi (row.cps.toList.getD s'.toNat 0) sd gl)->(im row.cps.toList s'.toNat gl.toNat none (arrN ts wi hi (row.cps.toList.getD s'.toNat 0) sd gl)).filter (nV (1 - sd))=row.cps.toList.filter (nV (1 - sd)):=by rintro _ rfl Z;exact Z.oth
 refine⟨_,(af (uI (cv 2) (Js K (n:=3) (bY (bC 4 ba.nd) (bY (bC 5 ba.nd) (bY (bC 6 ba.nd) i6)))))
  (af (av 7 ba.nd (bI K (cv 1) ag))
  (af (aR (PW.pt (dZ (bN (bG (aC C.is_place hr (az (cv 0) (az (cv 3) pan))))) (dZ (aL K hu (bI K (cv 3) ag) (am ag (bI K (cv 1) ag))) (cW (aL K hu (aC C._law_side hr (az (bI K (cv 7) (cv 4)) pan)) (bI K (cv 1) ag)))))) (aj (aB dv)) aF)
  (af (gw Oy rfl (AE T.range (az (kB (gB K) bP T.len (az (cv 7) pan)) pan)) (bC 8 ba.nd) (aj (aR (PW.pt (gv (aL K hu (cv 8) (cv 2)) (fE (aL K hu (bI K (bI K (cv 3) ag) (cv 8)) (bI K (cv 7) (cv 8)))))) (aj (aB dv)) aF)))
  (af (aR (PW.pt (dZ (aL K hu (bI K (bI K (cv 3) ag) (cv 4)) bq) (cW (aL K hu (aC C._law_side hr (az (bI K (bI K (cv 3) ag) (cv 5)) pan)) (bI K (cv 1) ag))))) (aj (aB dv)) aF)
  (af (aR (PW.pt (dZ (PW.pt (gv (aL K hu (cv 6) (qK ag)) (fE (aL K hu (bI K (cv 7) (cv 5)) bq)))) (cW (PW.pt (gv (aL K hu (cv 6) (cv 5)) (gv (aL K hu (cv 6) ag) (fE (aL K hu (bI K (bI K (cv 3) ag) (cv 6)) bq)))))))) (aj (aB dv)) aF)
  (af (av 9 ba.nd (aC C._law_pieces hr (az (cv 7) (az (am ag (bI K (cv 1) ag)) pan))))
  (af (aR (aL K hu (cv 6) ag) (af (aR (PW.pt (dZ (aL K hu (aC C._law_side hr (az (bI K (cv 7) (cv 6)) pan)) (am ag (bI K (cv 1) ag))) (cW (PW.pt (gv (aL K hu (bI K (cv 7) (cv 5)) bq) (fE (aL K hu (cv 5) (cv 6)))))))) (aj (aB dv)) aF)
  (aj (av 9 ba.nd (aC C._law_without hr (az (cv 9) (az (bI K (cv 7) (cv 6)) pan)))))) aF)
  (af (aR (aL K hu (aC C._law_pieces hr (az (bI K (cv 3) ag) (az (am ag (bI K (cv 1) ag)) pan))) (cv 9)) (aj (aB dv)) aF)
  (aj (aB (aC C._law_own_right hr (az (cv 0) (az (cv 7) (az (bI K (cv 3) ag) (az (cv 1) (az (cv 2) pan))))))))))))))))),?_⟩
 show bj _ _ _ [oR g,oR p,oR mv,oR bh,none,none,none,none,none,none] H;have p1:∀{H':Hp}{σ:St}{te:TE},ak H H'->Ev te σ H' (.ref p)->Ev (tK K te (tC (.int 1))) σ H' (.int sd):=λs e=>aT (x:=.int sd) e ao (.inr (s.tupY S.pl)) rfl;have b0:∀{H':Hp}{σ:St}{te:TE},ak H H'->Ev te σ H' (.ref bh)->Ev (tK K te (tC (.int 0))) σ H' (.str (dU ts wi hi row sd s' gl t)):=λs e=>aT (x:=.str _) e ao (.inr (cJ.of (s _ _ eb))) rfl;have b1:∀{H':Hp}{σ:St}{te:TE},ak H H'->Ev te σ H' (.ref bh)->Ev (tK K te (tC (.int 1))) σ H' (.int (1 - sd)):=λs e=>aT (x:=.int (1 - sd)) e ao (.inr (cJ.of (s _ _ eb))) rfl;refine cQ (λσ' H'=>H=H'/\σ'=[oR g,oR p,oR mv,oR bh,oJ s',oJ gl,oJ t,none,none,none]) (λK' hK=>(ae rfl) _ (IE (cJ.of S.tv) (hK _ _ ⟨rfl,rfl⟩))) ?_;rintro _ _ ⟨rfl,rfl⟩;refine aU (aT (x:=.str row) (ae rfl) ao (.inr S.pl) rfl) ?_;show bj _ _ _ [oR g,oR p,oR mv,oR bh,oJ s',oJ gl,oJ t,oT row,none,none] H;have pb:jx wi hi hs ks H (.ref bh)=true:=by rw[jw (kn eb),wl RB,UH];exact C0 (by omega)
 refine cr (λz H'=>z=false/\ak H H') (λR z=>zk (Bq (aa (ae rfl) (aa (ae rfl) aq)) ⟨g,b,.ref bh,wi,hi,hs,ks,cj us,bp ts,bp es,st,rfl,G.gm,G.bd,G.ltr,G.k6,(GH eb (by omega)).n,λH1 s1=>?_⟩)) (λH' w=>nomatch w.1) (λH1 w=>?_)
 .rw[pb];show(if(!true)=true then R true H1 else _);rw[NQ (by decide)];refine(fI (a:=false) (b:=false) (aZ ?_) (λ_=>aZ ?_)) _ (z _ _ ⟨rfl,s1⟩)
  .exact Me (jk (b1 s1 (ae rfl)) (eC ao (p1 s1 (ae rfl)))) (by rw[C0 rfl];rfl)
  .exact Me (qD (aa (cf (ae rfl) (ae rfl) zr (atR s' s0 S.ok.s1)) aq) (sgR s' s0 S.ok.s1) (p1 s1 (ae rfl))) (by rw[show bB (row.cps.toList.getD s'.toNat 0)=.int sd from S.ok.sd,C0 rfl];rfl)
 have z1:=w.2;have tv1:=z1 _ _ S.tv;refine cQ (λσ' H'=>(∃o,σ'=[oR g,oR p,oR mv,oR bh,oJ s',oJ gl,oJ t,oT row,o,none])/\H1=H') (λK' hK=>?_) ?_
 .refine A0 (row.length:Int) (aa (lO (ae rfl) zr) aq) (by omega) (by omega) (λi σ' H'=>(∃o,σ'=[oR g,oR p,oR mv,oR bh,oJ s',oJ gl,oJ t,oT row,o,none])/\H1=H') ⟨⟨_,rfl⟩,rfl⟩ ?_ (λσ' H' h=>hK _ _ h);rintro i _ _ hi' ⟨⟨o,rfl⟩,rfl⟩;have hi2:(0:Int)+i<row.length:=by omega
  have e0:((0:Int)+i).toNat=i:=by omega
  show lS _ _ _ _ [oR g,oR p,oR mv,oR bh,oJ s',oJ gl,oJ t,oT row,oJ (0+i),none] H1;refine lD (gt (aZ (qE (ns:=[s',gl,t]) (ae rfl) (ae rfl) (.inr (cJ.of tv1)))) (λ_=>aZ (iN (cf (b0 z1 (ae rfl)) (ae rfl) zb (atB (0+i) (by omega) hi2)) (cf (ae rfl) (ae rfl) zr (atR (0+i) (by omega) hi2))))) (λh=>?_) (λh=>⟨⟨_,rfl⟩,rfl⟩);rw[UD,UG,UG]at h;have hn:=NT h.1;have hm:=NT h.2;simp only[RV,Sb,or_false,not_or]at hn;refine NU ?_ hm;rw[e0,Dh (by omega) (by omega) λx hx=>?_];unfold tO at hx;split at hx
  .have hx:=NV hx;omega
  .cases hx
 rintro _ _ ⟨⟨o,rfl⟩,rfl⟩;refine bg (b:=false) (fI (a:=false) (b:=false) (aZ ?_) (λ_=>aZ ?_)) (λh=>nomatch h) (λ_=>?_)
 .exact Me (iN (cf (b0 z1 (ae rfl)) (ae rfl) zb (atB s' s0 S.ok.s1)) ao) (by rw[Z.ats,show(⟨#[46]⟩:Str)=one 46 from rfl,C0 wX];rfl)
 .have x:=atB gl g0 g1;rw[Z.atg]at x;exact Me (qD (aa (cf (b0 z1 (ae rfl)) (ae rfl) zb x) aq) sgA (p1 z1 (ae rfl))) (by rw[C0 aS];rfl)
 have g46:t= -1\/t≠gl->row.cps.toList.getD gl.toNat 0=46:=λh=>by
  have tt:=Z.tt;unfold tO at tt
  rcases tk with rfl|⟨t0,_⟩
  .exact tt
  .rw[NR t0]at tt;exact tt.2.2.2.2 (by omega)
 refine bg (b:=false) ?_ (λh=>nomatch h) (λ_=>?_)
 .have e:((decide (t= -1)&& !decide (one (row.cps.toList.getD gl.toNat 0)="."))||(!decide (t=gl)&&(decide (0<=t)&&false)))=false:=by
   by_cases h:t= -1
   .rw[g46 (.inl h),C0 wX];simp
   .rw[NP h];simp
  rw[<-e];refine fI (gt (aZ (fT (ae rfl) ao)) (λ_=>aZ (iN (cf (ae rfl) (ae rfl) zr (atR gl g0 g1)) ao))) (λ_=>gt (aZ (jk (ae rfl) (ae rfl))) (λh1=>gt (aZ (A6 (ae rfl) ao)) (λh2=>aZ ?_)));have h1:¬t=gl:=NT (by rw[<-UG];exact h1);have h2:0<=t:=NS h2;have t1:t<row.length:=by omega
  have x:=atB t h2 t1;rw[show tO t=some t.toNat from NR h2,Jb (by omega) (by omega)]at x;exact Me (iN (cf (b0 z1 (ae rfl)) (ae rfl) zb x) ao) (by rw[show(⟨#[46]⟩:Str)=one 46 from rfl,C0 wX];rfl)
 refine bJ (λv H'=>∃(q:VB)(cs:List Nat),v=.ref q/\H' q=some (.lst (cs.map strV))/\cs.Perm (row.cps.toList.filter (nV (1 - sd)))/\cs.Pairwise (·<=·)/\ak H1 H') (λQ q=>bR (aa (ae rfl) (aa (eC ao (p1 z1 (ae rfl))) aq)) ⟨row,1 - sd,rfl,r64,RG.sg,f1,λcs q' H' a1 a2 a3 a4 a5=>q _ _ ⟨q',cs,rfl,a4,a1,a2,a5⟩⟩) ?_;rintro _ H2 ⟨q,cs,rfl,eq,pm,sr,s2⟩;have z2:=z1.trans s2;have cl:=pm.length_eq;show bj _ _ _ [oR g,oR p,oR mv,oR bh,oJ s',oJ gl,oJ t,oT row,o,oR q] H2;refine gf (λσ' H'=>(∃(q:VB)(cs:List Nat),σ'=[oR g,oR p,oR mv,oR bh,oJ s',oJ gl,oJ t,oT row,o,oR q]/\H' q=some (.lst (cs.map strV))/\cs.Perm ((dU ts wi hi row sd s' gl t).cps.toList.filter (nV (1 - sd)))/\cs.Pairwise (·<=·))/\ak H H') ?_ (λgo=>?_)
 rotate_left
 .refine bg (aZ (A6 (ae rfl) ao)) (λh=>?_) (λh=>?_)
  .have t0:0<=t:=NS h;have t1:t<row.length:=by omega
   have et:tO t=some t.toNat:=NR t0;have tt:=Z.tt;have oth:=othS _ _ et Z;rw[et]at tt;rw[et]at eB;refine bg (b:=false) ?_ (λh=>nomatch h) (λ_=>?_)
   .have e:(!decide (bB (row.cps.toList.getD t.toNat 0)=.int (1 - sd))||(!decide (one (row.cps.toList.getD gl.toNat 0)=".")&& !decide (gl=t)))=false:=by
     have:decide (bB (row.cps.toList.getD t.toNat 0)=.int (1 - sd))=true:=tt.2.2.1;rw[this]
     by_cases h:gl=t
     .rw[C0 h];simp
     .rw[g46 (.inr (λz=>h z.symm)),C0 wX];simp
    rw[<-e];exact fI (aZ (qD (aa (cf (ae rfl) (ae rfl) zr (atR t t0 t1)) aq) (sgR t t0 t1) (eC ao (p1 z2 (ae rfl))))) (λ_=>gt (aZ (iN (cf (ae rfl) (ae rfl) zr (atR gl g0 g1)) ao)) (λ_=>aZ (jk (ae rfl) (ae rfl))))
   .rw[<-eB]at oth;refine na (bR (aa (ae rfl) (aa (cf (ae rfl) (ae rfl) zr (atR t t0 t1)) aq)) ⟨q,row.cps.toList.getD t.toNat 0,cs,rfl,eq,(pm.trans oth).mem_iff.mpr R6,by omega,λq2 H3 b1 b2 b3=>?_⟩);exact go [oR g,oR p,oR mv,oR bh,oJ s',oJ gl,oJ t,oT row,o,oR q2] H3 ⟨⟨q2,_,rfl,b2,qG (pm.trans oth),vw sr⟩,z2.trans b3⟩
  .have t0:¬0<=t:=NT h;have et:tO t=none:=NQ t0;have oth:=othN _ et Z;rw[et]at eB;exact go [oR g,oR p,oR mv,oR bh,oJ s',oJ gl,oJ t,oT row,o,oR q] H2 ⟨⟨q,cs,rfl,eq,by rw[eB,oth];exact pm,sr⟩,z2⟩
 rintro _ H3 ⟨⟨q3,cs3,rfl,eq3,pm3,sr3⟩,z3⟩;refine cr (λz H'=>z=false/\ak H3 H') (λR z=>kO (bR (aa (b0 z3 (ae rfl)) (aa (eC ao (p1 z3 (ae rfl))) aq)) ⟨dU ts wi hi row sd s' gl t,1 - sd,rfl,b64,RBG.sg,f2,λc4 q4 H4 d1 d2 d3 d4 d5=>(show Ev (eF 9) _ _ (.ref q3)from ae rfl) _ ⟨true,wV d4 (d5 _ _ eq3) (lV (d1.trans pm3.symm) d2 sr3),z _ _ ⟨rfl,d5⟩⟩⟩)) (λH' w=>nomatch w.1) (λH4 w4=>?_);have z4:=z3.trans w4.2;exact fc (bR (aa (ae rfl) (aa (ae rfl) (aa (b0 z4 (ae rfl)) (aa (ae rfl) (aa (ae rfl) aq))))) ⟨g,b,kq,p,mv,row,sd,s',gl,t,wi,hi,hs,ks,us,ts,es,st,rfl,S.same z4,λH' s=>k _ (z4.trans s)⟩)
end
def v7(K:Frag):Sp:=λvs H Q _=>∃(a:VB)(ns:List Int),vs=[.ref a]/\aN K H a (ns.map V.int)/\ns.length<=63/\∀H',Q (.bl true) H'
structure CL(P:N5)(w:N9)(K:Frag)(mg:NX)(np:Oe)(cB cG:VB):Prop extends LG1 P w K mg np where
 _law_game:cy P w K mg np "_law_game" ["_law_script"] 8 (v9 K cB cG)
 _law_row:cy P w K mg np "_law_row" ["_law_script","_law_game_here","_law_start"] 2 (zy K cB cG)
 moves:cy P w K mg np "moves" ["game","place"] 6 (lF K cB cG)
 is_place:cy P w K mg np "is_place" ["game","thing"] 6 (jH K cB cG)
 done:cy P w K mg np "done" ["game","place","move"] 7 (zC K cB cG)
 _law_step_right:cy P w K mg np "_law_step_right" ["_law_game_here","_law_place","_law_move","_law_behind"] 7 (vZ K cB cG)
 move_of:cy P w K mg np "move_of" ["game","place","text"] 7 (nT K cB cG)
 move_text:cy P w K mg np "move_text" ["game","move"] 3 (lY K cB cG)
section
variable{P:N5}{w:N9}{K:Frag}{mg:NX}{np:Oe}{aS aA aE aW:VB}
theorem Ij{f cB cG:VB}{fd:Oa}(F:cF K "law" "law" jM f fd)(T:Txt mg aS aA aE aW)(B:iT K cB)(D:vS K cG)(C:CL P w K mg np cB cG):aY P w K mg np cK 9 f fd ["_law_script"] (v7 K):=by
 refine F.ok1 hJ λcdv A xc s H vs Q E hr h=>?_;obtain⟨a,ns,rfl,hS,hlen,k⟩:=h;have hu:=bF hr;refine⟨_,(af (av 1 hJ.nd (aC C._law_game hr (az (cv 0) pan)))
  (af (av 2 hJ.nd (fj (az (aC C._law_row hr (az (cv 0) (az (cv 1) (az ag pan)))) (az (am (aC C._law_cell_at hr (az (cv 0) (az ag pan))) ag) pan))))
  (af (gw Oy rfl (AF K T.enumerate (am (bz (az (aC C._law_cell_at hr (az (cv 0) (az ag pan))) pan)) (CF K (cv 0) (eJ ag) (eJ ag)))) (Js K (n:=2) (bY (bC 3 hJ.nd) (bY (bC 4 hJ.nd) i6))) (af (av 5 hJ.nd (aC C.moves hr (az (cv 1) (az (cv 2) pan))))
  (af (aR (aL K hu (cv 5) (bz pan)) (aj (aB (aC C.is_place hr (az (cv 1) (az (cv 2) pan))))) aF)
  (af (av 6 hJ.nd (bI K (cv 5) (am (aC C._law_mixed hr (az (cv 4) (az (cv 3) pan))) (kB (gB K) bP T.len (az (cv 5) pan)))))
  (af (av 7 hJ.nd (aC C.done hr (az (cv 1) (az (cv 2) (az (cv 6) pan)))))
  (af (aR (bN (bG (aC C._law_step_right hr (az (cv 1) (az (cv 2) (az (cv 6) (az (cv 7) pan))))))) (aj (aB dv)) aF)
  (af (aR (PW.pt (dZ (aL K hu (aC C.move_of hr (az (cv 1) (az (cv 2) (az (aC C.move_text hr (az (cv 1) (az (cv 6) pan))) pan)))) (cv 6)) (cW (aL K hu (aC C.moves hr (az (cv 1) (az (cv 2) pan))) (cv 5))))) (aj (aB dv)) aF)
  (aj (av 2 hJ.nd (cv 7))))))))))
  (aj (aB (aC C.is_place hr (az (cv 1) (az (cv 2) pan)))))))),?_⟩
 show bj _ _ _ [oR a,none,none,none,none,none,none,none] H;refine bJ (λv H'=>∃(g b kq:VB)(wi hi:Int)(hs:List Int)(ks:List Nat)(us:List (aJ×VB))(ts es:List ((Str×Str)×VB))(st:Str),v=.ref g/\il K cB cG H' g b kq wi hi hs ks us ts es st/\(hs.length:Int)<wi*hi/\ak H H') (λQ q=>?_) ?_
 .exact bR (aa (ae rfl) aq) ⟨a,ns,rfl,hS,λg b kq wi hi hs ks us ts es st H' h1 h2 h3 h4=>q _ _ ⟨g,b,kq,wi,hi,hs,ks,us,ts,es,st,rfl,h1,h3,h4⟩⟩
 rintro _ H1 ⟨g,b,kq,wi,hi,hs,ks,us,ts,es,st,rfl,G,ln,s1⟩;have hS1:=s1.seq hS;have mm:=G.bd.many;have m2:∀i:Int,i % 2=0\/i % 2=1:=λi=>by omega
 refine bJ (λv H'=>∃(pl:VB)(z:Str)(sd:Int),v=.ref pl/\H' pl=some (.tup [.str z,.int sd])/\ip wi hi hs ks z/\(sd=0\/sd=1)/\ak H1 H') (λQ q=>?_) ?_
 .refine tupY (gr (bR (aa (ae rfl) (aa (ae rfl) (aa ao aq))) ⟨a,g,b,ns,10,wi,hi,hs,ks,cj us,bp ts,bp es,st,rfl,hS1,by decide,by decide,G.gm,G.bd,G.ltr,G.k1,G.k6,ln,λz H' e1 e2 s=>?_⟩));exact fU (a7 (aH (x:=.int (cellAt ns 17)) (aa (ae rfl) (aa ao aq)) (λQ q=>⟨a,ns,17,rfl,s.seq hS1,by decide,q⟩)) ao (by decide)) (Ar ⟨by show 2<=v1;decide,λt ht=>q _ _ ⟨t,z,_,rfl,ah,⟨e1,e2⟩,m2 _,s.upd ht⟩⟩)
 rintro _ H2 ⟨fi,z0,sd0,rfl,efi,R0,sdd0,s2⟩;have hS2:=s2.seq hS1;have plY:∀(H':Hp)(t:VB)(y:Str)(v:Int)(Q:VK),ak H1 H'->ip wi hi hs ks y->(v=0\/v=1)->H' t=some (.tup [.str y,.int v])->(∀H'',ak H' H''->Q (.bl true) H'')->jH K cB cG [.ref g,.ref t] H' Q E0:=λH' t y v Q s Ry hv ht q=>by
  have pb:jx wi hi hs ks H' (.ref t)=true:=by rw[jw (kn ht),wl Ry,UH];exact C0 (by omega)
  refine⟨g,b,.ref t,wi,hi,hs,ks,cj us,bp ts,bp es,st,rfl,(G.same s).gm,(G.same s).bd,G.ltr,G.k6,(GH ht (by rw[Ry.len];omega)).n,λH'' s''=>?_⟩;rw[pb];exact q H'' s''
 show bj _ _ _ [oR a,oR g,oR fi,none,none,none,none,none] H2;refine cQ (λσ' H'=>(∃(pl:VB)(z:Str)(sd:Int)(o3 o4 o5 o6 o7:Option V),σ'=[oR a,oR g,oR pl,o3,o4,o5,o6,o7]/\H' pl=some (.tup [.str z,.int sd])/\ip wi hi hs ks z/\(sd=0\/sd=1))/\ak H2 H') (λK' hK=>?_) ?_
 .refine sZ (λq' H'=>(∃cs:List Int,H' q'=some (.lst (cs.map V.int))/\cs.length<=64)/\ak H2 H') (λQ q=>?_) ?_
  .refine lh (sP (jC (aH (x:=.int (cellAt ns 18)) (aa (ae rfl) (aa ao aq)) (λQ q=>⟨a,ns,18,rfl,hS2,by decide,q⟩)) (jU ⟨by show 1<=v1;decide,λp hp=>?_⟩)));have sa:=(ak.refl H2).upd (o:=.lst [.int (cellAt ns 18)]) hp;have ea:(upd H2 p (.lst [.int (cellAt ns 18)])) p=some (.lst [.int (cellAt ns 18)]):=ah;generalize upd H2 p (.lst [.int (cellAt ns 18)])=H4 at sa ea ⊢;refine l4 (ae rfl) (k5 ao) (k5 ao) (sa.seq hS2) λp2 hp2=>?_;have sb:=(ak.refl H4).upd (o:=.lst (fu (ns.map V.int) (some 19) (some 30))) hp2;obtain⟨ss,es1,es2,es3⟩:=oF ns (some 19) (some 30);refine⟨p,p2,_,_,rfl,rfl,sb _ _ ea,ah,by rw[es1,RT,Oc];show 1+_<=_;omega,λd hd=>q _ _ ⟨⟨cellAt ns 18::ss,by rw[ah,es1];rfl,by rw[Sf];omega⟩,(sa.trans sb).upd hd⟩⟩
  rintro q' H4 ⟨⟨cs,eq',cl⟩,s4⟩;refine⟨_,aN.of eq',λi σ' H'=>(∃(pl:VB)(z:Str)(sd:Int)(o3 o4 o5 o6 o7:Option V),σ'=[oR a,oR g,oR pl,o3,o4,o5,o6,o7]/\H' pl=some (.tup [.str z,.int sd])/\ip wi hi hs ks z/\(sd=0\/sd=1))/\ak H4 H',
   ⟨⟨fi,z0,sd0,_,_,_,_,_,rfl,s4 _ _ efi,R0,sdd0⟩,ak.refl _⟩,?_,?_,?_⟩
  .rintro i σ' H' ⟨_,sb⟩;exact aN.of (sb _ _ eq')
  .rintro i x _ H5 t hx ⟨⟨pl,z,sd,o3,o4,o5,o6,o7,rfl,epl,Rz,sdd⟩,sb⟩ nt;obtain⟨c,hc,rfl⟩:=RW.mp (Sl hx);refine GU ah ?_;have s6:=(ak.refl H5).upd (o:=.tup [.int (i:Int),.int c]) nt;generalize upd H5 t (HO.tup [V.int (i:Int),V.int c])=H6 at s6;have s26:ak H2 H6:=(s4.trans sb).trans s6;have s16:=s2.trans s26;have e6:=s6 _ _ epl;have rlz:(z.length:Int)=wi*hi:=by have:=Rz.len;omega
   show bj _ _ _ [oR a,oR g,oR pl,oJ (i:Int),oJ c,o5,o6,o7] H6;refine bJ (λv H'=>∃(q:VB)(m:List (List Int))(ps:List (List Int×VB)),v=.ref q/\ke wi hi hs z us sd (sqsOf z sd) m/\ps.map (·.1)=m/\H' q=some (.lst (kRefs ps))/\BD H' ps/\ak H6 H') (λQ q=>?_) ?_
   .exact bR (aa (ae rfl) (aa (ae rfl) aq)) ⟨g,b,kq,pl,z,sd,wi,hi,hs,ks,us,ts,es,st,rfl,G.same s16,cJ.of e6,Rz.g G.ltr mm.2,rlz,λm q2 H' h1 h2 h3 h4 h5=>by
     obtain⟨ps,p1,p2,p3⟩:=h4;exact q _ _ ⟨q2,m,ps,rfl,h1,p1,p2,λp hp=>(p3 p hp).2,h5⟩⟩
   rintro _ H7 ⟨q,m,ps,rfl,hm,p1,eq,kp,s7⟩;have s17:=s16.trans s7;refine cr (λb H'=>b=decide (kRefs ps=[])/\ak H7 H') (λR' y=>kO ((show Ev (eF 5) _ _ (.ref q)from ae rfl) _ (sP (jU ⟨TZ _,λr hr'=>⟨_,CY (n:=19) (((ak.refl H7).upd (o:=.lst []) hr') _ _ eq) ah,y _ _ ⟨rfl,(ak.refl H7).upd hr'⟩⟩⟩)))) (λH8 w=>?_) (λH8 w=>?_)
   .exact fc (bR (aa (ae rfl) (aa (ae rfl) aq)) (plY H8 pl z sd _ (s17.trans w.2) Rz sdd ((s7.trans w.2) _ _ e6) λH' _=>k H'))
   .have s8:=w.2;have s18:=s17.trans s8;have hne:¬kRefs ps=[]:=NT w.1.symm;have lpos:(0:Int)<((kRefs ps).length:Int):=by have:0<(kRefs ps).length:=List.length_pos_iff.mpr hne;omega
    have eq8:=s8 _ _ eq;obtain⟨v,ev,hv⟩:=Ah (xs:=kRefs ps) (i:=mixed c (i:Int) % ((kRefs ps).length:Int)) (Uk _ (by omega)) (Ul _ lpos);obtain⟨y,hy,rfl⟩:=RW.mp hv;have ym:y.1∈m:=by rw[<-p1];exact RW.mpr ⟨y,hy,rfl⟩
    have ty:H8 y.2=some (.tup (y.1.map V.int)):=s8 _ _ (kp y hy);obtain⟨s',gl,t',ek,ok⟩:=hm.ok G.bd.w1 (λs hs=>iW hs) y.1 ym;have how:=hm.how sdd y.1 ym;have e8:=(s7.trans s8) _ _ e6;refine aU (aT (x:=.ref y.2) (ae rfl) (a7 (aH (x:=.int (mixed c (i:Int))) (aa (ae rfl) (aa (ae rfl) aq)) (λQ q=>⟨_,_,rfl,q⟩)) (cX (ae rfl) (.inl (aN.of eq8))) lpos) (.inl (aN.of eq8)) ev) ?_;show bj _ _ _ [oR a,oR g,oR pl,oJ (i:Int),oJ c,oR q,oR y.2,o7] H8;refine bJ (λv H'=>∃bh,v=.ref bh/\H' bh=some (.tup [.str (dU ts wi hi z sd s' gl t'),.int (1 - sd)])/\ak H8 H') (λQ qq=>bR (aa (ae rfl) (aa (ae rfl) (aa (ae rfl) aq))) ⟨g,b,kq,pl,y.2,z,sd,wi,hi,hs,ks,us,ts,es,st,y.1,m,rfl,⟨G.same s18,cJ.of e8,ty,Rz,hm⟩,ym,λq2 H' h1 h2 h3=>?_⟩) ?_
    .rw[ek]at h2;exact qq _ _ ⟨q2,rfl,h2,h3⟩
    rintro _ H9 ⟨bh,rfl,eb,s9⟩;have s19:=s18.trans s9;have ty':H8 y.2=some (.tup [.int s',.int gl,.int t']):=by rw[ty,ek];rfl
    rw[ek]at how;have SC:g9 K cB cG H9 g b kq pl y.2 z sd s' gl t' wi hi hs ks us ts es st:=⟨G.same s19,cJ.of (s9 _ _ e8),s9 _ _ ty',Rz,sdd,ok,how⟩;refine cr (λb H'=>b=false/\ak H9 H') (λR' yy=>Bq (aa (ae rfl) (aa (ae rfl) (aa (ae rfl) (aa (ae rfl) aq)))) ⟨g,b,kq,pl,y.2,bh,z,sd,s',gl,t',wi,hi,hs,ks,us,ts,es,st,rfl,SC,eb,λH' s=>yy _ _ ⟨rfl,s⟩⟩) (λH' w=>nomatch w.1) (λH10 w10=>?_);have s10:=w10.2;have z10:=s9.trans s10;have s110:=s18.trans z10;have SC10:=SC.same s10;have PC:∀{H':Hp},ak H8 H'->Jw K cB cG H' g b kq pl z sd wi hi hs ks us ts es st m:=λsx=>⟨G.same (s18.trans sx),cJ.of (sx _ _ e8),Rz,hm⟩;have tmv:=ok.s1;refine cr (λb H'=>b=false/\ak H10 H') (λR' yy=>?_) (λH' w=>nomatch w.1) (λH11 w11=>?_)
    .refine zk (kO (qQ (jC (ae rfl) (jC (ae rfl) (gr (bR (aa (ae rfl) (aa (ae rfl) aq)) ⟨g,b,y.2,wi,hi,hs,ks.map strV,cj us,bp ts,bp es,st,s',gl,t',rfl,SC10.gs.gm,SC10.gs.bd,SC10.tv,ok.s0,by omega,ok.g0,ok.g1,ok.tk.imp id (λx=>⟨x.1,x.2.1⟩),λH11 s11=>?_⟩))))));refine jU ⟨g,b,kq,pl,z,sd,wi,hi,hs,ks,us,ts,es,st,m,y.1,by rw[ek];rfl,PC (z10.trans s11),ym,λq3 H12 h3 s12=>?_⟩;have s11':=s11.trans s12;refine(show Ev (eF 6) _ _ (.ref y.2)from ae rfl) _ ⟨true,A8 h3 ((z10.trans s11') _ _ ty),?_⟩;show(if(!true)=true then R' true H12 else _);rw[NQ (by decide)];have sx:=s110.trans s11';refine kO (bR (aa (ae rfl) (aa (ae rfl) aq)) ⟨g,b,kq,pl,z,sd,wi,hi,hs,ks,us,ts,es,st,rfl,G.same sx,cJ.of ((z10.trans s11') _ _ e8),Rz.g G.ltr mm.2,rlz,λm' q4 H13 h1 h2 h3 h4 h5=>?_⟩);obtain⟨ps',p1',p2',p3'⟩:=h4;have e:=hm.uniq h1;subst e;have s8x:=(z10.trans s11').trans h5;exact(show Ev (eF 5) _ _ (.ref q)from ae rfl) _ ⟨true,Ba (n:=18) (aN.of p2') (aN.of (s8x _ _ eq8)) (p1'.trans p1.symm) (λp hp=>(p3' p hp).2) (λp hp=>s8x _ _ (s8 _ _ (kp p hp))),yy _ _ ⟨rfl,s11'.trans h5⟩⟩
    have s11:=w11.2;refine iV (ae rfl) ?_;exact⟨⟨bh,_,1 - sd,_,_,_,_,_,rfl,(s10.trans s11) _ _ eb,SC.rkB,by omega⟩,(((sb.trans s6).trans s7).trans s8).trans (z10.trans s11)⟩
  .rintro σ' H' ⟨h,sb⟩;exact hK _ _ ⟨h,s4.trans sb⟩
 .rintro _ H4 ⟨⟨pl,z,sd,o3,o4,o5,o6,o7,rfl,epl,Rz,sdd⟩,s4⟩;exact fc (bR (aa (ae rfl) (aa (ae rfl) aq)) (plY H4 pl z sd _ (s2.trans s4) Rz sdd epl λH' _=>k H'))
end
end K16
namespace L2
open PySem PySem.W PyProof.Rows
theorem zc{q:N5}{loose:List Str}{XP:(NX)->Oe->Prop}{YP:N9->Oe->Prop}{α:Type}{Yf:N3->α}{Ya:N9->α}{r:RowW}{d:DefRec}{kwd:List (Str×Ol)}{run:VA->List VA->RS VA}(hY:∀(w:N9)(s₀ s₁:N3),Yf s₀=Ya w->(∀b o,s₀.heap.get? b=some o->s₁.heap.get? b=some o)->YP w s₁.heap)(h:WalkO q loose XP YP r d kwd run):PySem.W.WalkX q loose XP Yf Ya r d kwd run:=
 λw s₀ s₁ mg mb G y a o pm cd doc dV kV ho hd hcd hD hmg hg args vals as L hpre hlay hrd hwl hlo=>h w s₀ s₁ mg mb G (hY w s₀ s₁ y L.keeps) a o pm cd doc dV kV ho hd hcd hD hmg hg args vals as hpre hlay hrd hwl hlo
theorem ln1{P:List VA->Prop}(h:∀a0:VA,P [a0]):∀us:List VA,us.length=1->P us
 | [a0],_=>h a0
theorem LS{P:List VA->Prop}(h:∀a0 a1:VA,P [a0,a1]):∀us:List VA,us.length=2->P us
 | [a0,a1],_=>h a0 a1
theorem ln3{P:List VA->Prop}(h:∀a0 a1 a2:VA,P [a0,a1,a2]):∀us:List VA,us.length=3->P us
 | [a0,a1,a2],_=>h a0 a1 a2
theorem Nu{P:List VA->Prop}(h:∀a0 a1 a2 a3:VA,P [a0,a1,a2,a3]):∀us:List VA,us.length=4->P us
 | [a0,a1,a2,a3],_=>h a0 a1 a2 a3
theorem ln5{P:List VA->Prop}(h:∀a0 a1 a2 a3 a4:VA,P [a0,a1,a2,a3,a4]):∀us:List VA,us.length=5->P us
 | [a0,a1,a2,a3,a4],_=>h a0 a1 a2 a3 a4
theorem ln7{P:List VA->Prop}(h:∀a0 a1 a2 a3 a4 a5 a6:VA,P [a0,a1,a2,a3,a4,a5,a6]):∀us:List VA,us.length=7->P us
 | [a0,a1,a2,a3,a4,a5,a6],_=>h a0 a1 a2 a3 a4 a5 a6
def ue:Nat->List Obj->Nat->Nat->PySem.W.BT
 |0,_,_,_=>.nil
 |f+1,l,a,b=>(l[b]?).elim .nil λo=>.node o (ue f l (2*a) (a+b)) (ue f l (2*a) (2*a+b))
def toT(s:N3):SharedT:=⟨ue 12 s.heap.objs.toList 1 0,s.heap.objs.size,s.heap.life,s.gens,s.drawn,s.toks,s.os⟩
theorem LU{p q:N5}{loose:List Str}{Xt:N3->Bool}{α:Type}{Yf:N3->α}{Ya:N9->α}{N:Nat}{g0:Bool}{H₀:Qi->Oe}{gs₀:Array P8}{d₀:Drawn}{k₀ m₀:Nat}{ann:Option VA}{n0 nb n nf:Nat}{b:List Oo}{env:Rl}{qp p0 p1 p2:Qa}{sa:N9->Px->N3}{sb sc:N9->Px->SharedT}{sf:N9->Px->N3}(open_:∀w:N9,(fencedOpening Oj p w N).map (λs=>(s.heap,s.gens,s.drawn,s.toks))=some (H₀ w.params,gs₀,d₀,k₀))(size:∀w:N9,((H₀ w.params).isNs Ob&&gs₀.size == 0,(H₀ w.params).objs.size,(H₀ w.params).nsMap Ob "__annotations__")=(true,m₀,ann))(pre:∀w os,topGo Oj p w m₀ ann n0 ⟨H₀ w.params,gs₀,d₀,k₀,os⟩ (topStub p)=some (sa w os,⟨denote Oj (.body b env),.body b env,p0,[QM qp]⟩))(block:∀w os,segRun Oj p w m₀ ann 1 nb (sa w os) (blockOf b env (.body b env) p0 [QM qp])=some (.next,(sb w os).abs,.body b env,p1))(main:∀w os,segRunT Oj p w m₀ ann 1 n (sb w os) (piecesOf b env (.body b env) p1 [QM qp])=some (.next,sc w os,.body b env,p2))(fin:∀w os,topRun Oj p w m₀ ann nf (sc w os).abs ⟨doneF .next,.body b env,p2,[QM qp]⟩=some (sf w os))(le:Nat.ble (n0+(nb+(n+nf))) N=true)(looks:∀w os,((RI (OY p.main.body) (H₀ w.params) (sf w os).heap&&Ro p (sf w os).heap&&gensDone (sf w os)&&laidKept (H₀ w.params) (sf w os).heap),
    openSeen q loose (OY p.main.body) Xt g0 (sf w os),Yf (sf w os))=(true,openGood q loose,Ya w)):LeftO p q loose Xt Yf Ya N g0:=λw=>by
 obtain⟨⟨h,gs,d,k,os⟩,e,e'⟩:=U1.mp (open_ w);obtain⟨rfl,rfl,rfl,rfl⟩:h=H₀ w.params/\gs=gs₀/\d=d₀/\k=k₀:=by simpa using e'
 obtain⟨z1,z2,z3⟩:_/\_/\_:=by simpa only[Prod.mk.injEq]using size w
 obtain⟨l1,l2,l3⟩:_/\_/\_:=by simpa only[Prod.mk.injEq]using looks w os
 have r1:=piece_app (rest:=[]) (segRun_of (main w os)) (piece_nil (fin w os));rw[Sw]at r1;have r3:=go_top (pre w os) (piece_block (block w os) r1);have r:=topRun_mono (N - (n0+(nb+(n+nf)))) _ _ _ _ r3;rw[show n0+(nb+(n+nf))+(N - (n0+(nb+(n+nf))))=N by have:=Uj le;omega]at r;have t:Rv Oj p w N ⟨H₀ w.params,gs,d,k,os⟩=some (sf w os):=by
  unfold Rv;dsimp only;rw[z1,z2,z3,r];show(match RI (OY p.main.body) (H₀ w.params) (sf w os).heap&&Ro p (sf w os).heap&&gensDone (sf w os)&&laidKept (H₀ w.params) (sf w os).heap with|true=>_|false=>_)=_
  rw[l1]
 unfold openEnds;rw[e];show(Rv Oj p w N _).map _=_;rw[t];exact NW some (Prod.ext l2 l3)
abbrev Mc(name qual:Str)(params:Arguments)(body:List Oo)(scope:PF)(globals:VB)(closure:List (Str×VB))(dV kV doc pm:VA)(an:Option VB)(cdv ct:VA)(bl:VB):Oa:=
 {name,qualname:=qual,params,body:=.stmts body,scope,globals,closure,defaults:=dV,kwdefaults:=kV,doc,pyModule:=pm,annotations:=an,code:=cdv,closureTuple:=ct,builtins:=bl}
noncomputable def stT(t:PySem.W.BT)(n k:Nat)(P:Qi)(os:Px):SharedT:=⟨t,n,(boot_heap P).life,Array.mk [],boot_drawn,k,os⟩
theorem yh{p q:N5}{loose:List Str}{Xt:N3->Bool}{α:Type}{Yf:N3->α}{Ya:N9->α}{N:Nat}{g0:Bool}{H₀:Qi->Oe}{gs₀:Array P8}{d₀:Drawn}{k₀ m₀:Nat}{ann:Option VA}{n0 nb n:Nat}{b:List Oo}{env:Rl}{qp p0 p1:Qa}{sa:N9->Px->N3}{sb:N9->Px->SharedT}{sf:N9->Px->N3}(open_:∀w:N9,(fencedOpening Oj p w N).map (λs=>(s.heap,s.gens,s.drawn,s.toks))=some (H₀ w.params,gs₀,d₀,k₀))(size:∀w:N9,((H₀ w.params).isNs Ob&&gs₀.size == 0,(H₀ w.params).objs.size,(H₀ w.params).nsMap Ob "__annotations__")=(true,m₀,ann))(pre:∀w os,topGo Oj p w m₀ ann n0 ⟨H₀ w.params,gs₀,d₀,k₀,os⟩ (topStub p)=some (sa w os,⟨denote Oj (.body b env),.body b env,p0,[QM qp]⟩))(block:∀w os,segRun Oj p w m₀ ann 1 nb (sa w os) (blockOf b env (.body b env) p0 [QM qp])=some (.next,(sb w os).abs,.body b env,p1))(main:∀w os,topRun Oj p w m₀ ann n (sb w os).abs (restOf b env (.body b env) p1 [QM qp])=some (sf w os))(le:Nat.ble (n0+(nb+n)) N=true)(looks:∀w os,((RI (OY p.main.body) (H₀ w.params) (sf w os).heap&&Ro p (sf w os).heap&&gensDone (sf w os)&&laidKept (H₀ w.params) (sf w os).heap),
    openSeen q loose (OY p.main.body) Xt g0 (sf w os),Yf (sf w os))=(true,openGood q loose,Ya w)):LeftO p q loose Xt Yf Ya N g0:=λw=>by
 obtain⟨⟨h,gs,d,k,os⟩,e,e'⟩:=U1.mp (open_ w);obtain⟨rfl,rfl,rfl,rfl⟩:h=H₀ w.params/\gs=gs₀/\d=d₀/\k=k₀:=by simpa using e'
 obtain⟨z1,z2,z3⟩:_/\_/\_:=by simpa only[Prod.mk.injEq]using size w
 obtain⟨l1,l2,l3⟩:_/\_/\_:=by simpa only[Prod.mk.injEq]using looks w os
 have r3:=go_top (pre w os) (piece_block (block w os) (main w os));have r:=topRun_mono (N - (n0+(nb+n))) _ _ _ _ r3;rw[show n0+(nb+n)+(N - (n0+(nb+n)))=N by have:=Uj le;omega]at r;have t:Rv Oj p w N ⟨H₀ w.params,gs,d,k,os⟩=some (sf w os):=by
  unfold Rv;dsimp only;rw[z1,z2,z3,r];show(match RI (OY p.main.body) (H₀ w.params) (sf w os).heap&&Ro p (sf w os).heap&&gensDone (sf w os)&&laidKept (H₀ w.params) (sf w os).heap with|true=>_|false=>_)=_
  rw[l1]
 unfold openEnds;rw[e];show(Rv Oj p w N _).map _=_;rw[t];exact NW some (Prod.ext l2 l3)
def wN(as:List VB)(s:N3):List (Option Obj):=as.map s.heap.get?
def wM(K:Qi->Frag)(w:N9):List (Option Obj):=(K w.params).map λp=>some p.2
theorem L3{K:Qi->Frag}{as:List VB}(e:∀P,as=(K P).map (·.1))(w:N9)(s₀ s₁:N3)(y:wN as s₀=wM K w)(k:∀b o,s₀.heap.get? b=some o->s₁.heap.get? b=some o):(K w.params).In s₁.heap:=
 InK.keeps w s₀.heap s₁.heap (InK.of e w s₀ y) k
end L2
namespace K16
open PySem L2
def ζw:List Str->Nat->List VA
 | [],_=>[]
 |x::r,n=>.str x n::ζw r (n+1)
noncomputable abbrev fZ(l:List Str)(n:Nat):Array VA:=⟨ζw l n⟩
noncomputable abbrev eH(x:Array VA)(n:Nat):Obj:=⟨.type "tuple",none,.seq x n,#[]⟩
noncomputable abbrev dz(a b:Str)(s:Oo):Obj:=⟨.none,none,.func (L2.Mc a b (fG s) (dO s) (al s) 0 [] .none .none .none .none none .none .none 0),#[]⟩
noncomputable abbrev gb(a b:Str)(n m l:Nat)(i j k o:Int)(r:Nat)(f:Bool)(p:Int)(q x y z:Nat)(u v:Int)(e:Nat):Obj:=⟨.type "code",none,.fields #[.str a n,.str b m,.str "/claim/cut.py" l,.int i 0,.int j 0,.int 0 0,.int k 0,.int o 0,.ref r,.bool f,.int p 0,.ref q,.none,.ref x,.ref y,.ref z,.int u 0,.int v 0,.str "/claim/cut.py" e],#[]⟩
noncomputable abbrev Hd(a b:Str)(n m l:Nat)(i j k o:Int)(r:Nat)(f:Bool)(p:Int)(q:Nat)(u v:Int)(e:Nat):Obj:=⟨.type "code",none,.fields #[.str a n,.str b m,.str "/claim/cut.py" l,.int i 0,.int j 0,.int 0 0,.int k 0,.int o 0,.ref r,.bool f,.int p 0,.ref q,.none,.none,.none,.none,.int u 0,.int v 0,.str "/claim/cut.py" e],#[]⟩
noncomputable abbrev dA(a b:Str)(s:Oo)(m:Str)(n c:Nat):Obj:=⟨.type "function",none,.func (Va a b (fG s) (dO s) (al s) .none .none .none (.str m n) none (.ref c) .none),#[]⟩
noncomputable abbrev ME(x:Array VA):Obj:=⟨.none,none,.fields x,#[]⟩
noncomputable abbrev tY(x:Array VA):Obj:=⟨.type "code",none,.fields x,#[]⟩
noncomputable abbrev a8(P:Qi)(x:Str)(n:Nat)(v:VA):DictEntry:=⟨PyData.keyHash P x,.str x n,v⟩
noncomputable abbrev aI(x:Obj):PySem.W.BT:=.node x .nil .nil
noncomputable abbrev aG(x:Obj)(a b:PySem.W.BT):PySem.W.BT:=.node x a b
noncomputable abbrev bU:VA:=.int 0 0
noncomputable abbrev jc(n:Nat):VA:=.str "/claim/cut.py" n
noncomputable abbrev aP(n:Int):VA:=.int n 0
abbrev hP:N5:=PySem.Challenge.pw_playboard_k16_whole_places_stay_good
noncomputable def hQ:N5:={hP with main:={hP.main with body:=bm 1::bm 2::bm 3::bm 4::bm 6::bm 7::bm 8::bm 9::bm 11::bm 12::bm 13::bm 14::bm 15::bm 16::bm 17::bm 18::bm 19::bm 20::bm 21::bm 22::bm 23::bm 24::bm 25::bm 26::bm 27::bm 28::bm 30::bm 31::bm 32::bm 33::bm 34::bm 35::bm 36::bm 37::bm 38::bm 39::bm 41::bm 43::bm 44::bm 45::bm 46::bm 47::bm 49::bm 50::bm 51::bm 52::bm 53::bm 55::bm 56::bm 57::bm 58::bm 60::bm 61::bm 62::bm 64::bm 66::bm 67::bm 69::bm 70::bm 71::bm 72::bm 73::bm 74::bm 75::bm 76::bm 77::bm 78::bm 79::bm 80::bm 81::bm 82::[]}}
noncomputable section
variable(P:Qi)
def zo3:Obj:=⟨(.type "dict"),none,(.dict #[a8 P "__name__" 165 (.str "law_playboard_k16_whole_places_stay_good" 758),a8 P "__doc__" 166 .none,a8 P "__package__" 167 .none,a8 P "__loader__" 168 (.builtin "__main__.__loader__#opaque"),a8 P "__spec__" 169 .none,a8 P "__annotations__" 170 (.ref 6),a8 P "__builtins__" 171 (.ref 4),a8 P "__file__" 173 (jc 172),a8 P "__cached__" 174 .none,a8 P "PlayError" 206 (.ref 24),a8 P "BadBoard" 222 (.ref 37),a8 P "BadGame" 238 (.ref 49),a8 P "NoMove" 254 (.ref 61),a8 P "is_whole" 263 (.ref 70),a8 P "is_letter" 270 (.ref 77),a8 P "is_among" 279 (.ref 84),a8 P "number_text" 289 (.ref 91),a8 P "SORTS" 295 (.ref 92),a8 P "AIMS" 299 (.ref 93),a8 P "END_WORDS" 302 (.ref 94),a8 P "STUCK_WORDS" 306 (.ref 95),a8 P "MOST_KINDS" 308 (.int 6 307),a8 P "MOST_RULES" 310 (.int 24 309),a8 P "MOST_PAIRS" 312 (.int 6 311),a8 P "is_word" 320 (.ref 102),a8 P "is_tuple_of" 328 (.ref 109),a8 P "is_list_of" 337 (.ref 116),a8 P "is_step" 347 (.ref 123),a8 P "is_rule" 357 (.ref 130),a8 P "is_pair" 366 (.ref 137),a8 P "are_pairs" 372 (.ref 142),a8 P "is_turns" 378 (.ref 147),a8 P "is_ends" 386 (.ref 154),a8 P "are_kinds" 392 (.ref 159),a8 P "are_rules" 398 (.ref 164),a8 P "EMPTY" 402 (.str "." 401),a8 P "HOLE" 404 (.str "#" 403),a8 P "sign_of" 412 (.ref 171),a8 P "kind_of" 419 (.ref 178),a8 P "side_of" 426 (.ref 185),a8 P "empty_row" 432 (.ref 190),a8 P "put" 441 (.ref 197),a8 P "squares_of" 447 (.ref 202),a8 P "is_row" 453 (.ref 207),a8 P "is_place" 461 (.ref 214),a8 P "ray" 475 (.ref 221),a8 P "NOTHING" 480 (.int (-1) 479),a8 P "slid" 493 (.ref 228),a8 P "jumped" 502 (.ref 235),a8 P "by_rule" 514 (.ref 242),a8 P "goals" 525 (.ref 249),a8 P "COLUMNS" 529 (.str "abcdefghijklmnopqrstuvwxyz" 528),a8 P "column_of" 537 (.ref 256),a8 P "row_of" 545 (.ref 263),a8 P "square_at" 554 (.ref 270),a8 P "square_text" 562 (.ref 277),a8 P "moves" 570 (.ref 282),a8 P "arrived" 580 (.ref 289),a8 P "behind" 595 (.ref 296),a8 P "done" 604 (.ref 303),a8 P "LONGEST" 608 (.int 8 607),a8 P "are_holes" 614 (.ref 308),a8 P "Board" 679 (.ref 349),a8 P "Game" 734 (.ref 382),a8 P "move_text" 747 (.ref 393),a8 P "move_of" 757 (.ref 400),a8 P "_law_cell_at" 767 (.ref 407),a8 P "_law_mixed" 775 (.ref 414),a8 P "_law_board" 788 (.ref 421),a8 P "_law_kinds" 794 (.ref 426),a8 P "_law_rule" 808 (.ref 433),a8 P "_law_turns" 814 (.ref 438),a8 P "_law_game" 832 (.ref 445),a8 P "_law_row" 838 (.ref 450),a8 P "_law_side" 845 (.ref 457),a8 P "_law_pieces" 851 (.ref 462),a8 P "_law_without" 860 (.ref 469),a8 P "_law_own_right" 874 (.ref 476),a8 P "_law_step_right" 890 (.ref 483),a8 P "law" 904 (.ref 490)] 80),#[]⟩
def ar:Obj:=eH #[] 0
def Nj:Obj:=ME #[(aP 2),bU,(.ref 20),(aP 4),bU,(.ref 33),(aP 6),bU,(.ref 45),(aP 8),bU,(.ref 57),(aP 11),bU,(.ref 69),(aP 13),bU,(.ref 76),(aP 15),bU,(.ref 83),(aP 17),bU,(.ref 90),(aP 36),bU,(.ref 101),(aP 38),bU,(.ref 108),(aP 40),bU,(.ref 115),(aP 42),bU,(.ref 122),(aP 47),bU,(.ref 129),(aP 57),bU,(.ref 136),(aP 59),bU,(.ref 141),(aP 61),bU,(.ref 146),(aP 68),bU,(.ref 153),(aP 70),bU,(.ref 158),(aP 74),bU,(.ref 163),(aP 79),bU,(.ref 170),(aP 81),bU,(.ref 177),(aP 83),bU,(.ref 184),(aP 87),bU,(.ref 189),(aP 89),bU,(.ref 196),(aP 91),bU,(.ref 201),(aP 93),bU,(.ref 206),(aP 99),bU,(.ref 213),(aP 102),bU,(.ref 220),(aP 113),bU,(.ref 227),(aP 124),bU,(.ref 234),(aP 128),bU,(.ref 241),(aP 134),bU,(.ref 248),(aP 141),bU,(.ref 255),(aP 143),bU,(.ref 262),(aP 145),bU,(.ref 269),(aP 147),bU,(.ref 276),(aP 150),bU,(.ref 281),(aP 156),bU,(.ref 288),(aP 160),bU,(.ref 295),(aP 170),bU,(.ref 302),(aP 176),bU,(.ref 307),(aP 182),bU,(.ref 314),(aP 211),bU,(.ref 359),(aP 237),bU,(.ref 392),(aP 246),bU,(.ref 399),(aP 252),bU,(.ref 406),(aP 256),bU,(.ref 413),(aP 258),bU,(.ref 420),(aP 272),bU,(.ref 425),(aP 276),bU,(.ref 432),(aP 290),bU,(.ref 437),(aP 297),bU,(.ref 444),(aP 312),bU,(.ref 449),(aP 328),bU,(.ref 456),(aP 332),bU,(.ref 461),(aP 334),bU,(.ref 468),(aP 337),bU,(.ref 475),(aP 346),bU,(.ref 482),(aP 366),bU,(.ref 489)]
def Ni:Obj:=Hd "<module>" "<module>" 182 183 184 1 0 0 0 11 false 181 12 185 1 186
def Nh:Obj:=⟨(.type "frame"),none,.plain,#[(some (.ref 13)),(some (.ref 3)),(some (.ref 3)),none,(some (.str "__main__" 164)),none,(some (.ref 0))]⟩
def K5:Obj:=eH #[(.type "ValueError")] 0
def xm:Obj:=⟨(.type "builtin_function_or_method"),none,(.fields #[(.builtin "type.__prepare__"),(.type "type")]),#[]⟩
def Ng:Obj:=⟨(.type "dict"),none,(.dict #[a8 P "__module__" 196 (.str "playboard.errors" 187),a8 P "__qualname__" 198 (.str "PlayError" 197),a8 P "__firstlineno__" 200 (.int 2 199),a8 P "__static_attributes__" 201 (.ref 22)] 4),#[]⟩
def bn:Obj:=ME #[]
def Nf:Obj:=Hd "PlayError" "PlayError" 191 192 193 2 0 0 0 18 false 181 19 194 2 195
def Nd:Obj:=⟨(.type "frame"),none,.plain,#[(some (.ref 20)),(some (.ref 3)),(some (.ref 17)),none,(some (.str "playboard.errors" 187)),none,(some (.ref 0))]⟩
def KP:Obj:=⟨(.type "dict"),none,(.dict #[a8 P "__module__" 196 (.str "playboard.errors" 187),a8 P "__firstlineno__" 200 (.int 2 199),a8 P "__static_attributes__" 201 (.ref 22),a8 P "__weakref__" 203 (.ref 25),a8 P "__doc__" 204 .none] 3),#[]⟩
def KN:Obj:=⟨(.type "type"),none,(.cls ⟨"PlayError",[(.type "ValueError")],[(.ref 24),(.type "ValueError"),(.type "Exception"),(.type "BaseException"),(.type "object")],23,"PlayError",true,[],[(.ref 37),(.ref 49),(.ref 61)],false,none,false⟩),#[(some (.ref 15)),none,(some (.str "PlayError" 189)),(some (.str "PlayError" 197)),(some (.builtin "ValueError.__new__")),(some (.bool true))]⟩
def KJ:Obj:=⟨(.type "getset_descriptor"),none,(.fields #[(.str "__weakref__" 202),(.ref 24),(.builtin "ExceptionGroup.__weakref__"),.none]),#[]⟩
def Nc:Obj:=⟨(.type "super"),none,(.fields #[(.ref 24),(.ref 24),(.ref 24)]),#[]⟩
def Nb:Obj:=⟨(.type "builtin_function_or_method"),none,(.fields #[(.builtin "object.__init_subclass__"),(.ref 24)]),#[]⟩
def xl:Obj:=eH #[(.ref 24)] 0
def Na:Obj:=⟨(.type "dict"),none,(.dict #[a8 P "__module__" 214 (.str "playboard.errors" 187),a8 P "__qualname__" 216 (.str "BadBoard" 215),a8 P "__firstlineno__" 218 (.int 4 217),a8 P "__static_attributes__" 219 (.ref 35)] 4),#[]⟩
def M9:Obj:=Hd "BadBoard" "BadBoard" 209 210 211 4 0 0 0 31 false 181 32 212 4 213
def M8:Obj:=⟨(.type "frame"),none,.plain,#[(some (.ref 33)),(some (.ref 3)),(some (.ref 30)),none,(some (.str "playboard.errors" 187)),none,(some (.ref 0))]⟩
def Kj:Obj:=⟨(.type "dict"),none,(.dict #[a8 P "__module__" 214 (.str "playboard.errors" 187),a8 P "__firstlineno__" 218 (.int 4 217),a8 P "__static_attributes__" 219 (.ref 35),a8 P "__doc__" 220 .none] 2),#[]⟩
def Kg:Obj:=⟨(.type "type"),none,(.cls ⟨"BadBoard",[(.ref 24)],[(.ref 37),(.ref 24),(.type "ValueError"),(.type "Exception"),(.type "BaseException"),(.type "object")],36,"BadBoard",true,[],[],false,none,false⟩),#[(some (.ref 28)),none,(some (.str "BadBoard" 207)),(some (.str "BadBoard" 215)),(some (.builtin "ValueError.__new__")),(some (.bool true))]⟩
def M7:Obj:=⟨(.type "super"),none,(.fields #[(.ref 37),(.ref 37),(.ref 37)]),#[]⟩
def M6:Obj:=⟨(.type "builtin_function_or_method"),none,(.fields #[(.builtin "object.__init_subclass__"),(.ref 37)]),#[]⟩
def M5:Obj:=⟨(.type "dict"),none,(.dict #[a8 P "__module__" 230 (.str "playboard.errors" 187),a8 P "__qualname__" 232 (.str "BadGame" 231),a8 P "__firstlineno__" 234 (.int 6 233),a8 P "__static_attributes__" 235 (.ref 47)] 4),#[]⟩
def M4:Obj:=Hd "BadGame" "BadGame" 225 226 227 6 0 0 0 43 false 181 44 228 6 229
def M3:Obj:=⟨(.type "frame"),none,.plain,#[(some (.ref 45)),(some (.ref 3)),(some (.ref 42)),none,(some (.str "playboard.errors" 187)),none,(some (.ref 0))]⟩
def JW:Obj:=⟨(.type "dict"),none,(.dict #[a8 P "__module__" 230 (.str "playboard.errors" 187),a8 P "__firstlineno__" 234 (.int 6 233),a8 P "__static_attributes__" 235 (.ref 47),a8 P "__doc__" 236 .none] 2),#[]⟩
def JT:Obj:=⟨(.type "type"),none,(.cls ⟨"BadGame",[(.ref 24)],[(.ref 49),(.ref 24),(.type "ValueError"),(.type "Exception"),(.type "BaseException"),(.type "object")],48,"BadGame",true,[],[],false,none,false⟩),#[(some (.ref 40)),none,(some (.str "BadGame" 223)),(some (.str "BadGame" 231)),(some (.builtin "ValueError.__new__")),(some (.bool true))]⟩
def M2:Obj:=⟨(.type "super"),none,(.fields #[(.ref 49),(.ref 49),(.ref 49)]),#[]⟩
def M0:Obj:=⟨(.type "builtin_function_or_method"),none,(.fields #[(.builtin "object.__init_subclass__"),(.ref 49)]),#[]⟩
def MZ:Obj:=⟨(.type "dict"),none,(.dict #[a8 P "__module__" 246 (.str "playboard.errors" 187),a8 P "__qualname__" 248 (.str "NoMove" 247),a8 P "__firstlineno__" 250 (.int 8 249),a8 P "__static_attributes__" 251 (.ref 59)] 4),#[]⟩
def MY:Obj:=Hd "NoMove" "NoMove" 241 242 243 8 0 0 0 55 false 181 56 244 8 245
def MX:Obj:=⟨(.type "frame"),none,.plain,#[(some (.ref 57)),(some (.ref 3)),(some (.ref 54)),none,(some (.str "playboard.errors" 187)),none,(some (.ref 0))]⟩
def JS:Obj:=⟨(.type "dict"),none,(.dict #[a8 P "__module__" 246 (.str "playboard.errors" 187),a8 P "__firstlineno__" 250 (.int 8 249),a8 P "__static_attributes__" 251 (.ref 59),a8 P "__doc__" 252 .none] 2),#[]⟩
def JR:Obj:=⟨(.type "type"),none,(.cls ⟨"NoMove",[(.ref 24)],[(.ref 61),(.ref 24),(.type "ValueError"),(.type "Exception"),(.type "BaseException"),(.type "object")],60,"NoMove",true,[],[],false,none,false⟩),#[(some (.ref 52)),none,(some (.str "NoMove" 239)),(some (.str "NoMove" 247)),(some (.builtin "ValueError.__new__")),(some (.bool true))]⟩
def MW:Obj:=⟨(.type "super"),none,(.fields #[(.ref 61),(.ref 61),(.ref 61)]),#[]⟩
def MV:Obj:=⟨(.type "builtin_function_or_method"),none,(.fields #[(.builtin "object.__init_subclass__"),(.ref 61)]),#[]⟩
def JQ:Obj:=eH #[(.str "thing" 260)] 0
def MU:Obj:=dz "is_whole" "is_whole" fN
def JP:Obj:=gb "is_whole" "is_whole" 257 258 259 11 1 0 3 64 true 181 65 66 67 68 261 11 262
def JO:Obj:=dA "is_whole" "is_whole" fN "playboard.words" 255 69
def JN:Obj:=eH #[(.str "thing" 267)] 0
def MT:Obj:=dz "is_letter" "is_letter" eO
def JM:Obj:=gb "is_letter" "is_letter" 264 265 266 13 1 0 3 71 true 181 72 73 74 75 268 13 269
def JL:Obj:=dA "is_letter" "is_letter" eO "playboard.words" 255 76
def JK:Obj:=eH (fZ ["thing","least","most"] 274) 0
def MS:Obj:=dz "is_among" "is_among" fQ
def JJ:Obj:=gb "is_among" "is_among" 271 272 273 15 3 0 3 78 true 181 79 80 81 82 277 15 278
def JI:Obj:=dA "is_among" "is_among" fQ "playboard.words" 255 83
def JH:Obj:=eH (fZ ["number","group","groups","left"] 283) 0
def MR:Obj:=dz "number_text" "number_text" c7
def JG:Obj:=gb "number_text" "number_text" 280 281 282 17 1 0 3 85 true 181 86 87 88 89 287 17 288
def JF:Obj:=dA "number_text" "number_text" c7 "playboard.words" 255 90
def JE:Obj:=eH (fZ ["leap","slide","jump"] 292) 0
def JD:Obj:=eH (fZ ["go","hit","any"] 296) 0
def JC:Obj:=eH (fZ ["without","home"] 300) 0
def JB:Obj:=eH (fZ ["lost","even","won"] 303) 0
def JA:Obj:=eH (fZ ["thing","words"] 316) 0
def Ld:Obj:=dz "is_word" "is_word" gM
def Go:Obj:=gb "is_word" "is_word" 313 314 315 36 2 0 3 96 true 181 97 98 99 100 318 36 319
def Gn:Obj:=dA "is_word" "is_word" gM "playboard.rules" 290 101
def Gm:Obj:=eH (fZ ["thing","many"] 324) 0
def Lc:Obj:=dz "is_tuple_of" "is_tuple_of" c8
def Gk:Obj:=gb "is_tuple_of" "is_tuple_of" 321 322 323 38 2 0 3 103 true 181 104 105 106 107 326 38 327
def Gj:Obj:=dA "is_tuple_of" "is_tuple_of" c8 "playboard.rules" 290 108
def Gi:Obj:=eH (fZ ["thing","least","most"] 332) 0
def Lb:Obj:=dz "is_list_of" "is_list_of" dF
def Gh:Obj:=gb "is_list_of" "is_list_of" 329 330 331 40 3 0 3 110 true 181 111 112 113 114 335 40 336
def Gg:Obj:=dA "is_list_of" "is_list_of" dF "playboard.rules" 290 115
def Gf:Obj:=eH (fZ ["sort","across","up","longest"] 341) 0
def La:Obj:=dz "is_step" "is_step" gO
def Ge:Obj:=gb "is_step" "is_step" 338 339 340 42 3 0 3 117 true 181 118 119 120 121 345 42 346
def Gd:Obj:=dA "is_step" "is_step" gO "playboard.rules" 290 122
def Gc:Obj:=eH (fZ ["thing","kinds","sort","aim"] 351) 0
def K9:Obj:=dz "is_rule" "is_rule" gP
def Gb:Obj:=gb "is_rule" "is_rule" 348 349 350 47 2 0 3 124 true 181 125 126 127 128 355 47 356
def Ga:Obj:=dA "is_rule" "is_rule" gP "playboard.rules" 290 129
def F0:Obj:=eH (fZ ["thing","firsts","seconds"] 361) 0
def K8:Obj:=dz "is_pair" "is_pair" gQ
def FZ:Obj:=gb "is_pair" "is_pair" 358 359 360 57 3 0 3 131 true 181 132 133 134 135 364 57 365
def FY:Obj:=dA "is_pair" "is_pair" gQ "playboard.rules" 290 136
def K7:Obj:=dz "are_pairs" "are_pairs" dn
def FX:Obj:=tY #[(.str "are_pairs" 367),(.str "are_pairs" 368),(jc 369),(aP 59),(aP 3),bU,bU,(aP 3),(.ref 138),(.bool true),(aP 181),(.ref 139),.none,.none,.none,(.ref 140),(aP 370),(aP 59),(jc 371)]
def FW:Obj:=dA "are_pairs" "are_pairs" dn "playboard.rules" 290 141
def K6:Obj:=dz "is_turns" "is_turns" dh
def FV:Obj:=tY #[(.str "is_turns" 373),(.str "is_turns" 374),(jc 375),(aP 61),(aP 2),bU,bU,(aP 3),(.ref 143),(.bool true),(aP 181),(.ref 144),.none,.none,.none,(.ref 145),(aP 376),(aP 61),(jc 377)]
def FU:Obj:=dA "is_turns" "is_turns" dh "playboard.rules" 290 146
def FT:Obj:=eH (fZ ["thing","kinds"] 382) 0
def K4:Obj:=dz "is_ends" "is_ends" gR
def FS:Obj:=gb "is_ends" "is_ends" 379 380 381 68 2 0 3 148 true 181 149 150 151 152 384 68 385
def FR:Obj:=dA "is_ends" "is_ends" gR "playboard.rules" 290 153
def K3:Obj:=dz "are_kinds" "are_kinds" dt
def FQ:Obj:=tY #[(.str "are_kinds" 387),(.str "are_kinds" 388),(jc 389),(aP 70),(aP 1),bU,bU,(aP 3),(.ref 155),(.bool true),(aP 181),(.ref 156),.none,.none,.none,(.ref 157),(aP 390),(aP 70),(jc 391)]
def FP:Obj:=dA "are_kinds" "are_kinds" dt "playboard.rules" 290 158
def K2:Obj:=dz "are_rules" "are_rules" dm
def FO:Obj:=tY #[(.str "are_rules" 393),(.str "are_rules" 394),(jc 395),(aP 74),(aP 2),bU,bU,(aP 3),(.ref 160),(.bool true),(aP 181),(.ref 161),.none,.none,.none,(.ref 162),(aP 396),(aP 74),(jc 397)]
def FN:Obj:=dA "are_rules" "are_rules" dm "playboard.rules" 290 163
def FM:Obj:=eH (fZ ["kind","side"] 408) 0
def K1:Obj:=dz "sign_of" "sign_of" gG
def FL:Obj:=gb "sign_of" "sign_of" 405 406 407 79 2 0 3 165 true 181 166 167 168 169 410 79 411
def FK:Obj:=dA "sign_of" "sign_of" gG "playboard.places" 399 170
def FJ:Obj:=eH #[(.str "sign" 416)] 0
def K0:Obj:=dz "kind_of" "kind_of" gK
def FI:Obj:=gb "kind_of" "kind_of" 413 414 415 81 1 0 3 172 true 181 173 174 175 176 417 81 418
def FH:Obj:=dA "kind_of" "kind_of" gK "playboard.places" 399 177
def FG:Obj:=eH #[(.str "sign" 423)] 0
def KZ:Obj:=dz "side_of" "side_of" gH
def FE:Obj:=gb "side_of" "side_of" 420 421 422 83 1 0 3 179 true 181 180 181 182 183 424 83 425
def FD:Obj:=dA "side_of" "side_of" gH "playboard.places" 399 184
def KY:Obj:=dz "empty_row" "empty_row" dk
def FC:Obj:=tY #[(.str "empty_row" 427),(.str "empty_row" 428),(jc 429),(aP 87),(aP 1),bU,bU,(aP 3),(.ref 186),(.bool true),(aP 181),(.ref 187),.none,.none,.none,(.ref 188),(aP 430),(aP 87),(jc 431)]
def FB:Obj:=dA "empty_row" "empty_row" dk "playboard.places" 399 189
def FA:Obj:=eH (fZ ["row","square","sign"] 436) 0
def KW:Obj:=dz "put" "put" rM
def Fz:Obj:=gb "put" "put" 433 434 435 89 3 0 3 191 true 181 192 193 194 195 439 89 440
def Fy:Obj:=dA "put" "put" rM "playboard.places" 399 196
def KU:Obj:=dz "squares_of" "squares_of" cR
def Fx:Obj:=tY #[(.str "squares_of" 442),(.str "squares_of" 443),(jc 444),(aP 91),(aP 2),bU,bU,(aP 3),(.ref 198),(.bool true),(aP 181),(.ref 199),.none,.none,.none,(.ref 200),(aP 445),(aP 91),(jc 446)]
def Fw:Obj:=dA "squares_of" "squares_of" cR "playboard.places" 399 201
def KT:Obj:=dz "is_row" "is_row" fO
def Fv:Obj:=tY #[(.str "is_row" 448),(.str "is_row" 449),(jc 450),(aP 93),(aP 2),bU,bU,(aP 3),(.ref 203),(.bool true),(aP 181),(.ref 204),.none,.none,.none,(.ref 205),(aP 451),(aP 93),(jc 452)]
def Fu:Obj:=dA "is_row" "is_row" fO "playboard.places" 399 206
def Ft:Obj:=eH (fZ ["game","thing"] 457) 0
def KS:Obj:=dz "is_place" "is_place" fP
def Fs:Obj:=gb "is_place" "is_place" 454 455 456 99 2 0 3 208 true 181 209 210 211 212 459 99 460
def Fq:Obj:=dA "is_place" "is_place" fP "playboard.places" 399 213
def Fp:Obj:=eH (fZ ["board","square","across","up","come_to","here"] 467) 0
def KR:Obj:=dz "ray" "ray" rL
def Fo:Obj:=gb "ray" "ray" 464 465 466 102 4 0 3 215 true 181 216 217 218 219 473 102 474
def Fn:Obj:=dA "ray" "ray" rL "playboard.rays" 462 220
def Fm:Obj:=eH (fZ ["row","side","aim","path","found","goal","owner"] 484) 0
def KQ:Obj:=dz "slid" "slid" mj
def Fk:Obj:=gb "slid" "slid" 481 482 483 113 4 0 3 222 true 181 223 224 225 226 491 113 492
def Fj:Obj:=dA "slid" "slid" mj "playboard.reach" 476 227
def Fi:Obj:=eH (fZ ["row","side","path"] 497) 0
def KO:Obj:=dz "jumped" "jumped" iC
def Fh:Obj:=gb "jumped" "jumped" 494 495 496 124 3 0 3 229 true 181 230 231 232 233 500 124 501
def Fg:Obj:=dA "jumped" "jumped" iC "playboard.reach" 476 234
def Ff:Obj:=eH (fZ ["board","row","square","rule","side","path"] 506) 0
def KM:Obj:=dz "by_rule" "by_rule" gS
def Fe:Obj:=gb "by_rule" "by_rule" 503 504 505 128 4 0 3 236 true 181 237 238 239 240 512 128 513
def Fd:Obj:=dA "by_rule" "by_rule" gS "playboard.reach" 476 241
def Fc:Obj:=eH (fZ ["game","row","square","found","rule"] 518) 0
def KL:Obj:=dz "goals" "goals" jN
def Fb:Obj:=gb "goals" "goals" 515 516 517 134 3 0 3 243 true 181 244 245 246 247 523 134 524
def Fa:Obj:=dA "goals" "goals" jN "playboard.reach" 476 248
def E9:Obj:=eH (fZ ["wide","square"] 533) 0
def KI:Obj:=dz "column_of" "column_of" eP
def E8:Obj:=gb "column_of" "column_of" 530 531 532 141 2 0 3 250 true 181 251 252 253 254 535 141 536
def E7:Obj:=dA "column_of" "column_of" eP "playboard.squares" 526 255
def E6:Obj:=eH (fZ ["wide","square"] 541) 0
def KH:Obj:=dz "row_of" "row_of" iB
def E5:Obj:=gb "row_of" "row_of" 538 539 540 143 2 0 3 257 true 181 258 259 260 261 543 143 544
def E4:Obj:=dA "row_of" "row_of" iB "playboard.squares" 526 262
def E3:Obj:=eH (fZ ["wide","column","row"] 549) 0
def KG:Obj:=dz "square_at" "square_at" eK
def E2:Obj:=gb "square_at" "square_at" 546 547 548 145 3 0 3 264 true 181 265 266 267 268 552 145 553
def E1:Obj:=dA "square_at" "square_at" eK "playboard.squares" 526 269
def EZ:Obj:=eH (fZ ["wide","square"] 558) 0
def KF:Obj:=dz "square_text" "square_text" cZ
def EY:Obj:=gb "square_text" "square_text" 555 556 557 147 2 0 3 271 true 181 272 273 274 275 560 147 561
def EX:Obj:=dA "square_text" "square_text" cZ "playboard.squares" 526 276
def KD:Obj:=dz "moves" "moves" iY
def EW:Obj:=tY #[(.str "moves" 565),(.str "moves" 566),(jc 567),(aP 150),(aP 2),bU,bU,(aP 3),(.ref 278),(.bool true),(aP 181),(.ref 279),.none,.none,.none,(.ref 280),(aP 568),(aP 150),(jc 569)]
def EV:Obj:=dA "moves" "moves" iY "playboard.moves" 563 281
def EU:Obj:=eH (fZ ["game","sign","side","goal"] 574) 0
def KC:Obj:=dz "arrived" "arrived" gT
def ET:Obj:=gb "arrived" "arrived" 571 572 573 156 4 0 3 283 true 181 284 285 286 287 578 156 579
def ES:Obj:=dA "arrived" "arrived" gT "playboard.moves" 563 288
def ER:Obj:=eH (fZ ["game","place","move","side","start","goal","taken","sign","row"] 584) 0
def KB:Obj:=dz "behind" "behind" iD
def EQ:Obj:=gb "behind" "behind" 581 582 583 160 3 0 3 290 true 181 291 292 293 294 593 160 594
def EO:Obj:=dA "behind" "behind" iD "playboard.moves" 563 295
def EN:Obj:=eH (fZ ["game","place","move"] 599) 0
def KA:Obj:=dz "done" "done" mn
def EM:Obj:=gb "done" "done" 596 597 598 170 3 0 3 297 true 181 298 299 300 301 602 170 603
def EL:Obj:=dA "done" "done" mn "playboard.moves" 563 302
def Kz:Obj:=dz "are_holes" "are_holes" du
def EK:Obj:=tY #[(.str "are_holes" 609),(.str "are_holes" 610),(jc 611),(aP 176),(aP 2),bU,bU,(aP 3),(.ref 304),(.bool true),(aP 181),(.ref 305),.none,.none,.none,(.ref 306),(aP 612),(aP 176),(jc 613)]
def EJ:Obj:=dA "are_holes" "are_holes" du "playboard.boards" 605 307
def Ky:Obj:=⟨(.type "dict"),none,(.dict #[a8 P "__module__" 622 (.str "playboard.boards" 605),a8 P "__qualname__" 624 (.str "Board" 623),a8 P "__firstlineno__" 626 (.int 182 625),a8 P "__init__" 632 (.ref 320),a8 P "has" 640 (.ref 327),a8 P "squares" 646 (.ref 332),a8 P "moved" 659 (.ref 339),a8 P "far_row" 667 (.ref 346),a8 P "__static_attributes__" 672 (.ref 347)] 9),#[]⟩
def Kx:Obj:=ME #[(aP 184),(aP 4),(.ref 319),(aP 194),(aP 4),(.ref 326),(aP 197),(aP 4),(.ref 331),(aP 200),(aP 4),(.ref 338),(aP 208),(aP 4),(.ref 345)]
def Kw:Obj:=Hd "Board" "Board" 617 618 619 182 0 0 0 312 false 181 313 620 182 621
def Kv:Obj:=⟨(.type "frame"),none,.plain,#[(some (.ref 314)),(some (.ref 3)),(some (.ref 311)),none,(some (.str "playboard.boards" 605)),none,(some (.ref 0))]⟩
def Ku:Obj:=dz "__init__" "Board.__init__" bS
def EI:Obj:=tY #[(.str "__init__" 627),(.str "Board.__init__" 628),(jc 629),(aP 184),(aP 4),bU,bU,(aP 3),(.ref 316),(.bool true),(aP 181),(.ref 317),.none,.none,.none,(.ref 318),(aP 630),(aP 184),(jc 631)]
def EH:Obj:=dA "__init__" "Board.__init__" bS "playboard.boards" 605 319
def EG:Obj:=eH (fZ ["self","square"] 636) 0
def Ks:Obj:=dz "has" "Board.has" eU
def EF:Obj:=gb "has" "Board.has" 633 634 635 194 2 0 3 321 true 181 322 323 324 325 638 194 639
def EE:Obj:=dA "has" "Board.has" eU "playboard.boards" 605 326
def Kr:Obj:=dz "squares" "Board.squares" ii
def ED:Obj:=tY #[(.str "squares" 641),(.str "Board.squares" 642),(jc 643),(aP 197),(aP 1),bU,bU,(aP 3),(.ref 328),(.bool true),(aP 181),(.ref 329),.none,.none,.none,(.ref 330),(aP 644),(aP 197),(jc 645)]
def EC:Obj:=dA "squares" "Board.squares" ii "playboard.boards" 605 331
def EB:Obj:=eH (fZ ["self","square","across","up","column","row","goal"] 650) 0
def Kq:Obj:=dz "moved" "Board.moved" db
def EA:Obj:=gb "moved" "Board.moved" 647 648 649 200 4 0 3 333 true 181 334 335 336 337 657 200 658
def Ez:Obj:=dA "moved" "Board.moved" db "playboard.boards" 605 338
def Ey:Obj:=eH (fZ ["self","side"] 663) 0
def Kp:Obj:=dz "far_row" "Board.far_row" cA
def Ex:Obj:=gb "far_row" "Board.far_row" 660 661 662 208 2 0 3 340 true 181 341 342 343 344 665 208 666
def Ew:Obj:=dA "far_row" "Board.far_row" cA "playboard.boards" 605 345
def Eu:Obj:=eH (fZ ["firm","high","holes","wide"] 668) 0
def Et:Obj:=⟨(.type "dict"),none,(.dict #[a8 P "__module__" 622 (.str "playboard.boards" 605),a8 P "__firstlineno__" 626 (.int 182 625),a8 P "__init__" 632 (.ref 320),a8 P "has" 640 (.ref 327),a8 P "squares" 646 (.ref 332),a8 P "moved" 659 (.ref 339),a8 P "far_row" 667 (.ref 346),a8 P "__static_attributes__" 672 (.ref 347),a8 P "__dict__" 674 (.ref 350),a8 P "__weakref__" 676 (.ref 351),a8 P "__doc__" 677 .none] 4),#[]⟩
def Es:Obj:=⟨(.type "type"),none,(.cls ⟨"Board",[(.type "object")],[(.ref 349),(.type "object")],348,"Board",true,[],[],false,none,false⟩),#[none,none,(some (.str "Board" 615)),(some (.str "Board" 623)),(some (.builtin "object.__new__")),(some (.bool true))]⟩
def Er:Obj:=⟨(.type "getset_descriptor"),none,(.fields #[(.str "__dict__" 673),(.ref 349),(.builtin "function.__dict__"),(.builtin "function.__dict__#set")]),#[]⟩
def Ep:Obj:=⟨(.type "getset_descriptor"),none,(.fields #[(.str "__weakref__" 675),(.ref 349),(.builtin "ExceptionGroup.__weakref__"),.none]),#[]⟩
def Ko:Obj:=⟨(.type "super"),none,(.fields #[(.ref 349),(.ref 349),(.ref 349)]),#[]⟩
def Kn:Obj:=⟨(.type "builtin_function_or_method"),none,(.fields #[(.builtin "object.__init_subclass__"),(.ref 349)]),#[]⟩
def Km:Obj:=⟨(.type "dict"),none,(.dict #[a8 P "__module__" 689 (.str "playboard.games" 680),a8 P "__qualname__" 691 (.str "Game" 690),a8 P "__firstlineno__" 693 (.int 211 692),a8 P "__init__" 706 (.ref 367),a8 P "rules_of" 712 (.ref 372),a8 P "turned" 720 (.ref 379),a8 P "__static_attributes__" 727 (.ref 380)] 7),#[]⟩
def Kl:Obj:=ME #[(aP 213),(aP 4),(.ref 366),(aP 231),(aP 4),(.ref 371),(aP 234),(aP 4),(.ref 378)]
def Kk:Obj:=Hd "Game" "Game" 684 685 686 211 0 0 0 357 false 181 358 687 211 688
def Ki:Obj:=⟨(.type "frame"),none,.plain,#[(some (.ref 359)),(some (.ref 3)),(some (.ref 356)),none,(some (.str "playboard.games" 680)),none,(some (.ref 0))]⟩
def Eo:Obj:=eH (fZ ["self","board","kinds","rules","turns","ends","stuck"] 697) 0
def Kh:Obj:=dz "__init__" "Game.__init__" cz
def En:Obj:=gb "__init__" "Game.__init__" 694 695 696 213 7 0 3 361 true 181 362 363 364 365 704 213 705
def Em:Obj:=dA "__init__" "Game.__init__" cz "playboard.games" 680 366
def Ke:Obj:=dz "rules_of" "Game.rules_of" bV
def Ek:Obj:=tY #[(.str "rules_of" 707),(.str "Game.rules_of" 708),(jc 709),(aP 231),(aP 2),bU,bU,(aP 3),(.ref 368),(.bool true),(aP 181),(.ref 369),.none,.none,.none,(.ref 370),(aP 710),(aP 231),(jc 711)]
def Ej:Obj:=dA "rules_of" "Game.rules_of" bV "playboard.games" 680 371
def Ei:Obj:=eH (fZ ["self","kind"] 716) 0
def Kd:Obj:=dz "turned" "Game.turned" da
def Eh:Obj:=gb "turned" "Game.turned" 713 714 715 234 2 0 3 373 true 181 374 375 376 377 718 234 719
def Eg:Obj:=dA "turned" "Game.turned" da "playboard.games" 680 378
def Ef:Obj:=eH (fZ ["board","ends","kinds","rules","stuck","turns"] 721) 0
def Ee:Obj:=⟨(.type "dict"),none,(.dict #[a8 P "__module__" 689 (.str "playboard.games" 680),a8 P "__firstlineno__" 693 (.int 211 692),a8 P "__init__" 706 (.ref 367),a8 P "rules_of" 712 (.ref 372),a8 P "turned" 720 (.ref 379),a8 P "__static_attributes__" 727 (.ref 380),a8 P "__dict__" 729 (.ref 383),a8 P "__weakref__" 731 (.ref 384),a8 P "__doc__" 732 .none] 4),#[]⟩
def Ed:Obj:=⟨(.type "type"),none,(.cls ⟨"Game",[(.type "object")],[(.ref 382),(.type "object")],381,"Game",true,[],[],false,none,false⟩),#[none,none,(some (.str "Game" 682)),(some (.str "Game" 690)),(some (.builtin "object.__new__")),(some (.bool true))]⟩
def Ec:Obj:=⟨(.type "getset_descriptor"),none,(.fields #[(.str "__dict__" 728),(.ref 382),(.builtin "function.__dict__"),(.builtin "function.__dict__#set")]),#[]⟩
def Eb:Obj:=⟨(.type "getset_descriptor"),none,(.fields #[(.str "__weakref__" 730),(.ref 382),(.builtin "ExceptionGroup.__weakref__"),.none]),#[]⟩
def Kc:Obj:=⟨(.type "super"),none,(.fields #[(.ref 382),(.ref 382),(.ref 382)]),#[]⟩
def Kb:Obj:=⟨(.type "builtin_function_or_method"),none,(.fields #[(.builtin "object.__init_subclass__"),(.ref 382)]),#[]⟩
def Ea:Obj:=eH (fZ ["game","move","wide","start","goal"] 740) 0
def Ka:Obj:=dz "move_text" "move_text" eM
def D9:Obj:=gb "move_text" "move_text" 737 738 739 237 2 0 3 387 true 181 388 389 390 391 745 237 746
def D8:Obj:=dA "move_text" "move_text" eM "playboard.movetexts" 735 392
def D7:Obj:=eH (fZ ["game","place","text","move"] 751) 0
def J9:Obj:=dz "move_of" "move_of" gJ
def D6:Obj:=gb "move_of" "move_of" 748 749 750 246 3 0 3 394 true 181 395 396 397 398 755 246 756
def D5:Obj:=dA "move_of" "move_of" gJ "playboard.movetexts" 735 399
def D4:Obj:=eH (fZ ["_law_script","_law_k"] 763) 0
def J8:Obj:=dz "_law_cell_at" "_law_cell_at" cN
def D3:Obj:=gb "_law_cell_at" "_law_cell_at" 760 761 762 252 2 0 3 401 true 181 402 403 404 405 765 252 766
def D0:Obj:=dA "_law_cell_at" "_law_cell_at" cN "law_playboard_k16_whole_places_stay_good" 758 406
def DZ:Obj:=eH (fZ ["_law_cell","_law_k"] 771) 0
def J7:Obj:=dz "_law_mixed" "_law_mixed" dG
def DY:Obj:=gb "_law_mixed" "_law_mixed" 768 769 770 256 2 0 3 408 true 181 409 410 411 412 773 256 774
def DX:Obj:=dA "_law_mixed" "_law_mixed" dG "law_playboard_k16_whole_places_stay_good" 758 413
def DW:Obj:=eH (fZ ["_law_script","_law_cell","_law_wide","_law_high","_law_holes","_law_k","_law_hole"] 779) 0
def J6:Obj:=dz "_law_board" "_law_board" dH
def DV:Obj:=gb "_law_board" "_law_board" 776 777 778 258 1 0 3 415 true 181 416 417 418 419 786 258 787
def DU:Obj:=dA "_law_board" "_law_board" dH "law_playboard_k16_whole_places_stay_good" 758 420
def J5:Obj:=dz "_law_kinds" "_law_kinds" cT
def DT:Obj:=tY #[(.str "_law_kinds" 789),(.str "_law_kinds" 790),(jc 791),(aP 272),(aP 1),bU,bU,(aP 3),(.ref 422),(.bool true),(aP 181),(.ref 423),.none,.none,.none,(.ref 424),(aP 792),(aP 272),(jc 793)]
def DS:Obj:=dA "_law_kinds" "_law_kinds" cT "law_playboard_k16_whole_places_stay_good" 758 425
def DR:Obj:=eH (fZ ["_law_cell","_law_kinds_here","_law_more","_law_sort","_law_aim","_law_reach","_law_across","_law_up"] 798) 0
def J4:Obj:=dz "_law_rule" "_law_rule" eS
def DQ:Obj:=gb "_law_rule" "_law_rule" 795 796 797 276 2 0 3 427 true 181 428 429 430 431 806 276 807
def DP:Obj:=dA "_law_rule" "_law_rule" eS "law_playboard_k16_whole_places_stay_good" 758 432
def J3:Obj:=dz "_law_turns" "_law_turns" cS
def DO:Obj:=tY #[(.str "_law_turns" 809),(.str "_law_turns" 810),(jc 811),(aP 290),(aP 2),bU,bU,(aP 3),(.ref 434),(.bool true),(aP 181),(.ref 435),.none,.none,.none,(.ref 436),(aP 812),(aP 290),(jc 813)]
def DN:Obj:=dA "_law_turns" "_law_turns" cS "law_playboard_k16_whole_places_stay_good" 758 437
def DM:Obj:=eH (fZ ["_law_script","_law_wide","_law_high","_law_holes","_law_kinds_here","_law_cell","_law_rules","_law_k","_law_turns_here","_law_ends","_law_more","_law_stuck"] 818) 0
def J2:Obj:=dz "_law_game" "_law_game" eT
def DL:Obj:=gb "_law_game" "_law_game" 815 816 817 297 1 0 3 439 true 181 440 441 442 443 830 297 831
def DK:Obj:=dA "_law_game" "_law_game" eT "law_playboard_k16_whole_places_stay_good" 758 444
def J1:Obj:=dz "_law_row" "_law_row" cw
def DJ:Obj:=tY #[(.str "_law_row" 833),(.str "_law_row" 834),(jc 835),(aP 312),(aP 3),bU,bU,(aP 3),(.ref 446),(.bool true),(aP 181),(.ref 447),.none,.none,.none,(.ref 448),(aP 836),(aP 312),(jc 837)]
def DI:Obj:=dA "_law_row" "_law_row" cw "law_playboard_k16_whole_places_stay_good" 758 449
def DH:Obj:=eH #[(.str "_law_sign" 842)] 0
def J0:Obj:=dz "_law_side" "_law_side" eQ
def DG:Obj:=gb "_law_side" "_law_side" 839 840 841 328 1 0 3 451 true 181 452 453 454 455 843 328 844
def DF:Obj:=dA "_law_side" "_law_side" eQ "law_playboard_k16_whole_places_stay_good" 758 456
def JZ:Obj:=dz "_law_pieces" "_law_pieces" cD
def DE:Obj:=tY #[(.str "_law_pieces" 846),(.str "_law_pieces" 847),(jc 848),(aP 332),(aP 2),bU,bU,(aP 3),(.ref 458),(.bool true),(aP 181),(.ref 459),.none,.none,.none,(.ref 460),(aP 849),(aP 332),(jc 850)]
def DD:Obj:=dA "_law_pieces" "_law_pieces" cD "law_playboard_k16_whole_places_stay_good" 758 461
def DC:Obj:=eH (fZ ["_law_signs","_law_sign","_law_at"] 855) 0
def JY:Obj:=dz "_law_without" "_law_without" cM
def DB:Obj:=gb "_law_without" "_law_without" 852 853 854 334 2 0 3 463 true 181 464 465 466 467 858 334 859
def Dz:Obj:=dA "_law_without" "_law_without" cM "law_playboard_k16_whole_places_stay_good" 758 468
def Dy:Obj:=eH (fZ ["_law_game_here","_law_ahead","_law_behind","_law_place","_law_move","_law_before","_law_now","_law_kind"] 864) 0
def JX:Obj:=dz "_law_own_right" "_law_own_right" ci
def Dx:Obj:=gb "_law_own_right" "_law_own_right" 861 862 863 337 5 0 3 470 true 181 471 472 473 474 872 337 873
def Dw:Obj:=dA "_law_own_right" "_law_own_right" ci "law_playboard_k16_whole_places_stay_good" 758 475
def Dv:Obj:=eH (fZ ["_law_game_here","_law_place","_law_move","_law_behind","_law_start","_law_goal","_law_taken","_law_row_here","_law_square","_law_others"] 878) 0
def JV:Obj:=dz "_law_step_right" "_law_step_right" bX
def Du:Obj:=gb "_law_step_right" "_law_step_right" 875 876 877 346 4 0 3 477 true 181 478 479 480 481 888 346 889
def Dt:Obj:=dA "_law_step_right" "_law_step_right" bX "law_playboard_k16_whole_places_stay_good" 758 482
def Ds:Obj:=eH (fZ ["_law_script","_law_game_here","_law_place","_law_k","_law_cell","_law_found","_law_move","_law_behind"] 894) 0
def JU:Obj:=dz "law" "law" jM
def Dr:Obj:=gb "law" "law" 891 892 893 366 1 0 3 484 true 181 485 486 487 488 902 366 903
def Dq:Obj:=dA "law" "law" jM "law_playboard_k16_whole_places_stay_good" 758 489
end
noncomputable def hK(P:Qi):Frag:=(nat_lit 2,Vv P)::(nat_lit 3,zo3 P)::(nat_lit 15,K5)::(nat_lit 22,ar)::(nat_lit 23,KP P)::(nat_lit 24,KN)::(nat_lit 25,KJ)::(nat_lit 28,xl)::(nat_lit 35,ar)::(nat_lit 36,Kj P)::(nat_lit 37,Kg)::(nat_lit 40,xl)::(nat_lit 47,ar)::(nat_lit 48,JW P)::(nat_lit 49,JT)::(nat_lit 52,xl)::(nat_lit 59,ar)::(nat_lit 60,JS P)::(nat_lit 61,JR)::(nat_lit 64,ar)::(nat_lit 66,JQ)::(nat_lit 67,ar)::(nat_lit 69,JP)::(nat_lit 70,JO)::(nat_lit 71,ar)::(nat_lit 73,JN)::(nat_lit 74,ar)::(nat_lit 76,JM)::(nat_lit 77,JL)::(nat_lit 78,ar)::(nat_lit 80,JK)::(nat_lit 81,ar)::(nat_lit 83,JJ)::(nat_lit 84,JI)::(nat_lit 85,ar)::(nat_lit 87,JH)::(nat_lit 88,ar)::(nat_lit 90,JG)::(nat_lit 91,JF)::(nat_lit 92,JE)::(nat_lit 93,JD)::(nat_lit 94,JC)::(nat_lit 95,JB)::(nat_lit 96,ar)::(nat_lit 98,JA)::(nat_lit 99,ar)::(nat_lit 101,Go)::(nat_lit 102,Gn)::(nat_lit 103,ar)::(nat_lit 105,Gm)::(nat_lit 106,ar)::(nat_lit 108,Gk)::(nat_lit 109,Gj)::(nat_lit 110,ar)::(nat_lit 112,Gi)::(nat_lit 113,ar)::(nat_lit 115,Gh)::(nat_lit 116,Gg)::(nat_lit 117,ar)::(nat_lit 119,Gf)::(nat_lit 120,ar)::(nat_lit 122,Ge)::(nat_lit 123,Gd)::(nat_lit 124,ar)::(nat_lit 126,Gc)::(nat_lit 127,ar)::(nat_lit 129,Gb)::(nat_lit 130,Ga)::(nat_lit 131,ar)::(nat_lit 133,F0)::(nat_lit 134,ar)::(nat_lit 136,FZ)::(nat_lit 137,FY)::(nat_lit 138,ar)::(nat_lit 141,FX)::(nat_lit 142,FW)::(nat_lit 143,ar)::(nat_lit 146,FV)::(nat_lit 147,FU)::(nat_lit 148,ar)::(nat_lit 150,FT)::(nat_lit 151,ar)::(nat_lit 153,FS)::(nat_lit 154,FR)::(nat_lit 155,ar)::(nat_lit 158,FQ)::(nat_lit 159,FP)::(nat_lit 160,ar)::(nat_lit 163,FO)::(nat_lit 164,FN)::(nat_lit 165,ar)::(nat_lit 167,FM)::(nat_lit 168,ar)::(nat_lit 170,FL)::(nat_lit 171,FK)::(nat_lit 172,ar)::(nat_lit 174,FJ)::(nat_lit 175,ar)::(nat_lit 177,FI)::(nat_lit 178,FH)::(nat_lit 179,ar)::(nat_lit 181,FG)::(nat_lit 182,ar)::(nat_lit 184,FE)::(nat_lit 185,FD)::(nat_lit 186,ar)::(nat_lit 189,FC)::(nat_lit 190,FB)::(nat_lit 191,ar)::(nat_lit 193,FA)::(nat_lit 194,ar)::(nat_lit 196,Fz)::(nat_lit 197,Fy)::(nat_lit 198,ar)::(nat_lit 201,Fx)::(nat_lit 202,Fw)::(nat_lit 203,ar)::(nat_lit 206,Fv)::(nat_lit 207,Fu)::(nat_lit 208,ar)::(nat_lit 210,Ft)::(nat_lit 211,ar)::(nat_lit 213,Fs)::(nat_lit 214,Fq)::(nat_lit 215,ar)::(nat_lit 217,Fp)::(nat_lit 218,ar)::(nat_lit 220,Fo)::(nat_lit 221,Fn)::(nat_lit 222,ar)::(nat_lit 224,Fm)::(nat_lit 225,ar)::(nat_lit 227,Fk)::(nat_lit 228,Fj)::(nat_lit 229,ar)::(nat_lit 231,Fi)::(nat_lit 232,ar)::(nat_lit 234,Fh)::(nat_lit 235,Fg)::(nat_lit 236,ar)::(nat_lit 238,Ff)::(nat_lit 239,ar)::(nat_lit 241,Fe)::(nat_lit 242,Fd)::(nat_lit 243,ar)::(nat_lit 245,Fc)::(nat_lit 246,ar)::(nat_lit 248,Fb)::(nat_lit 249,Fa)::(nat_lit 250,ar)::(nat_lit 252,E9)::(nat_lit 253,ar)::(nat_lit 255,E8)::(nat_lit 256,E7)::(nat_lit 257,ar)::(nat_lit 259,E6)::(nat_lit 260,ar)::(nat_lit 262,E5)::(nat_lit 263,E4)::(nat_lit 264,ar)::(nat_lit 266,E3)::(nat_lit 267,ar)::(nat_lit 269,E2)::(nat_lit 270,E1)::(nat_lit 271,ar)::(nat_lit 273,EZ)::(nat_lit 274,ar)::(nat_lit 276,EY)::(nat_lit 277,EX)::(nat_lit 278,ar)::(nat_lit 281,EW)::(nat_lit 282,EV)::(nat_lit 283,ar)::(nat_lit 285,EU)::(nat_lit 286,ar)::(nat_lit 288,ET)::(nat_lit 289,ES)::(nat_lit 290,ar)::(nat_lit 292,ER)::(nat_lit 293,ar)::(nat_lit 295,EQ)::(nat_lit 296,EO)::(nat_lit 297,ar)::(nat_lit 299,EN)::(nat_lit 300,ar)::(nat_lit 302,EM)::(nat_lit 303,EL)::(nat_lit 304,ar)::(nat_lit 307,EK)::(nat_lit 308,EJ)::(nat_lit 316,ar)::(nat_lit 319,EI)::(nat_lit 320,EH)::(nat_lit 321,ar)::(nat_lit 323,EG)::(nat_lit 324,ar)::(nat_lit 326,EF)::(nat_lit 327,EE)::(nat_lit 328,ar)::(nat_lit 331,ED)::(nat_lit 332,EC)::(nat_lit 333,ar)::(nat_lit 335,EB)::(nat_lit 336,ar)::(nat_lit 338,EA)::(nat_lit 339,Ez)::(nat_lit 340,ar)::(nat_lit 342,Ey)::(nat_lit 343,ar)::(nat_lit 345,Ex)::(nat_lit 346,Ew)::(nat_lit 347,Eu)::(nat_lit 348,Et P)::(nat_lit 349,Es)::(nat_lit 350,Er)::(nat_lit 351,Ep)::(nat_lit 361,ar)::(nat_lit 363,Eo)::(nat_lit 364,ar)::(nat_lit 366,En)::(nat_lit 367,Em)::(nat_lit 368,ar)::(nat_lit 371,Ek)::(nat_lit 372,Ej)::(nat_lit 373,ar)::(nat_lit 375,Ei)::(nat_lit 376,ar)::(nat_lit 378,Eh)::(nat_lit 379,Eg)::(nat_lit 380,Ef)::(nat_lit 381,Ee P)::(nat_lit 382,Ed)::(nat_lit 383,Ec)::(nat_lit 384,Eb)::(nat_lit 387,ar)::(nat_lit 389,Ea)::(nat_lit 390,ar)::(nat_lit 392,D9)::(nat_lit 393,D8)::(nat_lit 394,ar)::(nat_lit 396,D7)::(nat_lit 397,ar)::(nat_lit 399,D6)::(nat_lit 400,D5)::(nat_lit 401,ar)::(nat_lit 403,D4)::(nat_lit 404,ar)::(nat_lit 406,D3)::(nat_lit 407,D0)::(nat_lit 408,ar)::(nat_lit 410,DZ)::(nat_lit 411,ar)::(nat_lit 413,DY)::(nat_lit 414,DX)::(nat_lit 415,ar)::(nat_lit 417,DW)::(nat_lit 418,ar)::(nat_lit 420,DV)::(nat_lit 421,DU)::(nat_lit 422,ar)::(nat_lit 425,DT)::(nat_lit 426,DS)::(nat_lit 427,ar)::(nat_lit 429,DR)::(nat_lit 430,ar)::(nat_lit 432,DQ)::(nat_lit 433,DP)::(nat_lit 434,ar)::(nat_lit 437,DO)::(nat_lit 438,DN)::(nat_lit 439,ar)::(nat_lit 441,DM)::(nat_lit 442,ar)::(nat_lit 444,DL)::(nat_lit 445,DK)::(nat_lit 446,ar)::(nat_lit 449,DJ)::(nat_lit 450,DI)::(nat_lit 451,ar)::(nat_lit 453,DH)::(nat_lit 454,ar)::(nat_lit 456,DG)::(nat_lit 457,DF)::(nat_lit 458,ar)::(nat_lit 461,DE)::(nat_lit 462,DD)::(nat_lit 463,ar)::(nat_lit 465,DC)::(nat_lit 466,ar)::(nat_lit 468,DB)::(nat_lit 469,Dz)::(nat_lit 470,ar)::(nat_lit 472,Dy)::(nat_lit 473,ar)::(nat_lit 475,Dx)::(nat_lit 476,Dw)::(nat_lit 477,ar)::(nat_lit 479,Dv)::(nat_lit 480,ar)::(nat_lit 482,Du)::(nat_lit 483,Dt)::(nat_lit 484,ar)::(nat_lit 486,Ds)::(nat_lit 487,ar)::(nat_lit 489,Dr)::(nat_lit 490,Dq)::[]
noncomputable def hA:List VB:=nat_lit 2::nat_lit 3::nat_lit 15::nat_lit 22::nat_lit 23::nat_lit 24::nat_lit 25::nat_lit 28::nat_lit 35::nat_lit 36::nat_lit 37::nat_lit 40::nat_lit 47::nat_lit 48::nat_lit 49::nat_lit 52::nat_lit 59::nat_lit 60::nat_lit 61::nat_lit 64::nat_lit 66::nat_lit 67::nat_lit 69::nat_lit 70::nat_lit 71::nat_lit 73::nat_lit 74::nat_lit 76::nat_lit 77::nat_lit 78::nat_lit 80::nat_lit 81::nat_lit 83::nat_lit 84::nat_lit 85::nat_lit 87::nat_lit 88::nat_lit 90::nat_lit 91::nat_lit 92::nat_lit 93::nat_lit 94::nat_lit 95::nat_lit 96::nat_lit 98::nat_lit 99::nat_lit 101::nat_lit 102::nat_lit 103::nat_lit 105::nat_lit 106::nat_lit 108::nat_lit 109::nat_lit 110::nat_lit 112::nat_lit 113::nat_lit 115::nat_lit 116::nat_lit 117::nat_lit 119::nat_lit 120::nat_lit 122::nat_lit 123::nat_lit 124::nat_lit 126::nat_lit 127::nat_lit 129::nat_lit 130::nat_lit 131::nat_lit 133::nat_lit 134::nat_lit 136::nat_lit 137::nat_lit 138::nat_lit 141::nat_lit 142::nat_lit 143::nat_lit 146::nat_lit 147::nat_lit 148::nat_lit 150::nat_lit 151::nat_lit 153::nat_lit 154::nat_lit 155::nat_lit 158::nat_lit 159::nat_lit 160::nat_lit 163::nat_lit 164::nat_lit 165::nat_lit 167::nat_lit 168::nat_lit 170::nat_lit 171::nat_lit 172::nat_lit 174::nat_lit 175::nat_lit 177::nat_lit 178::nat_lit 179::nat_lit 181::nat_lit 182::nat_lit 184::nat_lit 185::nat_lit 186::nat_lit 189::nat_lit 190::nat_lit 191::nat_lit 193::nat_lit 194::nat_lit 196::nat_lit 197::nat_lit 198::nat_lit 201::nat_lit 202::nat_lit 203::nat_lit 206::nat_lit 207::nat_lit 208::nat_lit 210::nat_lit 211::nat_lit 213::nat_lit 214::nat_lit 215::nat_lit 217::nat_lit 218::nat_lit 220::nat_lit 221::nat_lit 222::nat_lit 224::nat_lit 225::nat_lit 227::nat_lit 228::nat_lit 229::nat_lit 231::nat_lit 232::nat_lit 234::nat_lit 235::nat_lit 236::nat_lit 238::nat_lit 239::nat_lit 241::nat_lit 242::nat_lit 243::nat_lit 245::nat_lit 246::nat_lit 248::nat_lit 249::nat_lit 250::nat_lit 252::nat_lit 253::nat_lit 255::nat_lit 256::nat_lit 257::nat_lit 259::nat_lit 260::nat_lit 262::nat_lit 263::nat_lit 264::nat_lit 266::nat_lit 267::nat_lit 269::nat_lit 270::nat_lit 271::nat_lit 273::nat_lit 274::nat_lit 276::nat_lit 277::nat_lit 278::nat_lit 281::nat_lit 282::nat_lit 283::nat_lit 285::nat_lit 286::nat_lit 288::nat_lit 289::nat_lit 290::nat_lit 292::nat_lit 293::nat_lit 295::nat_lit 296::nat_lit 297::nat_lit 299::nat_lit 300::nat_lit 302::nat_lit 303::nat_lit 304::nat_lit 307::nat_lit 308::nat_lit 316::nat_lit 319::nat_lit 320::nat_lit 321::nat_lit 323::nat_lit 324::nat_lit 326::nat_lit 327::nat_lit 328::nat_lit 331::nat_lit 332::nat_lit 333::nat_lit 335::nat_lit 336::nat_lit 338::nat_lit 339::nat_lit 340::nat_lit 342::nat_lit 343::nat_lit 345::nat_lit 346::nat_lit 347::nat_lit 348::nat_lit 349::nat_lit 350::nat_lit 351::nat_lit 361::nat_lit 363::nat_lit 364::nat_lit 366::nat_lit 367::nat_lit 368::nat_lit 371::nat_lit 372::nat_lit 373::nat_lit 375::nat_lit 376::nat_lit 378::nat_lit 379::nat_lit 380::nat_lit 381::nat_lit 382::nat_lit 383::nat_lit 384::nat_lit 387::nat_lit 389::nat_lit 390::nat_lit 392::nat_lit 393::nat_lit 394::nat_lit 396::nat_lit 397::nat_lit 399::nat_lit 400::nat_lit 401::nat_lit 403::nat_lit 404::nat_lit 406::nat_lit 407::nat_lit 408::nat_lit 410::nat_lit 411::nat_lit 413::nat_lit 414::nat_lit 415::nat_lit 417::nat_lit 418::nat_lit 420::nat_lit 421::nat_lit 422::nat_lit 425::nat_lit 426::nat_lit 427::nat_lit 429::nat_lit 430::nat_lit 432::nat_lit 433::nat_lit 434::nat_lit 437::nat_lit 438::nat_lit 439::nat_lit 441::nat_lit 442::nat_lit 444::nat_lit 445::nat_lit 446::nat_lit 449::nat_lit 450::nat_lit 451::nat_lit 453::nat_lit 454::nat_lit 456::nat_lit 457::nat_lit 458::nat_lit 461::nat_lit 462::nat_lit 463::nat_lit 465::nat_lit 466::nat_lit 468::nat_lit 469::nat_lit 470::nat_lit 472::nat_lit 473::nat_lit 475::nat_lit 476::nat_lit 477::nat_lit 479::nat_lit 480::nat_lit 482::nat_lit 483::nat_lit 484::nat_lit 486::nat_lit 487::nat_lit 489::nat_lit 490::[]
noncomputable def hE:Rl:={scope:=hP.main.scope,locals:=mainNs,globals:=mainNs,cells:=[],code:=(.ref 13),frame:=some 14}
noncomputable def hB:List Oo:=PySem.W.behindTheImports hP
noncomputable abbrev hC:Code:=.body hB hE
noncomputable abbrev hN:Option VA:=(some (.ref 6))
noncomputable abbrev hF:List Frame:=[PySem.W.topFrame ⟨0,0,0,0⟩]
noncomputable def hS(w:N9)(os:Px):N3:=⟨Vl w.params,Array.mk [],PySem.W.boot_drawn,PySem.W.boot_toks,os⟩
noncomputable def L6(w:N9)(os:Px):N3:=(PySem.W.topGo Oj hP w 11 hN 12 (hS w os) (Vw hP)).elim (hS w os) λx=>x.1
noncomputable def L5(w:N9)(os:Px):PySem.W.SharedT:=toT ((Vx Oj hP w 11 hN 1 1 (L6 w os) (Vy hB hE hC ⟨0,0,0,0⟩ hF)).elim (L6 w os) λx=>x.2.1)
theorem hpre(w:N9)(os:Px):PySem.W.topGo Oj hP w 11 hN 12 (hS w os) (Vw hP)=some (L6 w os,⟨denote Oj hC,hC,⟨0,0,0,0⟩,hF⟩):=by kernel_rfl
theorem NB(w:N9)(os:Px):Vx Oj hP w 11 hN 1 1 (L6 w os) (Vy hB hE hC ⟨0,0,0,0⟩ hF)=some (.next,(L5 w os).abs,hC,⟨0,0,0,0⟩):=by kernel_rfl
noncomputable def hL1(P:Qi):PySem.W.BT:=aG (PySem.W.boot_o_0 P) (aG (PySem.W.boot_o_1 P) (aG (zo3 P) (aG (PySem.W.boot_o_7 P) (aG K5 (aG ar (aG MV (aG ar (aI E8) (aI Ec)) (aG ar (aI EI) (aI bn))) (aG JB (aG FP (aI KC) (aI ar)) (aG bn (aI Ep) (aI Dv)))) (aG ar (aG bn (aG ar (aI ar) (aI D6)) (aG Fu (aI EB) (aI ar))) (aG bn (aG ar (aI EL) (aI J4)) (aG ar (aI Em) .nil)))) (aG (KP P) (aG M6 (aG ar (aG K8 (aI E4) (aI Ka)) (aG bn (aI EE) (aI J0))) (aG ar (aG FM (aI EQ) (aI bn)) (aG Fi (aI Kk) (aI ar)))) (aG ar (aG JH (aG ar (aI bn) (aI D0)) (aG ar (aI ar) (aI bn))) (aG Gf (aG KZ (aI (Ky P)) (aI ar)) (aG KL (aI Ei) .nil))))) (aG ar (aG bn (aG ar (aG ar (aG ar (aI E6) (aI ar)) (aG KW (aI EG) (aI ar))) (aG ar (aG FO (aI bn) (aI J6)) (aG Fk (aI xm) (aI Dt)))) (aG M0 (aG JJ (aG FU (aI KF) (aI D4)) (aG ar (aI Ez) (aI JY))) (aG Gh (aG ar (aI EK) (aI bn)) (aG ar (aI Ek) .nil)))) (aG Nb (aG ar (aG MT (aG bn (aI ar) (aI bn)) (aG ar (aI ED) (aI bn))) (aG Lc (aG FK (aI EN) (aI ar)) (aG Fg (aI Eo) .nil))) (aG ar (aG JF (aG ar (aI ar) (aI ar)) (aG KR (aI Eu) (aI Dx))) (aG Gd (aG bn (aI Kv) (aI J2)) (aG bn (aI Eg) .nil)))))) (aG (PySem.W.boot_o_5 P) (aG (PySem.W.boot_o_9 P) (aG (Ng P) (aG M9 (aG bn (aG Gb (aI ar) (aI Kc)) (aG FA (aI ar) (aI DJ))) (aG bn (aG bn (aI ES) (aI DW)) (aG ar (aI Kn) (aI JV)))) (aG JT (aG ar (aG K6 (aI EZ) (aI ar)) (aG bn (aI Kq) (aI DC))) (aG ar (aG FI (aI bn) (aI DP)) (aG Fe (aI bn) .nil)))) (aG KJ (aG xm (aG JN (aG FY (aI bn) (aI D8)) (aG Fx (aI bn) (aI DF))) (aG Gm (aG K1 (aI ar) (aI DT)) (aG KO (aI ar) (aI Dr)))) (aG MY (aG MR (aG FS (aI EW) (aI bn)) (aG Fp (aI Ex) (aI ar))) (aG La (aG FD (aI Kx) (aI DM)) (aG Fa (aI Kd) .nil))))) (aG Ni (aG Nd (aG Kg (aG JP (aG F0 (aI KH) (aI Ea)) (aG Fy (aI Ks) (aI DH))) (aG Go (aG ar (aI ar) (aI DU)) (aG ar (aI ar) (aI bn)))) (aG xm (aG ar (aG bn (aI EX) (aI J8)) (aG Fs (aI bn) (aI Dz))) (aG ar (aG FG (aI ar) (aI DO)) (aG Fc (aI ar) .nil)))) (aG xm (aG M4 (aG JL (aG FX (aI E2) (aI ar)) (aG KT (aI ar) (aI DE))) (aG Gj (aG bn (aI KA) (aI DR)) (aG bn (aI Kh) .nil))) (aG JR (aG JD (aG K3 (aI EU) (aI DY)) (aG Fn (aI Es) (aI ar))) (aG bn (aG FC (aI bn) (aI DK)) (aG ar (aI (Ee P)) .nil))))))) (aG (Vv P) (aG (PySem.W.boot_o_4 P) (aG (PySem.W.boot_o_8 P) (aG xm (aG bn (aG ar (aG K9 (aI E7) (aI Eb)) (aG bn (aI EH) (aI J1))) (aG ar (aG ar (aI ET) (aI bn)) (aG Fm (aI Ko) (aI ar)))) (aG (JW P) (aG JK (aG bn (aI bn) (aI D5)) (aG ar (aI ar) (aI bn))) (aG Gi (aG K0 (aI ar) (aI DQ)) (aG KM (aI ar) .nil)))) (aG KN (aG xl (aG bn (aG FZ (aI ar) (aI D9)) (aG KU (aI ar) (aI DG))) (aG bn (aG ar (aI EO) (aI J5)) (aG ar (aI Ki) (aI JU)))) (aG bn (aG ar (aG K4 (aI KD) (aI ar)) (aG bn (aI Kp) (aI Dy))) (aG ar (aG FE (aI ar) (aI bn)) (aG Fb (aI ar) .nil))))) (aG Nj (aG Nf (aG (Kj P) (aG MU (aG bn (aI ar) (aI bn)) (aG Fz (aI ar) (aI bn))) (aG Ld (aG FN (aI ER) (aI DV)) (aG Fj (aI (Km P)) (aI ar)))) (aG xl (aG JI (aG ar (aI EY) (aI ar)) (aG KS (aI ar) (aI DB))) (aG Gg (aG bn (aI EJ) (aI J3)) (aG bn (aI Ej) .nil)))) (aG xl (aG bn (aG JM (aG K7 (aI KG) (aI D7)) (aG bn (aI EC) (aI JZ))) (aG Gk (aG ar (aI ar) (aI bn)) (aG ar (aI ar) .nil))) (aG (JS P) (aG JE (aG bn (aI bn) (aI J7)) (aG Fo (aI (Et P)) (aI Dw))) (aG ar (aG KY (aI ar) (aI DL)) (aG E9 (aI Ef) .nil)))))) (aG (PySem.W.boot_o_6 P) (aG (PySem.W.boot_o_10 P) (aG ar (aG M8 (aG JQ (aG Ga (aI bn) (aI Kb)) (aG ar (aI bn) (aI DI))) (aG JA (aG K2 (aI ar) (aI ar)) (aG KQ (aI ar) (aI Du)))) (aG M2 (aG MS (aG FV (aI ar) (aI bn)) (aG Ft (aI EA) (aI ar))) (aG Lb (aG FH (aI Kz) (aI ar)) (aG Fd (aI Ke) .nil)))) (aG Nc (aG (M5 P) (aG ar (aG ar (aI E3) (aI ar)) (aG Fw (aI Kr) (aI ar))) (aG ar (aG FL (aI bn) (aI DS)) (aG Fh (aI bn) (aI Dq)))) (aG MX (aG JG (aG FR (aI EV) (aI DZ)) (aG ar (aI Ew) (aI JX))) (aG Ge (aG ar (aI Kw) (aI ar)) (aG ar (aI Eh) .nil))))) (aG Nh (aG ar (aG M7 (aG JO (aG ar (aI E5) (aI ar)) (aG ar (aI EF) (aI ar))) (aG Gn (aG bn (aI KB) (aI ar)) (aG bn (aI Kl) (aI Ds)))) (aG (MZ P) (aG bn (aG FT (aI ar) (aI D3)) (aG Fq (aI Ey) (aI ar))) (aG bn (aG ar (aI xm) (aI DN)) (aG ar (aI bn) .nil)))) (aG (Na P) (aG M3 (aG ar (aG FW (aI E1) (aI J9)) (aG Fv (aI bn) (aI DD))) (aG ar (aG FJ (aI EM) (aI ar)) (aG Ff (aI En) .nil))) (aG MW (aG JC (aG FQ (aI ar) (aI DX)) (aG ar (aI Er) (aI bn))) (aG Gc (aG FB (aI Ku) (aI ar)) (aG KI (aI Ed) .nil)))))))
noncomputable def NC(w:N9)(os:Px):PySem.W.SharedT:=stT (hL1 w.params) 491 905 w.params os
noncomputable def hT1:List Oo:=(hB.drop 0).take 83
theorem L1(w:N9):(λos=>PySem.W.segRunT Oj hP w 11 hN 1 3322 (L5 w os) ⟨(execs hT1 hE).wrap Vq PySem.W.deadEnd id id,hC,⟨0,0,0,0⟩,hF⟩)=λos=>some (Flow.next,(NC w os),hC,⟨366,0,380,47⟩):=by
 rw[PySem.W.Fast.te10110043849684766642,PySem.W.Fast.te12563942051412417395,PySem.W.Fast.te14364793385576792824]
 kernel_rfl
noncomputable def hSf(tr:(String->Option Pj)->N5->N9->Nat->Option VA->Nat->N3->Thread->Option N3)(tb:String->Option Pj)(w:N9)(os:Px):N3:=
 (tr tb hP w 11 hN 2 (NC w os).abs ⟨Vq .next,hC,⟨366,0,380,47⟩,hF⟩).elim (hS w os) id
noncomputable def hX(s:N3):Bool:=PySem.W.xlAt hQ [] s&&PySem.W.recOk (PySem.W.RowW.records PySem.Challenge.rw_playboard_k16_whole_places_stay_good.row.toRowW) s
theorem NA(w:N9):(λos=>U7 Oj hP w 11 hN 2 (NC w os).abs ⟨Vq .next,hC,⟨366,0,380,47⟩,hF⟩)=λos=>some (hSf U7 Oj w os):=by
 rw[PySem.W.Fast.te14364793385576792824,PySem.W.Fast.te14082659384304107361]
 kernel_rfl
theorem ID(w:N9):(λos=>(PySem.W.staticsOk (OY hP.main.body) (Vl w.params) (hSf U7 Oj w os).heap&&PySem.W.namesBound hP (hSf U7 Oj w os).heap&&PySem.W.gensDone (hSf U7 Oj w os)&&PySem.W.laidKept (Vl w.params) (hSf U7 Oj w os).heap))=λos=>true:=by
 rw[PySem.W.Fast.te14364793385576792824,PySem.W.Fast.te14082659384304107361,PySem.W.Fast.te5923862056798008813]
 kernel_rfl
theorem IC(w:N9):(λos=>PySem.W.openSeen hQ [] (OY hP.main.body) hX true (hSf U7 Oj w os))=λos=>PySem.W.openGood hQ []:=by
 rw[PySem.W.Fast.te14364793385576792824,PySem.W.Fast.te14082659384304107361,PySem.W.Fast.te4187177175401517315,PySem.W.Fast.te5923862056798008813]
 kernel_rfl
theorem IB(w:N9):(λos=>wN hA (hSf U7 Oj w os))=λos=>wM hK w:=by
 rw[PySem.W.Fast.te14364793385576792824,PySem.W.Fast.te14082659384304107361]
 kernel_rfl
theorem hBe:hB=(hT1++[]):=by kernel_rfl
theorem L4(w:N9)(os:Px):U7 Oj hP w 11 hN (3322+2) (L5 w os).abs (Vz hB hE hC ⟨0,0,0,0⟩ hF)=some (hSf U7 Oj w os):=by have r:=PySem.W.piece_nil (env:=hE) (congrFun (NA w) os);have r:=PySem.W.piece_app (PySem.W.segRun_of (congrFun (L1 w) os)) r;exact(NW (λl=>U7 Oj hP w 11 hN (3322+2) (L5 w os).abs (Vz l hE hC ⟨0,0,0,0⟩ hF)) hBe).trans r
theorem hleft:PySem.W.LeftO hP hQ [] hX (wN hA) (wM hK) 6768:=
 yh (n0:=12) (nb:=1) (n:=(3322+2)) (qp:=⟨0,0,0,0⟩) (p0:=⟨0,0,0,0⟩) (p1:=⟨0,0,0,0⟩) (H₀:=Vl) (m₀:=11) (ann:=hN) (b:=hB) (env:=hE) (sa:=L6) (sb:=L5) (sf:=λw os=>(hSf U7 Oj w os))
  (PySem.W.boot_open (by kernel_rfl) (by decide+kernel) (λs=>by kernel_rfl)) (λw=>by kernel_rfl) hpre NB L4 (by decide+kernel) (λw os=>by rw[congrFun (ID w) os,congrFun (IC w) os,congrFun (IB w) os])
end K16
local macro_rules| `(tactic|walk_at "rd")=> `(tactic|simp only[L2.bj,L2.lS,L2.cg,L2.tAsg,L2.gName,L2.lR,L2.jf,L2.eF,L2.tC,L2.nK,L2.eY,L2.fX,L2.tL,L2.C6,L2.xa,L2.C7,L2.Jv,L2.tK,L2.Ju,L2.w9,L2.lB,L2.cB,L2.bo,L2.NG,L2.cL,L2.Ms,L2.yR,L2.eA,L2.xv,L2.BQ,L2.Hq,L2.Jq,L2.kS,L2.j4,L2.zY,L2.zO,L2.zX,L2.zN,L2.B9,L2.B5,L2.B8,L2.B4,L2.pT,L2.pK,L2.pU,L2.pL,L2.pP,L2.pH,L2.si,L2.rP,L2.pO,L2.pG,L2.sk,L2.rR,L2.su,L2.rS,L2.pR,L2.pJ,L2.pQ,L2.pI,L2.sj,L2.rQ,L2.B7,L2.B3,L2.zQ,L2.kF,L2.zW,L2.xP,L2.zP,L2.nY,L2.rY,L2.rO,L2.jQ,L2.ij,L2.zV,L2.rX,L2.hU,L2.lj,L2.zS,L2.rT,L2.rZ,L2.mr,L2.B6,L2.uH,L2.pN,L2.lq,L2.zU,L2.rW,L2.pM,L2.lm,L2.zT,L2.rV,L2.Lx,L2.HJ,L2.zZ,L2.Ll,L2.Lq,L2.HI,L2.Lr,L2.Lp,L2.Lu,L2.Lv,L2.Ln,L2.Lo,L2.HE,L2.HF,L2.Ls,L2.Lm,L2.HG,L2.HH,L2.Lw,L2.Np,L2.uG,L2.Lk,L2.xN,L2.zR,L2.xO,L2.xM,L2.r_b,Tz,TB,SR,Tb,RT,UJ,Bool.not_false,UE,if_true,if_false,decide_true,decide_false])
namespace K16
open PySem L2
abbrev bH(K:Frag)(x:Str)(st:Oo)(f:VB)(fd:Oa):Prop:=U3 K Ob x=some (some (.ref f))/\cF K x x st f fd
theorem mD(P:N5)(w:N9)(np:Oe){K:Frag}{h:Oe}{mg:NX}(X:K.In h)(G:h.Ns Ob mg){x:Str}{st:Oo}{ps:List Str}{k:Nat}{sp:Sp}{f:VB}{fd:Oa}(F:bH K x st f fd)(o:aY P w K mg np cK k f fd ps sp)(b:∀(kV doc pm:VA)(an:Option VB)(cdv ct:VA)(us:List VA),us.length=ps.length->bindArgs (Va x x (fG st) (dO st) (al st) .none kV doc pm an cdv ct) ⟨us,[]⟩=pure (ps.zip us):=by intro _ _ _ _ _ _;first|exact L2.ln1 (λ_=>rfl)|exact L2.LS (λ_ _=>rfl)|exact L2.ln3 (λ_ _ _=>rfl)|exact L2.Nu (λ_ _ _ _=>rfl)|exact L2.ln5 (λ_ _ _ _ _=>rfl)|exact L2.ln6 (λ_ _ _ _ _ _=>rfl)):cy P w K mg np x ps k sp:=⟨f,_,o,U6 X G F.1,F.2.kp,F.2.binds b⟩
noncomputable abbrev ζL(o:VA)(d:Option VB)(a b:Str)(s:Oo)(k c p:VA)(n:Option VB)(e t:VA)(l:Array (Option VA)):Obj:=⟨o,d,.func (Va a b (fG s) (dO s) (al s) .none k c p n e t),l⟩
theorem all_mk{l:PySem.W.OpenLaw}{w:N9}{K:Frag}{h:Oe}{mg:NX}{fa f1 f2 f3 f4 f5 f6 f7 f8 f9 f10 f11 f12 f13 f14 f15 f16 f17 f18 f19 f20 f21 f22 f23 f24 f25 f26 f27 f28 f29 f30 f31 f32 f33 f34 f35 f36 f37 f38 f39 f40 f41 f42 f43 f44 f45 f46 f47 f48 f49 f50 f51 f52 f53 f54 f55 f56 f57 f58 f59 f60 cBoard cGame aS aA aE aW:VB}(X:K.In h)(G:h.Ns Ob mg)(hfa:mg "law"=some (.ref fa)){od60 an60:Option VB}{sl60:Array (Option VA)}{oc60 kV60 dc60 pm60 cd60 ct60:VA}{d1 d2 d3 d4 d5 d6 d7 d8 d9 d10 d11 d12 d13 d14 d15 d16 d17 d18 d19 d20 d21 d22 d23 d24 d25 d26 d27 d28 d29 d30 d31 d32 d33 d34 d35 d36 d37 d38 d39 d40 d41 d42 d43 d44 d45 d46 d47 d48 d49 d50 d51 d52 d53 d54 d55 d56 d57 d58 d59:Oa}{u0 u1 u2 u3 u4 u5 u6 u7:VA}(aCBoard:U3 K Ob "Board"=some (some (.ref cBoard)))(aCGame:U3 K Ob "Game"=some (some (.ref cGame)))(F1:bH K "is_whole" fN f1 d1)(F2:bH K "is_letter" eO f2 d2)(F3:bH K "is_among" fQ f3 d3)(F4:bH K "number_text" c7 f4 d4)(F5:bH K "is_word" gM f5 d5)(F6:bH K "is_tuple_of" c8 f6 d6)(F7:bH K "is_list_of" dF f7 d7)(F8:bH K "is_step" gO f8 d8)(F9:bH K "is_rule" gP f9 d9)(F10:bH K "is_pair" gQ f10 d10)(F11:bH K "are_pairs" dn f11 d11)(F12:bH K "is_turns" dh f12 d12)(F13:bH K "is_ends" gR f13 d13)(F14:bH K "are_kinds" dt f14 d14)(F15:bH K "are_rules" dm f15 d15)(F16:bH K "sign_of" gG f16 d16)(F17:bH K "kind_of" gK f17 d17)(F18:bH K "side_of" gH f18 d18)(F19:bH K "empty_row" dk f19 d19)(F20:bH K "put" rM f20 d20)(F21:bH K "squares_of" cR f21 d21)(F22:bH K "is_row" fO f22 d22)(F23:bH K "is_place" fP f23 d23)(F24:bH K "ray" rL f24 d24)(F25:bH K "slid" mj f25 d25)(F26:bH K "jumped" iC f26 d26)(F27:bH K "by_rule" gS f27 d27)(F28:bH K "goals" jN f28 d28)(F29:bH K "column_of" eP f29 d29)(F30:bH K "row_of" iB f30 d30)(F31:bH K "square_at" eK f31 d31)(F32:bH K "square_text" cZ f32 d32)(F33:bH K "moves" iY f33 d33)(F34:bH K "arrived" gT f34 d34)(F35:bH K "behind" iD f35 d35)(F36:bH K "done" mn f36 d36)(F37:bH K "are_holes" du f37 d37)(a38:U4 K (.ref cBoard) "__init__"=some (some (.ref f38)))(iF38:U9 K (.ref f38)=true)(F38:cF K "__init__" "Board.__init__" bS f38 d38)(a39:U4 K (.ref cBoard) "has"=some (some (.ref f39)))(iF39:U9 K (.ref f39)=true)(F39:cF K "has" "Board.has" eU f39 d39)(a40:U4 K (.ref cBoard) "moved"=some (some (.ref f40)))(iF40:U9 K (.ref f40)=true)(F40:cF K "moved" "Board.moved" db f40 d40)(a41:U4 K (.ref cBoard) "far_row"=some (some (.ref f41)))(iF41:U9 K (.ref f41)=true)(F41:cF K "far_row" "Board.far_row" cA f41 d41)(a42:U4 K (.ref cGame) "__init__"=some (some (.ref f42)))(iF42:U9 K (.ref f42)=true)(F42:cF K "__init__" "Game.__init__" cz f42 d42)(a43:U4 K (.ref cGame) "rules_of"=some (some (.ref f43)))(iF43:U9 K (.ref f43)=true)(F43:cF K "rules_of" "Game.rules_of" bV f43 d43)(a44:U4 K (.ref cGame) "turned"=some (some (.ref f44)))(iF44:U9 K (.ref f44)=true)(F44:cF K "turned" "Game.turned" da f44 d44)(F45:bH K "move_text" eM f45 d45)(F46:bH K "move_of" gJ f46 d46)(F47:bH K "_law_cell_at" cN f47 d47)(F48:bH K "_law_mixed" dG f48 d48)(F49:bH K "_law_board" dH f49 d49)(F50:bH K "_law_kinds" cT f50 d50)(F51:bH K "_law_rule" eS f51 d51)(F52:bH K "_law_turns" cS f52 d52)(F53:bH K "_law_game" eT f53 d53)(F54:bH K "_law_row" cw f54 d54)(F55:bH K "_law_side" eQ f55 d55)(F56:bH K "_law_pieces" cD f56 d56)(F57:bH K "_law_without" cM f57 d57)(F58:bH K "_law_own_right" ci f58 d58)(F59:bH K "_law_step_right" bX f59 d59)(a60:U3 K Ob "law"=some (some (.ref f60)))(l60:K.lookup f60=some (ζL oc60 od60 "law" "law" jM kV60 dc60 pm60 an60 cd60 ct60 sl60))(c60:Vk K cd60 "law"=true)(k60:Vc K (.ref f60)=true)(pgXBoard:Ve K cBoard Pu=true)(hdXBoard:Vf K cBoard=true)(poXBoard:Vh K cBoard=true)(saXBoard:U4 K (.ref cBoard) "__setattr__"=some (some (.builtin "object.__setattr__")))(mkXBoard:Vi K cBoard=true)(kcXBoard:Vc K (.ref cBoard)=true)(naBoardwide:U4 K (.ref cBoard) "wide"=some none)(naBoardhigh:U4 K (.ref cBoard) "high"=some none)(naBoardholes:U4 K (.ref cBoard) "holes"=some none)(naBoardfirm:U4 K (.ref cBoard) "firm"=some none)(pgXGame:Ve K cGame Pu=true)(hdXGame:Vf K cGame=true)(poXGame:Vh K cGame=true)(saXGame:U4 K (.ref cGame) "__setattr__"=some (some (.builtin "object.__setattr__")))(mkXGame:Vi K cGame=true)(kcXGame:Vc K (.ref cGame)=true)(naGameboard:U4 K (.ref cGame) "board"=some none)(naGamekinds:U4 K (.ref cGame) "kinds"=some none)(naGamerules:U4 K (.ref cGame) "rules"=some none)(naGameturns:U4 K (.ref cGame) "turns"=some none)(naGameends:U4 K (.ref cGame) "ends"=some none)(naGamestuck:U4 K (.ref cGame) "stuck"=some none)(z0:U3 K Ob "isinstance"=some none)(z1:U3 K Ob "int"=some none)(z2:U3 K Ob "bool"=some none)(z3:U3 K Ob "str"=some none)(z4:U3 K Ob "list"=some none)(z5:U3 K Ob "tuple"=some none)(z6:U3 K Ob "len"=some none)(z7:U3 K Ob "range"=some none)(z8:U3 K Ob "all"=some none)(z9:U3 K Ob "any"=some none)(z10:U3 K Ob "set"=some none)(z11:U3 K Ob "sorted"=some none)(z12:U3 K Ob "min"=some none)(z13:U3 K Ob "dict"=some none)(z14:U3 K Ob "enumerate"=some none)(z15:U3 K Ob "zip"=some none)(z16:U3 K Ob "reversed"=some none)(kg0:U3 K Ob "NOTHING"=some (some u0))(rv0:aQ (.int (-1)) u0)(kg1:U3 K Ob "EMPTY"=some (some u1))(rv1:aQ (.str ".") u1)(kg2:U3 K Ob "HOLE"=some (some u2))(rv2:aQ (.str "#") u2)(kg3:U3 K Ob "COLUMNS"=some (some u3))(rv3:aQ (.str "abcdefghijklmnopqrstuvwxyz") u3)(kg4:U3 K Ob "MOST_PAIRS"=some (some u4))(rv4:aQ (.int 6) u4)(kg5:U3 K Ob "MOST_KINDS"=some (some u5))(rv5:aQ (.int 6) u5)(kg6:U3 K Ob "MOST_RULES"=some (some u6))(rv6:aQ (.int 24) u6)(kg7:U3 K Ob "LONGEST"=some (some u7))(rv7:aQ (.int 8) u7){tO0:VA}{tD0:Option VB}{tI0:Array VA}{tN0:Nat}{tS0:Array (Option VA)}(kt0:U3 K Ob "SORTS"=some (some (.ref aS)))(lt0:K.lookup aS=some ⟨tO0,tD0,.seq tI0 tN0,tS0⟩)(ctp0:tO0=.type "tuple")(zt0:tI0.size<=v1)(vt0:aX ([V.str "leap",V.str "slide",V.str "jump"]) tI0.toList){tO1:VA}{tD1:Option VB}{tI1:Array VA}{tN1:Nat}{tS1:Array (Option VA)}(kt1:U3 K Ob "AIMS"=some (some (.ref aA)))(lt1:K.lookup aA=some ⟨tO1,tD1,.seq tI1 tN1,tS1⟩)(ctp1:tO1=.type "tuple")(zt1:tI1.size<=v1)(vt1:aX ([V.str "go",V.str "hit",V.str "any"]) tI1.toList){tO2:VA}{tD2:Option VB}{tI2:Array VA}{tN2:Nat}{tS2:Array (Option VA)}(kt2:U3 K Ob "END_WORDS"=some (some (.ref aE)))(lt2:K.lookup aE=some ⟨tO2,tD2,.seq tI2 tN2,tS2⟩)(ctp2:tO2=.type "tuple")(zt2:tI2.size<=v1)(vt2:aX ([V.str "without",V.str "home"]) tI2.toList){tO3:VA}{tD3:Option VB}{tI3:Array VA}{tN3:Nat}{tS3:Array (Option VA)}(kt3:U3 K Ob "STUCK_WORDS"=some (some (.ref aW)))(lt3:K.lookup aW=some ⟨tO3,tD3,.seq tI3 tN3,tS3⟩)(ctp3:tO3=.type "tuple")(zt3:tI3.size<=v1)(vt3:aX ([V.str "lost",V.str "even",V.str "won"]) tI3.toList):∃fd:Oa,(∀(s:N3)(v:VA),RF s fd ⟨[v],[]⟩ [("_law_script",v)])/\∀np:Oe,K.In np->np.Ns Ob mg->aY l.prog w K mg np cK 9 fa fd ["_law_script"] (v7 K):=by have e:=hfa.symm.trans (U6 X G a60);cases e;have T:Txt mg aS aA aE aW:=⟨U5 X G z0,U5 X G z1,U5 X G z2,U5 X G z3,U5 X G z4,U5 X G z5,U5 X G z6,U5 X G z7,U5 X G z8,U5 X G z9,U5 X G z10,U5 X G z11,U5 X G z12,U5 X G z13,U5 X G z14,U5 X G z15,U5 X G z16,⟨_,U6 X G kg0,rv0⟩,⟨_,U6 X G kg1,rv1⟩,⟨_,U6 X G kg2,rv2⟩,⟨_,U6 X G kg3,rv3⟩,⟨_,U6 X G kg4,rv4⟩,⟨_,U6 X G kg5,rv5⟩,⟨_,U6 X G kg6,rv6⟩,⟨_,U6 X G kg7,rv7⟩,⟨_,U6 X G kt0,rfl⟩,⟨_,U6 X G kt1,rfl⟩,⟨_,U6 X G kt2,rfl⟩,⟨_,U6 X G kt3,rfl⟩⟩;have hT_SORTS:∀H,io K H aS ["leap","slide","jump"]:=λH=>.inr (.inr ⟨_,tI0,tN0,lt0,ctp0,rfl,zt0,vt0⟩);have hT_AIMS:∀H,io K H aA ["go","hit","any"]:=λH=>.inr (.inr ⟨_,tI1,tN1,lt1,ctp1,rfl,zt1,vt1⟩);have hT_END_WORDS:∀H,io K H aE ["without","home"]:=λH=>.inr (.inr ⟨_,tI2,tN2,lt2,ctp2,rfl,zt2,vt2⟩);have hT_STUCK_WORDS:∀H,io K H aW ["lost","even","won"]:=λH=>.inr (.inr ⟨_,tI3,tN3,lt3,ctp3,rfl,zt3,vt3⟩);have b38:=F38.binds (ps:=["self","wide","high","holes"]) λ_ _ _ _ _ _=>L2.Nu (λ_ _ _ _=>rfl);have b39:=F39.binds (ps:=["self","square"]) λ_ _ _ _ _ _=>L2.LS (λ_ _=>rfl);have b40:=F40.binds (ps:=["self","square","across","up"]) λ_ _ _ _ _ _=>L2.Nu (λ_ _ _ _=>rfl);have b41:=F41.binds (ps:=["self","side"]) λ_ _ _ _ _ _=>L2.LS (λ_ _=>rfl);have b42:=F42.binds (ps:=["self","board","kinds","rules","turns","ends","stuck"]) λ_ _ _ _ _ _=>L2.ln7 (λ_ _ _ _ _ _ _=>rfl);have b43:=F43.binds (ps:=["self","kind"]) λ_ _ _ _ _ _=>L2.LS (λ_ _=>rfl);have b44:=F44.binds (ps:=["self","kind"]) λ_ _ _ _ _ _=>L2.LS (λ_ _=>rfl);have F60:=vo (st:=jM) l60 c60 k60;have b60:=F60.binds (ps:=["_law_script"]) λ_ _ _ _ _ _=>L2.ln1 (λ_=>rfl);have cl_Board:tX K cBoard:=⟨pgXBoard,hdXBoard,poXBoard,saXBoard⟩;have cl_Game:tX K cGame:=⟨pgXGame,hdXGame,poXGame,saXGame⟩;refine⟨Va "law" "law" (fG jM) (dO jM) (al jM) .none kV60 dc60 pm60 an60 cd60 ct60,λs v=>.of_eq rfl,λnp _ _=>?_⟩;have M:= @mD l.prog w np K h mg X G;have C_is_whole:=M F1 (sD F1.2 T);have C_is_letter:=M F2 (qf F2.2 T);have C_is_among:=M F3 (sH F3.2 T ⟨C_is_whole⟩);have C_is_word:=M F5 (uQ F5.2 T);have C_is_tuple_of:=M F6 (mz F6.2 T);have C_is_list_of:=M F7 (nA F7.2 T);have C_is_step:=M F8 (uR F8.2 T ⟨C_is_among⟩);have R2:RG2 l.prog w K mg np:=⟨C_is_word,C_is_tuple_of⟩;have R3:RG3 l.prog w K mg np:={toRG2:=R2,is_step:=C_is_step};have C_is_rule:=M F9 (uS F9.2 T hT_SORTS hT_AIMS R3);have C_is_pair:=M F10 (uT F10.2 T R2);have C_are_pairs:=M F11 (qj F11.2 T ⟨C_is_list_of,C_is_pair⟩);have C_is_ends:=M F13 (uU F13.2 T hT_END_WORDS ⟨C_are_pairs⟩);have C_is_turns:=M F12 (sE F12.2 T ⟨C_are_pairs⟩);have G1:NO l.prog w K mg np:=⟨C_is_list_of,C_is_letter,C_is_rule⟩;have C_are_kinds:=M F14 (qk F14.2 T G1);have C_are_rules:=M F15 (qi F15.2 T G1);have G2:GG2 l.prog w K mg np:=⟨C_are_kinds,C_are_rules,C_is_turns,C_is_ends,C_is_word⟩;have GC:vS K cGame:=⟨cl_Game,naGameboard,naGamekinds,naGamerules,naGameturns,naGameends,naGamestuck⟩;have C_Game:oO l.prog w K mg np "Game" cGame _ _ _:=⟨f42,_,⟨mkXGame,a42,iF42,kcXGame⟩,qu F42 T hT_STUCK_WORDS GC G2,U6 X G aCGame,b42⟩;have DA:CA l.prog w K mg np:=⟨Jf C_is_among⟩;have C_are_holes:=M F37 (ql F37.2 T DA);have DB2:CB2 l.prog w K mg np:={toCA:=DA,are_holes:=C_are_holes};have BC:iT K cBoard:=⟨cl_Board,naBoardwide,naBoardhigh,naBoardholes,naBoardfirm⟩;have C_Board:oO l.prog w K mg np "Board" cBoard _ _ _:=⟨f38,_,⟨mkXBoard,a38,iF38,kcXBoard⟩,nH F38 T BC DB2,U6 X G aCBoard,b38⟩;have C_column_of:=M F29 (qh F29.2 T);have C_row_of:=M F30 (x6 F30.2 T);have C_square_at:=M F31 (qd F31.2 T);have C_Board_moved:nj l.prog w K mg np cBoard "moved" _ _ _:=⟨⟨f40,_,mE F40 T BC ⟨C_column_of,C_row_of,C_square_at⟩,⟨a40,iF40,F40.kp⟩,b40⟩,cl_Board⟩;have DB3:CB3 l.prog w K mg np cBoard:={toCB2:=DB2,Board:=C_Board,Board_moved:=C_Board_moved};have C_ray:=M F24 (Ih F24.2 T BC DB3);have C_kind_of:=M F17 (uP F17.2 T);have C_side_of:=M F18 (uN F18.2 T);have C_sign_of:=M F16 (uM F16.2 T);have C_squares_of:=M F21 (nz F21.2 T ⟨C_side_of⟩);have C_put:=M F20 (Ii F20.2 T);have C_Board_has:nj l.prog w K mg np cBoard "has" _ _ _:=⟨⟨f39,_,qv F39 T BC DA,⟨a39,iF39,F39.kp⟩,b39⟩,cl_Board⟩;have C_empty_row:=M F19 (qg F19.2 T BC ⟨C_Board_has⟩);have C_is_row:=M F22 (x9 F22.2 T BC GC ⟨C_sign_of,C_empty_row⟩);have C_is_place:=M F23 (sG F23.2 T ⟨C_is_tuple_of,C_is_among,C_is_row⟩);have C_Game_turned:nj l.prog w K mg np cGame "turned" _ _ _:=⟨⟨f44,_,mC F44 T GC,⟨a44,iF44,F44.kp⟩,b44⟩,cl_Game⟩;have S1:CRs l.prog w K mg np:=⟨C_side_of⟩;have C_slid:=M F25 (Cq F25.2 T S1);have C_jumped:=M F26 (x8 F26.2 T S1);have S2:CRb l.prog w K mg np cBoard:={toCRs:=S1,ray:=C_ray,jumped:=C_jumped,slid:=C_slid};have C_by_rule:=M F27 (uV F27.2 T S2);have C_Game_rules_of:nj l.prog w K mg np cGame "rules_of" _ _ _:=⟨⟨f43,_,kI F43 T GC,⟨a43,iF43,F43.kp⟩,b43⟩,cl_Game⟩;have C_goals:=M F28 (Ap F28.2 T GC ⟨C_kind_of,C_by_rule,C_Game_rules_of⟩);have C_moves:=M F33 (Ao F33.2 T ⟨C_squares_of,C_goals⟩);have C_Board_far_row:nj l.prog w K mg np cBoard "far_row" _ _ _:=⟨⟨f41,_,kJ F41 T BC,⟨a41,iF41,F41.kp⟩,b41⟩,cl_Board⟩;have C_arrived:=M F34 (uW F34.2 T BC GC ⟨C_kind_of,C_sign_of,C_row_of,C_Board_far_row,C_Game_turned⟩);have C_behind:=M F35 (ya F35.2 T ⟨C_arrived,C_put⟩);have C_done:=M F36 (Cr F36.2 T ⟨C_moves,C_behind⟩);have C_number_text:=M F4 (lu F4.2 T);have C_square_text:=M F32 (mx F32.2 T ⟨C_number_text,C_column_of,C_row_of⟩);have C_move_text:=M F45 (qe F45.2 T BC GC ⟨C_square_text⟩);have C_move_of:=M F46 (uO F46.2 T ⟨C_moves,C_move_text⟩);have C__law_cell_at:=M F47 (lw F47.2 T);have C__law_mixed:=M F48 (nE F48.2 T);have LG:LG1 l.prog w K mg np:=⟨C__law_cell_at,C__law_mixed⟩;have C__law_board:=M F49 (nG F49.2 T LG);have C__law_kinds:=M F50 (nF F50.2 T);have C__law_rule:=M F51 (qo F51.2 T);have C__law_turns:=M F52 (nB F52.2 T);have LGG:LGg l.prog w K mg np cBoard cGame:={toLG1:=LG,_law_board:=C__law_board,_law_kinds:=C__law_kinds,_law_rule:=C__law_rule,_law_turns:=C__law_turns,Board:=C_Board,Game:=C_Game};have C__law_game:=M F53 (qr F53.2 T LGG);have C__law_row:=M F54 (sJ F54.2 T BC GC LG);have C__law_side:=M F55 (qm F55.2 T);have C__law_pieces:=M F56 (mB F56.2 T ⟨C__law_side⟩);have C__law_without:=M F57 (lv F57.2 T);have C__law_own_right:=M F58 (jT F58.2 T BC GC ⟨C__law_pieces,C__law_without⟩);have C__law_step_right:=M F59 (jy F59.2 T ⟨C_is_place,C__law_side,C__law_pieces,C__law_without,C__law_own_right⟩);have C:CL l.prog w K mg np cBoard cGame:={toLG1:=LG,_law_game:=C__law_game,_law_row:=C__law_row,moves:=C_moves,is_place:=C_is_place,done:=C_done,_law_step_right:=C__law_step_right,move_of:=C_move_of,move_text:=C_move_text};exact Ij F60 T BC GC C
theorem walk{l:PySem.W.OpenLaw}{q:N5}{loose:List Str}{XP:(NX)->Oe->Prop}{YP:N9->Oe->Prop}{d:DefRec}{K:Qi->Frag}(hn:l.most=some 63)(hdf:d.params.defaults=[])(hY:∀(w:N9)(h:Oe),YP w h->(K w.params).In h)(F:∀(w:N9)(mg:NX)(fa:VB)(h:Oe),(K w.params).In h->h.Ns Ob mg->mg d.name=some (.ref fa)->
   ∃fd:Oa,(∀(s:N3)(u:VA),RF s fd ⟨[u],[]⟩ [("_law_script",u)])/\∀np:Oe,(K w.params).In np->np.Ns Ob mg->aY l.prog w (K w.params) mg np cK 9 fa fd ["_law_script"] (v7 (K w.params))):PySem.W.WalkO q loose XP YP l.row.toRowW d [] (λf vs=>PySem.call f vs):=
 L2.BL (n:=63) (k:=9) (x:="_law_script") (CX:=λ_=>cK) (sp:=λw=>v7 (K w.params)) hn (by decide) hdf ⟨rfl,by decide,by decide⟩ hY F (λ_ _ a ns hl _ hS=>⟨a,ns,rfl,hS,hl,λ_=>rfl⟩) λ_ _ _ _ _ z=>z
end K16
namespace PySem.W
open Fast in
set_option maxRecDepth 100000 in
set_option maxHeartbeats 0 in
theorem wsaid:PySem.Challenge.rw_playboard_k16_whole_places_stay_good.wellSaid=true:=by
 unfold OpenLaw.wellSaid
 (repeat' (with_reducible first|refine look_both ?_ ?_|(unfold OpenRow.wellSaid)|(unfold OpenRow.partSaid)|(unfold OpenScript.wellSaid)|(unfold OpenRowC.wellSaid)|(unfold looksOpen)))<;>as_aux_lemma=>
  (repeat (first|rw[te10501279942588096481]|rw[te10792542408131684335]|rw[te11788848310118352699]|rw[te12749700546528644094]|rw[te12862048085361865435]|rw[te12879404354523853263]|rw[te13343964577679436407]|rw[te13582783067957832011]|rw[te14412699480532031325]|rw[te16286561074155671207]|rw[te17095254045102204799]|rw[te17119622794617984870]|rw[te17691160309236699985]|rw[te17868728402115742887]|rw[te18344453789297297638]|rw[te2357444279172408678]|rw[te2368527892694137696]|rw[te3471404346716756564]|rw[te4274047373036748609]|rw[te4579403493507170074]|rw[te482687673346738481]|rw[te4857012375875476094]|rw[te5318747976498570220]|rw[te5923862056798008813]|rw[te6984425678791042302]|rw[te7723801398212525404]|rw[te797321630700447069]|rw[te8179353310426384613]|rw[te8326940854005059898]|rw[te8377067652309620493]|rw[te9558739934217749035]|rw[te9572597257264208301]|rw[te9706382859710513879]|rw[te9807087744658564304]))
  kernel_rfl
end PySem.W
open PySem PySem.W PyProof.Rows
set_option maxRecDepth 100000 in
set_option maxHeartbeats 0 in
theorem PySem.Challenge.cw_playboard_k16_whole_places_stay_good_holds : PySem.Challenge.rw_playboard_k16_whole_places_stay_good.Holds := by
 w_on
 refine PySem.W.holds_law PySem.W.wsaid λsaid=>?_;refine PySem.W.holds_openX (q:=K16.hQ) (loose:=[]) (Xt:=K16.hX) (XP:=PySem.W.XL K16.hQ []) (Yf:=L2.wN K16.hA) (Ya:=L2.wM K16.hK) K16.hleft (λs e=>PySem.W.xl_of s (UP.mp e).1) PySem.W.XL.keeps (by rfl) (by rfl) (by rfl) (λs e=>PySem.W.recFacts_of (UP.mp e).2) (by rfl) (by first|assumption|decide+kernel) (by decide+kernel) ⟨rfl,rfl,rfl,rfl,rfl,by decide+kernel⟩ ?hw ?hc
 (case hw=>w_witness2)
 k_fill
 refine L2.zc (L2.L3 (λ_=>by kernel_rfl)) ?_;refine K16.walk (l:=PySem.Challenge.rw_playboard_k16_whole_places_stay_good) rfl rfl (λw h Y=>Y) ?F
 case F=>
  intro w mg fa h KX G hmg;apply K16.all_mk KX G hmg
  any_goals first|exact⟨by k_is,L2.vo (by k_is) (by k_is) (by k_is)⟩|exact L2.vo (by k_is) (by k_is) (by k_is)|k_is|exact⟨_,rfl⟩|kernel_rfl|decide|exact .cons ⟨_,rfl⟩ (.cons ⟨_,rfl⟩ .nil)|exact .cons ⟨_,rfl⟩ (.cons ⟨_,rfl⟩ (.cons ⟨_,rfl⟩ .nil))|skip
